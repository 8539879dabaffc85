/- prekeys: differ. -/
import Derived.Test.YtmmaimopombepaaAx
import Derived.Test.YtmmaimopombepaaBa
namespace Go.Proofs.Ytmmaimopombepaa
open Go.RowKit
set_option maxRecDepth 100000
/-! ### the sort of none -/
theorem insertion_none (c : Nat) (w : World) :
    Calls Try.prog 121 #[.slice none 0 c, .int .i64 0, .int .i64 0] w fun e w' => e = .returned (.tuple #[]) ∧ w' = w := by
  go_enter Try.func121, Try.ntmps121
  go_wp2_with fail
  go_loopw [6] (fun i wr => i = .int .i64 1 ∧ w = wr) (fun _ _ => 0)
  case atStart => exact ⟨rfl, rfl⟩
  case round =>
    obtain ⟨rfl, rfl⟩ := hrel
    go_wp2_with fail
    go_end0
    exact ⟨rfl, rfl⟩
theorem pdq_none (c L : Nat) (w : World) :
    Calls Try.prog 112 #[.slice none 0 c, .int .i64 0, .int .i64 0, .int .i64 (L : Int)] w fun e w' => e = .returned (.tuple #[]) ∧ w' = w := by
  go_enter Try.func112, Try.ntmps112
  go_wp2_with fail
  go_loopw [1, 2, 3, 8, 9] (fun s1 s2 s3 s8 s9 wr => s1 = .int .i64 0 ∧ s2 = .int .i64 0 ∧ s3 = .int .i64 (L : Int) ∧ s8 = .bool true ∧ s9 = .bool true ∧ w = wr) (fun _ _ _ _ _ _ => 0)
  case atStart => exact ⟨rfl, rfl, rfl, rfl, rfl, rfl⟩
  case round =>
    obtain ⟨rfl, rfl, rfl, rfl, rfl, rfl⟩ := hrel
    go_wp2_with (go_at_call 121; refine (insertion_none _ _).mono ?_; rintro e w2 ⟨rfl, rfl⟩)
    (try simp only [Exit.inBlock, Exit.then]); refine bodyPost_ret (results_none rfl _ _ _) rfl ?_
    exact ⟨rfl, rfl⟩
theorem sort_none (c : Nat) (w : World) :
    Calls Try.prog 89 #[.slice none 0 c] w fun e w' => e = .returned (.tuple #[]) ∧ w' = w := by
  have hL := Lib.hid (fun W => len_any 0 (by omega) W)
  go_enter Try.func89, Try.ntmps89
  go_wp2_with (first
    | (go_at_call 113; refine (hL.out _).mono ?_; rintro e w' ⟨L, rfl, rfl, h1, h2, h3⟩)
    | (go_at_call 112; refine (pdq_none _ _ _).mono ?_; rintro e w' ⟨rfl, rfl⟩))
  go_end0
  exact ⟨rfl, rfl⟩
theorem compact_none (c : Nat) (w : World) :
    Calls Try.prog 90 #[.slice none 0 c] w fun e w' => e = .returned (.slice none 0 c) ∧ w' = w := by
  go_enter Try.func90, Try.ntmps90
  go_wp2_with fail
  go_ret
  exact ⟨rfl, rfl⟩
/-! ### the numbers of points -/
def eNat : Enc Nat where
  enc x := [eU x]
  z := 1
  len _ := rfl
  one x v hv := by
    simp only [List.mem_cons, List.not_mem_nil, or_false] at hv
    subst hv
    rfl
  pos := by decide
theorem eNat_row (l : List Nat) : eNat.row l = l.map eU := by
  unfold Enc.row
  induction l with
  | nil => rfl
  | cons x l ih => rw [List.flatMap_cons, ih]; rfl
theorem infoU : (Try.prog.info? 23).map (fun i => (i.zero, i.size, i.bytes)) = some (some (.int .u64 0), 1, 8) := by kernel_rfl
/-- a row of the call's own, as the sort has it -/
theorem OwnE.rowU {w : World} {base : Nat} {v : Value} {l : List Nat} (h : OwnE eNat 23 w base v l) : v = .slice none 0 0 ∧ l = [] ∨ ∃ g c, v = .slice (some ⟨g, 0, none⟩) l.length c ∧ l.length ≤ c ∧ base ≤ g ∧ RowU w g 0 l.toArray := by
  rcases h.2 with ⟨h0, h1⟩ | ⟨g, cap, cur, rfl, hg, hc, hcap, -, -, ht⟩
  · exact Or.inl ⟨h0, List.eq_nil_of_length_eq_zero h1⟩
  · refine Or.inr ⟨g, cap, rfl, hcap, hg, cur, 23, hc, fun j hj => ?_⟩
    have hj2 : j < l.length := by simpa using hj
    have e2 : (eNat.row l)[j]? = some (eU l[j]) := by rw [eNat_row, List.getElem?_map, List.getElem?_eq_getElem hj2]; rfl
    have := World.ownsRow.cells h (g := g) rfl j _ e2
    rw [Addr.add_mid, Nat.zero_add, cell_of_row w g j cur _ _ hc] at this
    rw [Nat.zero_add, this]
    simp [hj2]
/-- sorted with no two neighbours alike: all differ -/
theorem apart_nodup {l : List Nat} {d : Array Nat} (p : Sort.PermIn 0 l.length l.toArray d) (s : Sort.SortedIn ltU 0 l.length d) : ApartU d l.length ↔ l.Nodup := by
  have hsz : d.size = l.length := by rw [p.1]; simp
  have hp : d.toList.Perm l := by
    have := p.2.2
    have e1 : (d.extract 0 l.length).toList = d.toList := by rw [← hsz]; simp
    have e2 : (l.toArray.extract 0 l.length).toList = l := by simp
    rw [e1, e2] at this
    exact this
  rw [← hp.nodup_iff]
  have hg : ∀ i, (hi : i < d.toList.length) → d.toList[i] = d[i]! := fun i hi => by
    rw [Array.getElem_toList]
    exact (getElem!_pos d i (by simpa using hi)).symm
  have hl : d.toList.length = l.length := by simpa using hsz
  constructor
  · intro h
    have mono : ∀ i j, i < j → j < l.length → d[i]! < d[j]! := by
      intro i j hij hj
      induction j with
      | zero => omega
      | succ j ih =>
        have h1 := s j (j + 1) (by omega) (by omega) hj
        have h2 := h j hj
        unfold ltU at h1
        have h3 := of_decide_eq_false h1
        rcases Nat.lt_or_ge i j with hlt | hge
        · have := ih hlt (by omega); omega
        · have e : i = j := by omega
          rw [e]; omega
    refine List.pairwise_iff_getElem.2 fun i j hi hj hij => ?_
    rw [hg i hi, hg j hj]
    have := mono i j hij (by omega)
    omega
  · intro h i hi e
    have := List.pairwise_iff_getElem.1 h i (i + 1) (by omega) (by omega) (by omega)
    rw [hg i (by omega), hg (i + 1) (by omega)] at this
    exact this e.symm
def DiRel (w : World) (base : Nat) (l : List Pn) (v i : Value) (wr : World) : Prop :=
  ∃ (k : Nat) (W : World), W = wr ∧ i = .int .i64 (k : Int) ∧ k ≤ l.length ∧ OwnE eNat 23 wr base v ((l.take k).map (·.id)) ∧ Below base w wr ∧ base ≤ wr.heap.size
set_option maxHeartbeats 4000000 in
theorem differ_any (a : Option Addr) (c : Nat) (l : List Pn) (hl : l.length < 50) (w : World) (h : PP w a c l) :
    Calls Try.prog 66 #[.slice a l.length c] w fun e w' => e = .returned (.bool (decide (alonePs l))) ∧ Below w.heap.size w w' := by
  have H := Lib.hid h
  have q : (l.length : Int) < 50 := by omega
  clear h
  go_enter Try.func66, Try.ntmps66
  go_wp2_with fail
  go_loopw [3, 8] (DiRel w w.heap.size l) (fun _ i _ => l.length - (Lib.intOf i).toNat)
  case atStart => exact ⟨0, _, rfl, rfl, Nat.zero_le _, OwnE.nil _ _ _ _, Below.refl _ _, Nat.le_refl _⟩
  case round =>
    obtain ⟨k, wr, rfl, rfl, h1, h2, h3, h4⟩ := hrel
    by_cases hk : k < l.length
    · have hkz : (k : Int) < (l.length : Int) := by omega
      obtain ⟨b, off, rfl, hlt, c0, c1⟩ := (H.out.on h3).get k hk
      obtain ⟨p, ep⟩ : ∃ p, l[k] = p := ⟨_, rfl⟩
      rw [ep] at c0 c1
      have HO := Lib.hid h2
      have HB := Lib.hid h3
      have HS := Lib.hid h4
      have hlen : ((l.take k).map (·.id)).length = k := by rw [List.length_map, List.length_take]; omega
      have HLN := Lib.hid (And.intro hlen ep)
      have hs1 : Sl eNat ((wr.alloc (.cells #[.int .u64 (p.id : Int), .string p.pt] 25)).alloc (.cells #[.int .u64 (p.id : Int)] 23)) (some ⟨wr.heap.size + 1, 0, none⟩) [p.id] := by
        have := Sl.one (E := eNat) (w := wr.alloc (.cells #[.int .u64 (p.id : Int), .string p.pt] 25)) 23 p.id
        rw [show (wr.alloc (.cells #[.int .u64 (p.id : Int), .string p.pt] 25)).heap.size = wr.heap.size + 1 by simp] at this
        exact this
      have HS1 := Lib.hid hs1
      clear h2 h3 h4 hs1 hlen ep
      go_wp2_with (at_builtin; refine append_E eNat 119 23 (.int .u64 0) 8 Try.underlying119 infoU rfl rfl _ _ rfl w.heap.size _ _ _ _ _ [p.id] rfl rfl rfl ((HO.out.alloc _).alloc _) HS1.out (fun e => by cases e) (by rw [HLN.out.1]; unfold maxLen; simp; omega) (by rw [HLN.out.1]; simp; omega) (by have := HS.out; simp; omega) ?_; intro v' w3 ho3 hg3; have HO3 := Lib.hid ho3; have HG3 := Lib.hid hg3; clear ho3 hg3)
      refine ⟨⟨k + 1, _, rfl, by go_num, by omega, ?_, ?_, ?_⟩, by simp [Lib.intOf]; omega⟩
      · have e : l.take (k + 1) = l.take k ++ [p] := by rw [← HLN.out.2]; exact List.take_succ_eq_append_getElem hk
        rw [e, List.map_append]
        exact HO3.out
      · exact OwnE.below ((HO.out.alloc _).alloc _) ((HB.out.alloc HS.out _).alloc (by have := HS.out; simp; omega) _) (by have := HS.out; simp; omega) HG3.out
      · have := HG3.out.size
        have := HS.out
        simp at *
        omega
    · have hkz : ¬ (k : Int) < (l.length : Int) := by omega
      have hkn : k = l.length := by omega
      rw [hkn, List.take_length] at h2
      obtain ⟨ids, ei⟩ : ∃ ids, l.map (·.id) = ids := ⟨_, rfl⟩
      have hil : ids.length = l.length := by rw [← ei, List.length_map]
      have hal : alonePs l ↔ ids.Nodup := by rw [← ei]; rfl
      rw [ei] at h2
      clear ei
      rcases h2.rowU with ⟨rfl, e0⟩ | ⟨g, c2, rfl, hc2, hg, hr⟩
      · rw [e0] at hil
        have hd : decide (alonePs l) = true := decide_eq_true (hal.2 (by rw [e0]; exact List.nodup_nil))
        have HD := Lib.hid hd
        have hl0 : l.length = 0 := hil.symm
        have hl0z : (l.length : Int) = 0 := by omega
        have HB := Lib.hid h3
        clear h2 h3 hil hal hd
        go_wp2_with (first
          | (go_at_call 89; refine (sort_none _ _).mono ?_; rintro e w' ⟨rfl, rfl⟩)
          | (go_at_call 90; refine (compact_none _ _).mono ?_; rintro e w' ⟨rfl, rfl⟩))
        go_ret
        exact ⟨by rw [HD.out]; simp, HB.out⟩
      · rw [hil] at hc2 ⊢
        have hsz : ids.toArray.size = l.length := by simp [hil]
        have O := Lib.hid (sortU_any g 0 c2 l.length ids.toArray hsz hl wr hr)
        have HX := Lib.hid (And.intro h3 (And.intro h4 (And.intro hg (And.intro hc2 (And.intro hil hal)))))
        clear h2 h3 h4 hr hsz hc2 hg hil hal
        go_upto_region 8 with (go_at_call 89; refine O.out.mono ?_; rintro e w2 ⟨rfl, d, hd, hsr, hp, hso⟩)
        have hap := apart_nodup (l := ids) (d := d) (by rw [HX.out.2.2.2.2.1]; exact hp) (by rw [HX.out.2.2.2.2.1]; exact hso)
        rw [HX.out.2.2.2.2.1] at hap
        have hB2 := hsr.below HX.out.1 HX.out.2.1 HX.out.2.2.1
        have O2 := Lib.hid (compact_any g 0 c2 l.length d hd HX.out.2.2.2.1 (by omega) w2 hsr.row)
        have hs2 := hsr.gr.size
        have HY := Lib.hid (And.intro hap (And.intro hB2 hs2))
        clear O hap hB2 hs2 hsr hp hso hd
        go_wp2_with (go_at_call 90; refine O2.out.mono ?_; rintro e w3 ⟨a3, k3, c3, rfl, hg3, hk3⟩)
        go_ret
        have hbo : Below w.heap.size w w3 := HY.out.2.1.grown hg3 (by have := HX.out.2.1; have := HY.out.2.2; omega) (fun k e => by cases e; exact HX.out.2.2.1)
        refine ⟨?_, hbo⟩
        rcases hk3 with ⟨h1, h2⟩ | ⟨h1, h2⟩
        · rw [show decide (alonePs l) = true from decide_eq_true (HX.out.2.2.2.2.2.2 (HY.out.1.1 h1))]
          simp [h2]
        · rw [show decide (alonePs l) = false from decide_eq_false fun h => h1 (HY.out.1.2 (HX.out.2.2.2.2.2.1 h))]
          simp
          omega
end Go.Proofs.Ytmmaimopombepaa