/- Rows of shelves of the call's own; the reference 15's With. -/
import Derived.Test.YtmmaimopombepaaBg
namespace Go.Proofs.Ytmmaimopombepaa
open Go.RowKit
set_option maxRecDepth 100000
theorem infoSh : (Try.prog.info? 28).map (fun i => (i.zero, i.size, i.bytes)) = some (some (.agg #[.int .u64 0, .string ⟨#[]⟩, .int .u64 0, .string ⟨#[]⟩, .slice none 0 0]), 5, 72) := by kernel_rfl
theorem infoPn : (Try.prog.info? 25).map (fun i => (i.zero, i.size, i.bytes)) = some (some (.agg #[.int .u64 0, .string ⟨#[]⟩]), 2, 24) := by kernel_rfl
/-- a row of shelves of the call's own, as a slice that can be read -/
theorem OwnE.ss {w : World} {base : Nat} {v : Value} {L : List ShM} (h : OwnE eSh 28 w base v L) (hp : ∀ m ∈ L, PtsAt w m) : ∃ a c, v = .slice a L.length c ∧ SS w a c L := by
  obtain ⟨a, c, e, h1, h2, h3, -⟩ := h.sl
  exact ⟨a, c, e, ⟨h2, hp⟩, h1, h3⟩
theorem one_sh (w : World) (m : ShM) (n : Nat) (hn : n = w.heap.size) : Sl eSh (w.alloc (.cells #[.int .u64 (m.s.user : Int), .string m.s.ident, .int .u64 (m.s.sgn.id : Int), .string m.s.sgn.pt, .slice m.a m.s.once.length m.c] 28)) (some ⟨n, 0, none⟩) [m] := by
  subst hn
  exact Sl.one (E := eSh) 28 m
def withM (L : List ShM) (m : ShM) : List ShM := L.filter (fun x => decide (x.s.user < m.s.user)) ++ m :: L.filter (fun x => decide (m.s.user < x.s.user))
theorem withM_shs (L : List ShM) (m : ShM) : shs (withM L m) = withS (shs L) m.s := by
  unfold withM withS shs
  rw [List.map_append, List.map_cons, List.filter_map, List.filter_map]
  rfl
theorem withM_mem {L : List ShM} {m x : ShM} (h : x ∈ withM L m) : x = m ∨ x ∈ L := by
  unfold withM at h
  rcases List.mem_append.1 h with h | h
  · exact Or.inr (List.mem_filter.1 h).1
  · rcases List.mem_cons.1 h with h | h
    · exact Or.inl h
    · exact Or.inr (List.mem_filter.1 h).1
theorem filterM_step (L : List ShM) (p : ShM → Bool) (i : Nat) (h : i < L.length) : (L.take (i + 1)).filter p = (L.take i).filter p ++ (if p L[i] then [L[i]] else []) := by
  rw [List.take_succ_eq_append_getElem h, List.filter_append]
  cases hp : p L[i]
  · simp [hp]
  · simp [hp]
theorem filterM_le (L : List ShM) (p : ShM → Bool) (i : Nat) : ((L.take i).filter p).length ≤ L.length := by
  have h1 := List.length_filter_le p (L.take i)
  rw [List.length_take] at h1
  omega
/-- the loop's words: what was taken of L lies behind R -/
def WiRel (w wb : World) (base : Nat) (L R : List ShM) (p : ShM → Bool) (v i : Value) (wr : World) : Prop :=
  ∃ (k : Nat) (W : World), W = wr ∧ i = .int .i64 (k : Int) ∧ k ≤ L.length ∧ Below w.heap.size w wr ∧ Below base wb wr ∧ OwnE eSh 28 wr base v (R ++ (L.take k).filter p)
set_option maxHeartbeats 8000000 in
theorem withR_any (a : Option Addr) (c : Nat) (L : List ShM) (m : ShM) (w : World) (h : SS w a c L) (hm : PtsAt w m) (hmax : L.length ≤ 1000) :
    Calls Try.prog 22 #[.slice a L.length c, .agg #[.int .u64 (m.s.user : Int), .string m.s.ident, .int .u64 (m.s.sgn.id : Int), .string m.s.sgn.pt, .slice m.a m.s.once.length m.c]] w fun e w' => ∃ a' c', e = .returned (.slice a' (withM L m).length c') ∧ SS w' a' c' (withM L m) ∧ Below w.heap.size w w' := by
  have H := Lib.hid h
  have HM := Lib.hid hm
  have q : (L.length : Int) ≤ 1000 := by omega
  obtain ⟨W0, eW⟩ : ∃ W0, w.alloc (.cells #[.int .u64 (m.s.user : Int), .string m.s.ident, .int .u64 (m.s.sgn.id : Int), .string m.s.sgn.pt, .slice m.a m.s.once.length m.c] 28) = W0 := ⟨_, rfl⟩
  have hb0 : Below w.heap.size w W0 := by rw [← eW]; exact (Below.refl _ w).alloc (Nat.le_refl _) _
  have hcB := heap_alloc_new w (.cells #[.int .u64 (m.s.user : Int), .string m.s.ident, .int .u64 (m.s.sgn.id : Int), .string m.s.sgn.pt, .slice m.a m.s.once.length m.c] 28)
  rw [eW] at hcB
  obtain ⟨B, eB⟩ : ∃ B, w.heap.size = B := ⟨_, rfl⟩
  rw [eB] at hcB
  have hBs : B < W0.heap.size := (Array.getElem?_eq_some_iff.1 hcB).1
  have HB0 := Lib.hid (And.intro hb0 (And.intro hcB (And.intro hBs eB)))
  have HX : ∀ W, Below W0.heap.size W0 W → W.heap[B]? = some (.cells #[.int .u64 (m.s.user : Int), .string m.s.ident, .int .u64 (m.s.sgn.id : Int), .string m.s.sgn.pt, .slice m.a m.s.once.length m.c] 28) := fun W hW => (hW.block B hBs).trans hcB
  have HXH := Lib.hid HX
  have o0 : OwnE eSh 28 (W0.alloc (.cells #[] 28)) W0.heap.size (.slice (some ⟨W0.heap.size, 0, none⟩) 0 0) [] := OwnE.empty _ _ _ _ (Nat.le_refl _)
  have b1 : Below W0.heap.size W0 (W0.alloc (.cells #[] 28)) := (Below.refl _ W0).alloc (Nat.le_refl _) _
  have O0 := Lib.hid (And.intro o0 b1)
  clear h hm hb0 hcB HX o0 b1
  go_enter Try.func22, Try.ntmps22
  have hb0 := HB0.out.1
  have hRl : ([] : List ShM).length ≤ 1001 := by simp
  go_upto_region 2 with fail
  clear eW
  go_wp2_with fail
  go_loopw [5, 13] (WiRel w W0 W0.heap.size L [] (fun y => decide (y.s.user < m.s.user))) (fun _ i _ => L.length - (Lib.intOf i).toNat)
  case atStart => exact ⟨0, _, rfl, rfl, Nat.zero_le _, hb0.trans (O0.out.2.mono hb0.size), O0.out.2, by rw [List.take_zero, List.filter_nil, List.append_nil]; exact O0.out.1⟩
  case round =>
    clear O0
    obtain ⟨k, wr, rfl, rfl, h1, h2, h3, h4⟩ := hrel
    by_cases hk : k < L.length
    · have hkz : (k : Int) < (L.length : Int) := by omega
      obtain ⟨b, off, rfl, hlt, hall⟩ := (H.out.on h2).sl.get k hk
      have hst := filterM_step L (fun y => decide (y.s.user < m.s.user)) k hk
      have hm5 := hall k hk
      obtain ⟨x, ex⟩ : ∃ x, L[k] = x := ⟨_, rfl⟩
      rw [ex] at hm5 hst
      obtain ⟨c0, c1, c2, c3, c4⟩ := hm5
      have hXb := HXH.out wr h3
      have hx0 : wr.cell? ⟨B, 0, none⟩ = some (.int .u64 (m.s.user : Int)) := by rw [cell_of_row _ _ _ _ _ _ hXb]; rfl
      have hBw : B < wr.heap.size := Nat.lt_of_lt_of_le hBs h3.size
      have HBB := Lib.hid (And.intro h2 h3)
      have HLN := Lib.hid (show (([] : List ShM) ++ (L.take k).filter (fun y => decide (y.s.user < m.s.user))).length ≤ 3000 by rw [List.length_append]; have := filterM_le L (fun y => decide (y.s.user < m.s.user)) k; have := hRl; omega)
      have HO := Lib.hid h4
      by_cases hc : x.s.user < m.s.user
      · have hcz : (x.s.user : Int) < (m.s.user : Int) := by omega
        rw [if_pos (by exact decide_eq_true hc)] at hst
        have HS := Lib.hid hst
        have HH := Lib.hid hc
        have HQ1 := Lib.hid (one_sh (wr.alloc (.cells #[.int .u64 (x.s.user : Int), .string x.s.ident, .int .u64 (x.s.sgn.id : Int), .string x.s.sgn.pt, .slice x.a x.s.once.length x.c] 28)) x (wr.heap.size + 1) (by simp))
        clear h2 h3 h4 hst hall ex hXb hc
        go_wp2_with (at_builtin; refine append_E eSh 22 28 _ 72 Try.underlying22 infoSh rfl rfl _ _ rfl W0.heap.size _ _ _ _ _ [x] rfl rfl rfl ((HO.out.alloc _).alloc _) HQ1.out (fun e => by cases e) (by have := HLN.out; unfold maxLen; simp only [List.length_singleton]; omega) (by have := HLN.out; simp only [List.length_singleton]; omega) (by have := HBB.out.2.size; simp; omega) ?_; intro v' w3 ho3 hg3; have HO3 := Lib.hid ho3; have HG3 := Lib.hid hg3; clear ho3 hg3)
        refine ⟨⟨k + 1, _, rfl, by go_num, by omega, ?_, ?_, ?_⟩, by simp [Lib.intOf]; omega⟩
        · exact OwnE.belowN ((HO.out.alloc _).alloc _) ((HBB.out.1.alloc HBB.out.1.size _).alloc (by have := HBB.out.1.size; simp; omega) _) hb0.size (by have := HBB.out.1.size; simp; omega) HG3.out
        · exact OwnE.below ((HO.out.alloc _).alloc _) ((HBB.out.2.alloc HBB.out.2.size _).alloc (by have := HBB.out.2.size; simp; omega) _) (by have := HBB.out.2.size; simp; omega) HG3.out
        · rw [HS.out, ← List.append_assoc]
          exact HO3.out
      · have hcz : ¬ (x.s.user : Int) < (m.s.user : Int) := by omega
        rw [if_neg (by simp; omega), List.append_nil] at hst
        have HS := Lib.hid hst
        clear h2 h3 h4 hst hall ex hXb hc
        go_wp2_with fail
        exact ⟨⟨k + 1, _, rfl, by go_num, by omega, HBB.out.1.alloc HBB.out.1.size _, HBB.out.2.alloc HBB.out.2.size _, by rw [HS.out]; exact HO.out.alloc _⟩, by simp [Lib.intOf]; omega⟩
    · have hkz : ¬ (k : Int) < (L.length : Int) := by omega
      have hkn : k = L.length := by omega
      rw [hkn, List.take_length] at h4
      have hRl := filterM_le L (fun y => decide (y.s.user < m.s.user)) L.length
      rw [List.take_length] at hRl
      rw [List.nil_append] at h4
      obtain ⟨F1, eF⟩ : ∃ F1, L.filter (fun y => decide (y.s.user < m.s.user)) = F1 := ⟨_, rfl⟩
      rw [eF] at h4 hRl
      have hXb := HXH.out wr h3
      have hx0 : wr.cell? ⟨B, 0, none⟩ = some (.int .u64 (m.s.user : Int)) := by rw [cell_of_row _ _ _ _ _ _ hXb]; rfl
      have hx1 : wr.cell? ⟨B, 1, none⟩ = some (.string m.s.ident) := by rw [cell_of_row _ _ _ _ _ _ hXb]; rfl
      have hx2 : wr.cell? ⟨B, 2, none⟩ = some (.int .u64 (m.s.sgn.id : Int)) := by rw [cell_of_row _ _ _ _ _ _ hXb]; rfl
      have hx3 : wr.cell? ⟨B, 3, none⟩ = some (.string m.s.sgn.pt) := by rw [cell_of_row _ _ _ _ _ _ hXb]; rfl
      have hx4 : wr.cell? ⟨B, 4, none⟩ = some (.slice m.a m.s.once.length m.c) := by rw [cell_of_row _ _ _ _ _ _ hXb]; rfl
      have HBB := Lib.hid (And.intro h2 h3)
      have HLN := Lib.hid (show F1.length ≤ 3000 by omega)
      have HO := Lib.hid h4
      have HQ1 := Lib.hid (one_sh wr m wr.heap.size rfl)
      have HF := Lib.hid eF
      have HRL := Lib.hid hRl
      clear h2 h3 h4 hXb eF hRl
      go_wp2_with (at_builtin; refine append_E eSh 22 28 _ 72 Try.underlying22 infoSh rfl rfl _ _ rfl W0.heap.size _ _ _ _ _ [m] rfl rfl rfl (HO.out.alloc _) HQ1.out (fun e => by cases e) (by have := HLN.out; unfold maxLen; simp only [List.length_singleton]; omega) (by have := HLN.out; simp only [List.length_singleton]; omega) (by have := HBB.out.2.size; simp; omega) ?_; intro v' w3 ho3 hg3; have HO3 := Lib.hid ho3; have HG3 := Lib.hid hg3; clear ho3 hg3)
      clear hx0 hx1 hx2 hx3 hx4
      have hRl : (F1 ++ [m]).length ≤ 1001 := by rw [List.length_append]; have := HRL.out; simp; omega
      have o2 := OwnE.belowN (HO.out.alloc _) (HBB.out.1.alloc HBB.out.1.size _) hb0.size (by have := HBB.out.1.size; simp; omega) HG3.out
      have o3 := OwnE.below (HO.out.alloc _) (HBB.out.2.alloc HBB.out.2.size _) (by have := HBB.out.2.size; simp; omega) HG3.out
      have HN := Lib.hid (And.intro o2 (And.intro o3 HO3.out))
      clear o2 o3 HO3 HG3 HO HBB HLN HQ1
      go_loopw [5, 33] (WiRel w W0 W0.heap.size L (F1 ++ [m]) (fun y => decide (m.s.user < y.s.user))) (fun _ i _ => L.length - (Lib.intOf i).toNat)
      case atStart => exact ⟨0, _, rfl, rfl, Nat.zero_le _, HN.out.1, HN.out.2.1, by rw [List.take_zero, List.filter_nil, List.append_nil]; exact HN.out.2.2⟩
      case round =>
        clear HN

        obtain ⟨k, wr, rfl, rfl, h1, h2, h3, h4⟩ := hrel
        by_cases hk : k < L.length
        · have hkz : (k : Int) < (L.length : Int) := by omega
          obtain ⟨b, off, rfl, hlt, hall⟩ := (H.out.on h2).sl.get k hk
          have hst := filterM_step L (fun y => decide (m.s.user < y.s.user)) k hk
          have hm5 := hall k hk
          obtain ⟨x, ex⟩ : ∃ x, L[k] = x := ⟨_, rfl⟩
          rw [ex] at hm5 hst
          obtain ⟨c0, c1, c2, c3, c4⟩ := hm5
          have hXb := HXH.out wr h3
          have hx0 : wr.cell? ⟨B, 0, none⟩ = some (.int .u64 (m.s.user : Int)) := by rw [cell_of_row _ _ _ _ _ _ hXb]; rfl
          have hBw : B < wr.heap.size := Nat.lt_of_lt_of_le hBs h3.size
          have HBB := Lib.hid (And.intro h2 h3)
          have HLN := Lib.hid (show ((F1 ++ [m]) ++ (L.take k).filter (fun y => decide (m.s.user < y.s.user))).length ≤ 3000 by rw [List.length_append]; have := filterM_le L (fun y => decide (m.s.user < y.s.user)) k; have := hRl; omega)
          have HO := Lib.hid h4
          by_cases hc : m.s.user < x.s.user
          · have hcz : (m.s.user : Int) < (x.s.user : Int) := by omega
            rw [if_pos (by exact decide_eq_true hc)] at hst
            have HS := Lib.hid hst
            have HH := Lib.hid hc
            have HQ1 := Lib.hid (one_sh (wr.alloc (.cells #[.int .u64 (x.s.user : Int), .string x.s.ident, .int .u64 (x.s.sgn.id : Int), .string x.s.sgn.pt, .slice x.a x.s.once.length x.c] 28)) x (wr.heap.size + 1) (by simp))
            clear h2 h3 h4 hst hall ex hXb hc
            go_wp2_with (at_builtin; refine append_E eSh 22 28 _ 72 Try.underlying22 infoSh rfl rfl _ _ rfl W0.heap.size _ _ _ _ _ [x] rfl rfl rfl ((HO.out.alloc _).alloc _) HQ1.out (fun e => by cases e) (by have := HLN.out; unfold maxLen; simp only [List.length_singleton]; omega) (by have := HLN.out; simp only [List.length_singleton]; omega) (by have := HBB.out.2.size; simp; omega) ?_; intro v' w3 ho3 hg3; have HO3 := Lib.hid ho3; have HG3 := Lib.hid hg3; clear ho3 hg3)
            refine ⟨⟨k + 1, _, rfl, by go_num, by omega, ?_, ?_, ?_⟩, by simp [Lib.intOf]; omega⟩
            · exact OwnE.belowN ((HO.out.alloc _).alloc _) ((HBB.out.1.alloc HBB.out.1.size _).alloc (by have := HBB.out.1.size; simp; omega) _) hb0.size (by have := HBB.out.1.size; simp; omega) HG3.out
            · exact OwnE.below ((HO.out.alloc _).alloc _) ((HBB.out.2.alloc HBB.out.2.size _).alloc (by have := HBB.out.2.size; simp; omega) _) (by have := HBB.out.2.size; simp; omega) HG3.out
            · rw [HS.out, ← List.append_assoc]
              exact HO3.out
          · have hcz : ¬ (m.s.user : Int) < (x.s.user : Int) := by omega
            rw [if_neg (by simp; omega), List.append_nil] at hst
            have HS := Lib.hid hst
            clear h2 h3 h4 hst hall ex hXb hc
            go_wp2_with fail
            exact ⟨⟨k + 1, _, rfl, by go_num, by omega, HBB.out.1.alloc HBB.out.1.size _, HBB.out.2.alloc HBB.out.2.size _, by rw [HS.out]; exact HO.out.alloc _⟩, by simp [Lib.intOf]; omega⟩
        · have hkz : ¬ (k : Int) < (L.length : Int) := by omega
          have hkn : k = L.length := by omega
          rw [hkn, List.take_length] at h4
          have HBB := Lib.hid (And.intro h2 h3)
          have e : F1 ++ [m] ++ L.filter (fun y => decide (m.s.user < y.s.user)) = withM L m := by unfold withM; rw [HF.out, List.append_assoc]; rfl
          rw [e] at h4
          have HO := Lib.hid h4
          clear h2 h3 h4 e
          go_wp2_with fail
          go_ret
          obtain ⟨a', c', e1, hss⟩ := HO.out.ss (fun y hy => by
            rcases withM_mem hy with rfl | hy
            · exact HM.out.on HBB.out.1
            · exact (H.out.sl.pts y hy).on HBB.out.1)
          subst e1
          exact ⟨a', c', rfl, hss, by rw [← HB0.out.2.2.2]; exact HBB.out.1⟩
end Go.Proofs.Ytmmaimopombepaa