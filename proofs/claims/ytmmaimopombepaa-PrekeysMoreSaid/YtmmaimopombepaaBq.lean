/- Law 15: points, few, alive; the reference's First and Rest. -/
import Derived.Test.YtmmaimopombepaaBp
namespace Go.Proofs.Ytmmaimopombepaa
open Go.RowKit
set_option maxRecDepth 100000
theorem min_of (n k : Nat) (h : k ≤ n) : min (n : Int) (k : Int) = (k : Int) := by omega
theorem points_any (a : Option Addr) (c : Nat) (l : List Pn) (hl : l.length ≤ maxLen) (hc : l.length ≤ c) (hn : a = none → c = 0) (w : World) :
    Calls Try.prog 14 #[.slice a l.length c] w fun e w' => e = .returned (.slice a (l.take 22).length c) ∧ w' = w := by
  obtain ⟨k, ek⟩ : ∃ k, (l.take 22).length = k := ⟨_, rfl⟩
  rw [ek]
  rw [List.length_take] at ek
  have hk : min (l.length : Int) 22 = (k : Int) := by omega
  have hkc : (k : Int) ≤ (c : Int) := by omega
  have hkl : k ≤ l.length := by omega
  unfold maxLen at hl
  cases a with
  | none =>
    have h0 := hn rfl
    subst h0
    have hl0 : l.length = 0 := by omega
    have hk0 : k = 0 := by omega
    subst hk0
    rw [hl0] at hk ⊢
    go_enter Try.func14, Try.ntmps14
    go_wp2_with fail
    go_ret
    exact ⟨rfl, rfl⟩
  | some ad =>
    clear ek
    go_enter Try.func14, Try.ntmps14
    go_wp2_with fail
    go_ret
    exact ⟨by simp, rfl⟩
/-- a shelf with its first 22 points -/
def fewSh (m : ShM) : ShM := ⟨{ m.s with once := m.s.once.take 22 }, m.a, m.c⟩
def fewM (L : List ShM) : List ShM := (L.take 10).map fewSh
theorem fewM_length (L : List ShM) : (fewM L).length = min 10 L.length := by unfold fewM; rw [List.length_map, List.length_take]
theorem fewM_few (L : List ShM) : ∀ m ∈ fewM L, m.s.once.length ≤ 22 := by
  intro m hm
  obtain ⟨x, -, rfl⟩ := List.mem_map.1 hm
  show (x.s.once.take 22).length ≤ 22
  rw [List.length_take]
  omega
theorem PtsAt.few {w : World} {m : ShM} (h : PtsAt w m) : PtsAt w (fewSh m) := by
  have := h.pp.take 22
  exact ⟨this.at_, this.cap, this.nil⟩
theorem one_few (w : World) (x : ShM) (n : Nat) (hn : (x.s.once.take 22).length = n) : Sl eSh (w.alloc (.cells #[.int .u64 (x.s.user : Int), .string x.s.ident, .int .u64 (x.s.sgn.id : Int), .string x.s.sgn.pt, .slice x.a n x.c] 28)) (some ⟨w.heap.size, 0, none⟩) [fewSh x] := by
  have hq := Sl.one (E := eSh) (w := w) 28 (fewSh x)
  have e : (eSh.enc (fewSh x)).toArray = #[.int .u64 (x.s.user : Int), .string x.s.ident, .int .u64 (x.s.sgn.id : Int), .string x.s.sgn.pt, .slice x.a n x.c] := by
    show (shL (fewSh x)).toArray = _
    unfold shL
    show #[_, _, _, _, Value.slice x.a (x.s.once.take 22).length x.c] = _
    rw [hn]
    rfl
  rw [e] at hq
  exact hq
def FwRel (w : World) (L : List ShM) (n : Nat) (v i : Value) (wr : World) : Prop :=
  ∃ (k : Nat) (W : World), W = wr ∧ i = .int .i64 (k : Int) ∧ k ≤ n ∧ Below w.heap.size w wr ∧ OwnE eSh 28 wr w.heap.size v ((L.take k).map fewSh)
set_option maxHeartbeats 8000000 in
theorem few_any (a : Option Addr) (c : Nat) (L : List ShM) (hl : L.length ≤ maxLen) (hp : ∀ m ∈ L, m.s.once.length ≤ maxLen) (w : World) (h : SS w a c L) :
    Calls Try.prog 13 #[.slice a L.length c] w fun e w' => ∃ (a' : Option Addr) (c' : Nat), e = .returned (.slice a' (fewM L).length c') ∧ SS w' a' c' (fewM L) ∧ Below w.heap.size w w' := by
  have H := Lib.hid h
  obtain ⟨n, en⟩ : ∃ n, min 10 L.length = n := ⟨_, rfl⟩
  have hn : min (L.length : Int) 10 = (n : Int) := by omega
  have hcap : L.length ≤ c := h.cap
  have hnc : (n : Int) ≤ (c : Int) := by omega
  have hn10 : (n : Int) ≤ 10 := by omega
  have hnl : n ≤ L.length := by omega
  have HN := Lib.hid (And.intro en hp)
  unfold maxLen at hl
  have hlz : (L.length : Int) ≤ 9223372036854775807 := by omega
  have hnone : a = none → c = 0 ∧ L = [] := h.nil
  clear h en hp
  cases a with
  | none =>
    obtain ⟨rfl, rfl⟩ := hnone rfl
    obtain rfl : n = 0 := by simpa using hnl
    clear hnone hn hcap hnc hn10 hnl hlz
    go_enter Try.func13, Try.ntmps13
    go_wp2_with fail
    go_loopw [3, 12] (fun v i wr => v = .slice none 0 0 ∧ i = .int .i64 0 ∧ w = wr) (fun _ _ _ => 0)
    case atStart => exact ⟨rfl, rfl, rfl⟩
    case round =>
      obtain ⟨rfl, rfl, rfl⟩ := hrel
      go_wp2_with fail
      go_ret
      exact ⟨none, 0, rfl, SS.empty _, Below.refl _ _⟩
  | some ad =>
    clear hnone
    go_enter Try.func13, Try.ntmps13
    go_wp2_with fail
    go_loopw [3, 12] (FwRel w L n) (fun _ i _ => n - (Lib.intOf i).toNat)
    case atStart => exact ⟨0, _, rfl, rfl, Nat.zero_le _, Below.refl _ _, OwnE.nil _ _ _ _⟩
    case round =>
      obtain ⟨k, wr, rfl, rfl, h1, h2, h3⟩ := hrel
      by_cases hk : k < n
      · have hkz : (k : Int) < (n : Int) := by omega
        have hkl : k < L.length := by omega
        obtain ⟨b, off, eb, hlt, hall⟩ := (H.out.on h2).sl.get k hkl
        cases eb
        have hm5 := hall k hkl
        have hpt := (H.out.on h2).sl.pts _ (List.getElem_mem hkl)
        have hpl := HN.out.2 _ (List.getElem_mem hkl)
        have htk : (L.take (k + 1)).map fewSh = (L.take k).map fewSh ++ [fewSh L[k]] := by rw [List.take_succ_eq_append_getElem hkl, List.map_append]; rfl
        obtain ⟨x, ex⟩ : ∃ x, L[k] = x := ⟨_, rfl⟩
        rw [ex] at hm5 hpt hpl htk
        obtain ⟨c0, c1, c2, c3, c4⟩ := hm5
        have hlen : ((L.take k).map fewSh).length ≤ 10 := by rw [List.length_map, List.length_take]; omega
        have HO := Lib.hid (fun W => points_any x.a x.c x.s.once hpl hpt.cap (fun e => (hpt.none e).1) W)
        obtain ⟨n22, e22⟩ : ∃ n22, (x.s.once.take 22).length = n22 := ⟨_, rfl⟩
        rw [e22] at HO
        have HX := Lib.hid (And.intro h2 (And.intro h3 (And.intro htk (And.intro hlen e22))))
        obtain ⟨W1, eW1⟩ : ∃ W1, wr.alloc (.cells #[.int .u64 (x.s.user : Int), .string x.s.ident, .int .u64 (x.s.sgn.id : Int), .string x.s.sgn.pt, .slice x.a x.s.once.length x.c] 28) = W1 := ⟨_, rfl⟩
        have b1 : Below wr.heap.size wr W1 := by rw [← eW1]; exact (Below.refl _ wr).alloc (Nat.le_refl _) _
        have kB : BlkV W1 wr.heap.size 28 [.int .u64 (x.s.user : Int), .string x.s.ident, .int .u64 (x.s.sgn.id : Int), .string x.s.sgn.pt, .slice x.a x.s.once.length x.c] := by rw [← eW1]; exact BlkV.fresh wr _ _ _ rfl _ rfl
        obtain ⟨B, eB⟩ : ∃ B, wr.heap.size = B := ⟨_, rfl⟩
        rw [eB] at kB
        have d4 := kB.cell 4 _ rfl
        have f4 := kB.frozen 4
        have kB2 := kB.set 4 (.slice x.a n22 x.c)
        have b2 : Below w.heap.size w (W1.setCell ⟨B, 4, none⟩ (.slice x.a n22 x.c)) := (h2.trans (b1.mono h2.size)).setCell (show w.heap.size ≤ (⟨B, 4, none⟩ : Addr).block by show w.heap.size ≤ B; rw [← eB]; exact h2.size) _
        have o2 : OwnE eSh 28 (W1.setCell ⟨B, 4, none⟩ (.slice x.a n22 x.c)) w.heap.size u3 ((L.take k).map fewSh) := h3.on (b1.setCell (show wr.heap.size ≤ (⟨B, 4, none⟩ : Addr).block by show wr.heap.size ≤ B; omega) _)
        have HK := Lib.hid (And.intro kB2 (And.intro b2 o2))
        clear h2 h3 b1 kB b2 o2 kB2 hall hpt hpl ex htk hlen e22
        go_upto_region 6 with (go_at_call 14; refine (HO.out _).mono ?_; rintro e w' ⟨rfl, rfl⟩)
        clear d4 f4 eW1 eB
        generalize World.setCell _ ⟨B, 4, none⟩ (.slice x.a n22 x.c) = W2 at HK ⊢
        have kB2 := HK.out.1
        have e0 := kB2.cell 0 _ rfl
        have e1 := kB2.cell 1 _ rfl
        have e2 := kB2.cell 2 _ rfl
        have e3 := kB2.cell 3 _ rfl
        have e4 := kB2.cell 4 _ rfl
        have hq := one_few W2 x n22 HX.out.2.2.2.2
        have HQ := Lib.hid hq
        have hb9 := HK.out.2.1.size
        clear kB2 hq
        go_wp2_with (at_builtin; refine append_E eSh 22 28 _ 72 Try.underlying22 infoSh rfl rfl _ _ rfl w.heap.size _ _ _ _ _ [fewSh x] rfl rfl rfl (HK.out.2.2.alloc _) HQ.out (fun e => by cases e) (by have := HX.out.2.2.2.1; unfold maxLen; simp only [List.length_singleton]; omega) (by have := HX.out.2.2.2.1; simp only [List.length_singleton]; omega) (by have := HK.out.2.1.size; simp; omega) ?_; intro v' w3 ho3 hg3; have HO3 := Lib.hid ho3; have HG3 := Lib.hid hg3; clear ho3 hg3)
        refine ⟨⟨k + 1, _, rfl, by go_num, by omega, ?_, by rw [HX.out.2.2.1]; exact HO3.out⟩, by simp [Lib.intOf]; omega⟩
        exact OwnE.below (HK.out.2.2.alloc _) (HK.out.2.1.alloc HK.out.2.1.size _) (by have := HK.out.2.1.size; simp; omega) HG3.out
      · have hkz : ¬ (k : Int) < (n : Int) := by omega
        have hkn : k = n := by omega
        have e : (L.take k).map fewSh = fewM L := by
          unfold fewM
          congr 1
          rw [hkn, ← HN.out.1]
          exact List.take_eq_take_iff.2 (by omega)
        rw [e] at h3
        have HX := Lib.hid (And.intro h2 h3)
        clear h2 h3 e
        go_wp2_with fail
        go_ret
        obtain ⟨a', c', ev, hss⟩ := HX.out.2.ss (fun m hm => by
          obtain ⟨x, hx, rfl⟩ := List.mem_map.1 hm
          exact ((H.out.sl.pts x (List.mem_of_mem_take hx)).on HX.out.1).few)
        subst ev
        exact ⟨a', c', rfl, hss, HX.out.1⟩
end Go.Proofs.Ytmmaimopombepaa