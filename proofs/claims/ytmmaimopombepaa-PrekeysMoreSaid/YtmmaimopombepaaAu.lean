/- slices.breakPatternsOrdered at numbers: some permutation. -/
import Derived.Test.YtmmaimopombepaaAt
import Derived.Test.YtmmaimopombepaaPb
import Derived.Laws.Bits64b
import Derived.Laws.Closers25b
namespace Go.Proofs.Ytmmaimopombepaa
open Go.RowKit
set_option maxRecDepth 100000
/-- a box that holds a number -/
def BoxX (w : World) (b : Nat) (x : Nat) : Prop := w.heap[b]? = some (.cells #[.int .u64 (x : Int)] 156 (0, 0))
theorem BoxX.lt {w : World} {b x : Nat} (h : BoxX w b x) : b < w.heap.size := (Array.getElem?_eq_some_iff.1 h).1
theorem BoxX.cell {w : World} {b x : Nat} (h : BoxX w b x) : w.cell? ⟨b, 0, none⟩ = some (.int .u64 (x : Int)) := by rw [cell_of_row w b 0 _ _ _ h]; rfl
theorem BoxX.frozen {w : World} {b x : Nat} (h : BoxX w b x) : w.frozen? ⟨b, 0, none⟩ = false := frozen_of_row w b 0 _ _ h
theorem BoxX.put {w : World} {b x : Nat} (h : BoxX w b x) (y : Nat) : ∃ V, (w.setCell ⟨b, 0, none⟩ (.int .u64 (y : Int))).drew = V ∧ BoxX V b y ∧ w.grownBy V (some b) := by
  refine ⟨_, rfl, ?_, (by have g := Lib.grownBy_setCell w b 0 (.int .u64 (y : Int)); exact ⟨g.os, g.tape, g.output, g.size, g.block⟩)⟩
  show (w.setCell ⟨b, 0, none⟩ (.int .u64 (y : Int))).heap[b]? = _
  rw [heap_setCell_same w b 0 _ _ _ h]
  rfl
theorem BoxX.far {w : World} {b x : Nat} (h : BoxX w b x) (a : Addr) (v : Value) (hne : b ≠ a.block) : BoxX (w.setCell a v) b x := by
  unfold BoxX
  rw [heap_setCell_other w a b v hne]
  exact h
theorem bits_ex (op : BinOp) (a b : Int) : ∃ z : Nat, bits op .u64 a b = (z : Int) ∧ z < 18446744073709551616 := by
  have h1 := bits_lo_u64 op a b
  have h2 := bits_hi_u64 op a b
  exact ⟨(bits op .u64 a b).toNat, by omega, by omega⟩
set_option maxHeartbeats 4000000 in
theorem next_any (b x : Nat) (w : World) (h : BoxX w b x) :
    Calls Try.prog 136 #[.pointer (some ⟨b, 0, none⟩)] w fun e w' => ∃ y : Nat, y < 18446744073709551616 ∧ e = .returned (.int .u64 (y : Int)) ∧ BoxX w' b y ∧ w.grownBy w' (some b) := by
  obtain ⟨A, e1, l1⟩ := bits_ex .xor (x : Int) (IntKind.u64.wrap ((x : Int) * 8192))
  obtain ⟨B, e2, l2⟩ := bits_ex .xor (A : Int) ((A : Int) / 128)
  obtain ⟨C, e3, l3⟩ := bits_ex .xor (B : Int) (IntKind.u64.wrap ((B : Int) * 131072))
  have hc := h.cell
  have hf := h.frozen
  have H := Lib.hid h
  clear h
  go_enter Try.func136, Try.ntmps136
  go_wp2_with fail
  go_region
  all_goals go_wp2_with fail
  obtain ⟨V1, eV1, b1, g1⟩ := H.out.put A
  rw [eV1]
  have hc1 := b1.cell
  have hf1 := b1.frozen
  have H1 := Lib.hid b1
  clear hc hf eV1 b1
  go_region
  all_goals go_wp2_with fail
  obtain ⟨V2, eV2, b2, g2⟩ := H1.out.put B
  rw [eV2]
  have hc2 := b2.cell
  have hf2 := b2.frozen
  have H2 := Lib.hid b2
  clear hc1 hf1 eV2 b2
  go_region
  all_goals go_wp2_with fail
  obtain ⟨V3, eV3, b3, g3⟩ := H2.out.put C
  rw [eV3]
  have hc3 := b3.cell
  go_wp2_with fail
  go_ret
  exact ⟨C, l3, rfl, b3, Lib.grownBy_trans (Lib.grownBy_trans g1 g2) g3⟩
theorem len_any (x : Nat) (hx : x < 18446744073709551616) (w : World) :
    Calls Try.prog 113 #[.int .u64 (x : Int)] w fun e w' => ∃ L : Nat, e = .returned (.int .i64 (L : Int)) ∧ w = w' ∧ x < 2 ^ L ∧ (L = 0 ∨ 2 ^ (L - 1) ≤ x) ∧ L ≤ 64 := by
  go_enter Try.func113, Try.ntmps113
  go_wp2_with (go_at_call 131; refine (Len64_any x hx _).mono ?_; rintro e w' ⟨L, rfl, rfl, h⟩)
  go_ret
  exact ⟨L, rfl, rfl, h⟩
theorem nextPow_any (n : Nat) (h8 : 8 ≤ n) (hn : n ≤ 1000) (w : World) :
    Calls Try.prog 135 #[.int .i64 (n : Int)] w fun e w' => ∃ m : Nat, e = .returned (.int .u64 (m : Int)) ∧ w = w' ∧ n < m ∧ m ≤ 2 * n := by
  go_enter Try.func135, Try.ntmps135
  go_wp2_with (go_at_call 113; refine (len_any n (by omega) _).mono ?_; rintro e w' ⟨L, rfl, rfl, h1, h2, h3⟩; skip)
  have h4 : 2 ^ L ≤ 2 * n := by
    rcases h2 with rfl | h2
    · simp at h1; omega
    · cases L with
      | zero => simp at h1; omega
      | succ k => rw [Nat.add_sub_cancel] at h2; rw [Nat.pow_succ]; omega
  have e : IntKind.u64.wrap ((2 : Int) ^ L) = ((2 ^ L : Nat) : Int) := by
    rw [IntKind.wrap_u64, show ((2 : Int) ^ L) = ((2 ^ L : Nat) : Int) by push_cast; rfl]
    omega
  rw [e]
  go_ret
  exact ⟨2 ^ L, rfl, rfl, h1, h4⟩

/-- another block than the row's has turned -/
theorem SR.other {w0 w w' : World} {blk off b : Nat} {d : Array Nat} (h : SR w0 w blk off d) (g : w.grownBy w' (some b)) (hb : w0.heap.size ≤ b) (hne : b ≠ blk) : SR w0 w' blk off d := by
  refine ⟨⟨g.os.trans h.gr.os, g.tape.trans h.gr.tape, g.output.trans h.gr.output, Nat.le_trans h.gr.size g.size, fun k hk hk2 => ?_⟩, h.row.via (g.block blk h.row.lt (fun e => hne (by cases e; rfl)))⟩
  have hs := h.gr.size
  rw [g.block k (by omega) (fun e => by cases e; omega)]
  exact h.gr.block k hk hk2
theorem and_ex (y m : Nat) (hy : y < 18446744073709551616) (hm : 1 ≤ m) (hm2 : m ≤ 2000) : ∃ z : Nat, bits .and .u64 (y : Int) ((m : Int) - 1) = (z : Int) ∧ z < m := by
  refine ⟨y &&& (m - 1), ?_, ?_⟩
  · rw [show (m : Int) - 1 = ((m - 1 : Nat) : Int) by omega, bits_and_u64_nat _ _ hy (by omega)]
  · have := Nat.and_le_right (n := y) (m := m - 1)
    omega
def BrRel (w : World) (blk off a b n s B : Nat) (d : Array Nat) (v : Value) (wr : World) : Prop :=
  ∃ (k x : Nat) (dk : Array Nat) (W : World), W = wr ∧ v = .int .i64 (k : Int) ∧ s ≤ k ∧ k ≤ s + 3 ∧ dk.size = n ∧ SR w wr blk off dk ∧ Sort.PermIn a b d dk ∧ BoxX wr B x
set_option maxHeartbeats 8000000 in
theorem break_any (blk off c a b n : Nat) (d : Array Nat) (hn : d.size = n) (hab : a + 12 < b) (hb : b ≤ n) (hs : n ≤ 1000) (w : World) (h : RowU w blk off d) :
    Calls Try.prog 123 #[.slice (some ⟨blk, off, none⟩) n c, .int .i64 (a : Int), .int .i64 (b : Int)] w fun e w' => e = .returned (.tuple #[]) ∧ ∃ d', d'.size = n ∧ SR w w' blk off d' ∧ Sort.PermIn a b d d' := by
  obtain ⟨L, eL⟩ : ∃ L : Nat, (b : Int) - (a : Int) = (L : Int) := ⟨b - a, by omega⟩
  obtain ⟨q, eq⟩ : ∃ q : Nat, (L : Int).tdiv 4 = (q : Int) := ⟨L / 4, by rw [Int.tdiv_eq_ediv_of_nonneg (by omega)]; omega⟩
  have hq : 4 * q ≤ L ∧ L < 4 * q + 4 := by rw [Int.tdiv_eq_ediv_of_nonneg (by omega)] at eq; omega
  obtain ⟨s, es⟩ : ∃ s : Nat, (a : Int) + (q : Int) * 2 - 1 = (s : Int) := ⟨a + q * 2 - 1, by omega⟩
  have hlt := h.lt
  have hL1 : 8 ≤ (L : Int) := by omega
  have hL2 : (L : Int) ≤ 1000 := by omega
  have q1 : (a : Int) ≤ 1000 := by omega
  have q2 : (b : Int) ≤ 1000 := by omega
  have q4 : (q : Int) ≤ 1000 := by omega
  have q5 : (a : Int) + (q : Int) * 2 ≤ 3000 := by omega
  have S0 : SR w (w.alloc (.cells #[.int .u64 (L : Int)] 156)) blk off d := (SR.refl h).alloc _
  have B0 : BoxX (w.alloc (.cells #[.int .u64 (L : Int)] 156)) w.heap.size L := heap_alloc_new w _
  obtain ⟨W0, eW⟩ : ∃ W0, w.alloc (.cells #[.int .u64 (L : Int)] 156) = W0 := ⟨_, rfl⟩
  rw [eW] at S0 B0
  obtain ⟨B, eB⟩ : ∃ B, w.heap.size = B := ⟨_, rfl⟩
  rw [eB] at B0
  have hne : B ≠ blk := by omega
  have HB := Lib.hid (And.intro eB hne)
  have H0 := Lib.hid (And.intro S0 (And.intro B0 hn))
  have hP := Lib.hid (fun W => nextPow_any L (by omega) (by omega) W)
  clear h hn S0 B0
  go_enter Try.func123, Try.ntmps123
  go_wp2_with (go_at_call 135; refine (hP.out _).mono ?_; rintro e w' ⟨m, rfl, rfl, m1, m2⟩)
  have mz1 : (9 : Int) ≤ (m : Int) := by omega
  have mz2 : (m : Int) ≤ 2000 := by omega
  clear eW hL1
  go_loopw [9] (BrRel w blk off a b n s B d) (fun v _ => s + 3 - (Lib.intOf v).toNat)
  case atStart => exact ⟨s, L, d, _, rfl, rfl, Nat.le_refl _, by omega, H0.out.2.2, H0.out.1, Sort.permIn_refl _ _ _, H0.out.2.1⟩
  case round =>
    clear H0
    obtain ⟨k, x, dk, wr, rfl, rfl, h1, h2, h3, h4, h5, h6⟩ := hrel
    by_cases hks : k ≤ s + 2
    · have hkz : (k : Int) ≤ (a : Int) + (q : Int) * 2 + 1 := by omega
      have HX := Lib.hid (next_any B x wr h6)
      have Hk := Lib.hid (And.intro h3 (And.intro h4 h5))
      clear h3 h4 h5 h6
      go_upto_region 8 with (go_at_call 136; refine HX.out.mono ?_; rintro e w2 ⟨y, hy, rfl, hby, hgy⟩; obtain ⟨z, ez, hz⟩ := and_ex y m hy (by omega) (by omega))
      have Hs := Lib.hid (And.intro hby (Hk.out.2.1.other hgy (by omega) hne))
      obtain ⟨G, hG, hcw, hfw⟩ := Hs.out.2.row.fam n Hk.out.1
      have HG := Lib.hid hG
      clear hby hgy hG
      have hk1 : k < n := by omega
      have hzz : (z : Int) ≤ 2000 := by omega
      by_cases hzL : L ≤ z
      · have hzLz : (L : Int) ≤ (z : Int) := by omega
        obtain ⟨z2, ez2⟩ : ∃ z2 : Nat, (z : Int) - (L : Int) = (z2 : Int) := ⟨z - L, by omega⟩
        have hz2 : (z2 : Int) ≤ 2000 := by omega
        obtain ⟨u2, hu2⟩ := Hs.out.2.row.second k (a + (z2)) (by rw [Hk.out.1]; omega) (by rw [Hk.out.1]; omega) (.int .u64 (G (a + (z2)) : Int))
        have hk2 : a + (z2) < n := by omega
        go_wp2_with fail
        go_region
        all_goals go_wp2_with fail
        refine ⟨⟨k + 1, y, Sort.swp dk k (a + (z2)), _, rfl, by go_num, by omega, by omega, by rw [Sort.size_swp]; exact Hk.out.1, Hs.out.2.swapG HG.out _ k (a + (z2)) (by rw [Hk.out.1]; omega) (by rw [Hk.out.1]; omega), ?_, ?_⟩, by simp [Lib.intOf]; omega⟩
        · exact Sort.permIn_trans _ _ _ a b Hk.out.2.2 (Sort.swp_permIn dk a b k (a + (z2)) (by omega) (by omega) (by omega) (by omega) (by rw [Hk.out.1]; exact hb))
        · exact BoxX.far (BoxX.far (Hs.out.1 : BoxX w2 B y) _ _ hne) _ _ hne
      · have hzLz : ¬ (L : Int) ≤ (z : Int) := by omega
        obtain ⟨u2, hu2⟩ := Hs.out.2.row.second k (a + (z)) (by rw [Hk.out.1]; omega) (by rw [Hk.out.1]; omega) (.int .u64 (G (a + (z)) : Int))
        have hk2 : a + (z) < n := by omega
        go_wp2_with fail
        go_region
        all_goals go_wp2_with fail
        refine ⟨⟨k + 1, y, Sort.swp dk k (a + (z)), _, rfl, by go_num, by omega, by omega, by rw [Sort.size_swp]; exact Hk.out.1, Hs.out.2.swapG HG.out _ k (a + (z)) (by rw [Hk.out.1]; omega) (by rw [Hk.out.1]; omega), ?_, ?_⟩, by simp [Lib.intOf]; omega⟩
        · exact Sort.permIn_trans _ _ _ a b Hk.out.2.2 (Sort.swp_permIn dk a b k (a + (z)) (by omega) (by omega) (by omega) (by omega) (by rw [Hk.out.1]; exact hb))
        · exact BoxX.far (BoxX.far (Hs.out.1 : BoxX w2 B y) _ _ hne) _ _ hne
    · have hkz : decide ((k : Int) ≤ (a : Int) + (q : Int) * 2 + 1) = false := decide_eq_false (by omega)
      have hkz2 : ¬ (k : Int) ≤ (a : Int) + (q : Int) * 2 + 1 := by omega
      go_wp2_with fail
      go_end0
      exact ⟨rfl, dk, h3, h4, h5⟩
end Go.Proofs.Ytmmaimopombepaa