/- The contract of package limb's product: eight words that tell the product. -/
import Derived.Test.YtccjhlipcgpkmaaDoorLeafb
import Derived.Test.YtccjhlipcgpkmaaDoorMath
namespace Go.Proofs.YtccjhlipcgpkmaaDoor
open Go.RowKit

def WidePost (p : Int) (w : World) (e : Ending) (w' : World) : Prop :=
  ∃ s0 s1 s2 s3 s4 s5 s6 s7, e = .returned (.agg #[.int .u64 s0, .int .u64 s1, .int .u64 s2, .int .u64 s3, .int .u64 s4, .int .u64 s5, .int .u64 s6, .int .u64 s7]) ∧ Is8 s0 s1 s2 s3 s4 s5 s6 s7 p ∧ Below w.heap.size w w'

/-- words that lie in a block -/
def RowAt (w : World) (B n : Nat) (a : Nat → Int) : Prop := ∀ m, m < n → w.cell? ⟨B, m, none⟩ = some (.int .u64 (a m)) ∧ w.frozen? ⟨B, m, none⟩ = false

theorem RowAt.drew {w : World} {B n : Nat} {a : Nat → Int} (h : RowAt w B n a) : RowAt w.drew B n a := h
theorem RowAt.store {w : World} {B n : Nat} {a : Nat → Int} (h : RowAt w B n a) {m : Nat} (hm : m < n) (v : Int) : RowAt (w.setCell ⟨B, m, none⟩ (.int .u64 v)) B n (upd a m v) := by
  intro q hq
  obtain ⟨h1, h2⟩ := h q hq
  refine ⟨?_, by simp [h2]⟩
  by_cases e : q = m
  · subst e; rw [upd_same, World.cell?_setCell_same _ _ _ h1]
  · rw [upd_other _ _ e, World.cell?_setCell_other]
    · exact h1
    · intro e2; cases e2; exact e rfl
theorem RowAt.far {w : World} {B n : Nat} {a : Nat → Int} (h : RowAt w B n a) {p : Addr} (hp : p.block ≠ B) (v : Value) : RowAt (w.setCell p v) B n a := by
  intro q hq
  obtain ⟨h1, h2⟩ := h q hq
  refine ⟨?_, by simp [h2]⟩
  rw [World.cell?_setCell_other]
  · exact h1
  · intro e; subst e; simp at hp

/-- what holds at the heads of the two loops -/
def Outer (w : World) (a b : Nat → Int) (y : Int) (v : Value) (wr : World) : Prop :=
  ∃ (i : Nat) (o : Nat → Int), i ≤ 4 ∧ v = .int .i64 i ∧ ColInv a y i o ∧ RowAt wr w.heap.size 4 a ∧ RowAt wr (w.heap.size + 1) 4 b ∧ RowAt wr (w.heap.size + 1 + 1 + 1) 8 o ∧ (∀ m, m < 8 → wr.cell? ⟨w.heap.size + 1 + 1, m, none⟩ = some (.int .u64 0) ∧ wr.frozen? ⟨w.heap.size + 1 + 1, m, none⟩ = false) ∧ Below w.heap.size w wr
def Inner (w : World) (a b : Nat → Int) (i : Nat) (o0 : Nat → Int) (c v : Value) (wr : World) : Prop :=
  ∃ (k : Nat) (o : Nat → Int) (cc : Int), k ≤ 4 ∧ v = .int .i64 k ∧ c = .int .u64 cc ∧ RowInv o0 (a i) b i k o cc ∧ RowAt wr w.heap.size 4 a ∧ RowAt wr (w.heap.size + 1) 4 b ∧ RowAt wr (w.heap.size + 1 + 1 + 1) 8 o ∧ (∀ m, m < 8 → wr.cell? ⟨w.heap.size + 1 + 1, m, none⟩ = some (.int .u64 0) ∧ wr.frozen? ⟨w.heap.size + 1 + 1, m, none⟩ = false) ∧ Below w.heap.size w wr

theorem inner_step {w wr : World} {a b : Nat → Int} {i k : Nat} {o0 q : Nat → Int} {cc l h : Int} (hk : k < 4) (hi : i < 4) (hr : RowInv o0 (a i) b i k q cc) (hm : MulTo (a i) (b k) (q (i + k)) cc l h)
    (hA : RowAt wr w.heap.size 4 a) (hB : RowAt wr (w.heap.size + 1) 4 b) (hO : RowAt wr (w.heap.size + 1 + 1 + 1) 8 q)
    (hz : ∀ m, m < 8 → wr.cell? ⟨w.heap.size + 1 + 1, m, none⟩ = some (.int .u64 0) ∧ wr.frozen? ⟨w.heap.size + 1 + 1, m, none⟩ = false) (hb : Below w.heap.size w wr) :
    Inner w a b i o0 (.int .u64 h) (.int .i64 ((k : Int) + 1)) (wr.setCell ⟨w.heap.size + 1 + 1 + 1, i + k, none⟩ (.int .u64 l)).drew := by
  refine ⟨k + 1, upd q (i + k) l, h, by omega, by simp, rfl, rowInv_step hr hk hi hm, (hA.far (show w.heap.size + 1 + 1 + 1 ≠ w.heap.size by omega) _).drew, (hB.far (show w.heap.size + 1 + 1 + 1 ≠ w.heap.size + 1 by omega) _).drew, (hO.store (by omega) l).drew, ?_, (hb.setCell (by simp; omega) _).drew⟩
  intro m hm
  obtain ⟨z1, z2⟩ := hz m hm
  refine ⟨?_, by simpa using z2⟩
  rw [World.cell?_drew, World.cell?_setCell_other]
  · exact z1
  · intro e; simp at e

theorem outer_step {w wr : World} {a b : Nat → Int} {y : Int} {i : Nat} {o0 q : Nat → Int} {cc : Int} (hi : i < 4) (hy : part4 b 4 = y) (hc : ColInv a y i o0) (hr : RowInv o0 (a i) b i 4 q cc)
    (hA : RowAt wr w.heap.size 4 a) (hB : RowAt wr (w.heap.size + 1) 4 b) (hO : RowAt wr (w.heap.size + 1 + 1 + 1) 8 q)
    (hz : ∀ m, m < 8 → wr.cell? ⟨w.heap.size + 1 + 1, m, none⟩ = some (.int .u64 0) ∧ wr.frozen? ⟨w.heap.size + 1 + 1, m, none⟩ = false) (hb : Below w.heap.size w wr) :
    Outer w a b y (.int .i64 ((i : Int) + 1)) (wr.setCell ⟨w.heap.size + 1 + 1 + 1, i + 4, none⟩ (.int .u64 cc)) := by
  refine ⟨i + 1, upd q (i + 4) cc, by omega, by simp, colInv_step hc hi hy hr, hA.far (show w.heap.size + 1 + 1 + 1 ≠ w.heap.size by omega) _, hB.far (show w.heap.size + 1 + 1 + 1 ≠ w.heap.size + 1 by omega) _, hO.store (by omega) cc, ?_, hb.setCell (by simp; omega) _⟩
  intro m hm
  obtain ⟨z1, z2⟩ := hz m hm
  refine ⟨?_, by simpa using z2⟩
  rw [World.cell?_setCell_other]
  · exact z1
  · intro e; simp at e

set_option maxHeartbeats 4000000 in
theorem product_any (va vb : Value) (x y : Int) (hva : Num va x) (hvb : Num vb y) (w : World) :
    Calls Tryd.prog 58 #[va, vb] w (WidePost (x * y) w) := by
  obtain ⟨a0, a1, a2, a3, rfl, ha⟩ := hva
  obtain ⟨b0, b1, b2, b3, rfl, hb⟩ := hvb
  go_enter Tryd.func58, Tryd.ntmps58
  go_wp2
  go_loopw [9] (Outer w (four a0 a1 a2 a3) (four b0 b1 b2 b3) y) (fun i _ => 4 - (intOf i).toNat)
  case atStart =>
    refine ⟨0, fun _ => 0, by omega, rfl, colInv_start _ _, ?_, ?_, ?_, ?_, ?_⟩
    · intro m hm
      have : m = 0 ∨ m = 1 ∨ m = 2 ∨ m = 3 := by omega
      rcases this with rfl | rfl | rfl | rfl <;> (simp (disch := (first | (simp only [World.size_alloc]; done) | (simp only [World.size_alloc]; omega))) only [four, World.cell?_alloc_at, World.cell?_alloc_past, World.frozen?_alloc_at, World.frozen?_alloc_past]; simp)
    · intro m hm
      have : m = 0 ∨ m = 1 ∨ m = 2 ∨ m = 3 := by omega
      rcases this with rfl | rfl | rfl | rfl <;> (simp (disch := (first | (simp only [World.size_alloc]; done) | (simp only [World.size_alloc]; omega))) only [four, World.cell?_alloc_at, World.cell?_alloc_past, World.frozen?_alloc_at, World.frozen?_alloc_past]; simp)
    · intro m hm
      have : m = 0 ∨ m = 1 ∨ m = 2 ∨ m = 3 ∨ m = 4 ∨ m = 5 ∨ m = 6 ∨ m = 7 := by omega
      rcases this with rfl | rfl | rfl | rfl | rfl | rfl | rfl | rfl <;> (simp (disch := (first | (simp only [World.size_alloc]; done) | (simp only [World.size_alloc]; omega))) only [World.cell?_alloc_at, World.frozen?_alloc_at]; simp)
    · intro m hm
      have : m = 0 ∨ m = 1 ∨ m = 2 ∨ m = 3 ∨ m = 4 ∨ m = 5 ∨ m = 6 ∨ m = 7 := by omega
      rcases this with rfl | rfl | rfl | rfl | rfl | rfl | rfl | rfl <;> (simp (disch := (first | (simp only [World.size_alloc]; done) | (simp only [World.size_alloc]; omega))) only [World.cell?_alloc_at, World.cell?_alloc_past, World.frozen?_alloc_at, World.frozen?_alloc_past]; simp)
    · go_grown
  case round =>
    obtain ⟨i, o, hi, rfl, hc, hA, hB, hO, hz, hbl⟩ := hrel
    by_cases hlt : i < 4
    · have hlt' : (i : Int) < 4 := by omega
      go_wp2
      have HC := Lib.hid hc; clear hc
      obtain ⟨wo, rfl⟩ : ∃ wo : World, wo = wr := ⟨_, rfl⟩
      go_loopw [7, 12] (Inner w (four a0 a1 a2 a3) (four b0 b1 b2 b3) i o) (fun _ k _ => 4 - (intOf k).toNat)
      case atStart => exact ⟨0, o, 0, by omega, rfl, rfl, rowInv_start _ _ _ _ HC.out.1, hA, hB, hO, hz, hbl⟩
      case round =>
        clear hA hB hO hz hbl
        obtain ⟨k, q, cc, hk, rfl, rfl, hr, hA, hB, hO, hz, hbl⟩ := hrel
        have HA := Lib.hid hA; have HB := Lib.hid hB; have HO := Lib.hid hO; have HZ := Lib.hid hz; have HR := Lib.hid hr
        clear hA hB hO hz hr
        by_cases hkl : k < 4
        · have hkl' : (k : Int) < 4 := by omega
          obtain ⟨l, h, hm, m⟩ := mad_ex (four a0 a1 a2 a3 i) (four b0 b1 b2 b3 k) (q (i + k)) cc (four_U ha i hlt) (four_U hb k hkl) (HR.out.1 _ (by omega)) HR.out.2.1
          have M := Lib.hid m; have HM := Lib.hid hm
          clear m hm
          have cA := (HA.out i hlt).1
          have cB := (HB.out k hkl).1
          have cO := (HO.out (i + k) (by omega)).1
          have fO := (HO.out (i + k) (by omega)).2
          have e1 : IntKind.i64.wrap ((i : Int) + (k : Int)) = (i : Int) + (k : Int) := IntWalk.i64_in _ (by omega)
          have e2 : ((i : Int) + (k : Int)).toNat = i + k := by omega
          have e3 : (0 : Int) ≤ (i : Int) + (k : Int) := by omega
          have e4 : (i : Int) + (k : Int) < 8 := by omega
          go_wp2
          go_region_with (go_at_call 68; refine (M.out _).mono ?_; rintro e w' ⟨rfl, rfl⟩)
          all_goals go_wp2
          all_goals exact ⟨inner_step hkl hlt HR.out HM.out HA.out HB.out HO.out HZ.out hbl, by simp [intOf]; omega⟩
        · obtain rfl : k = 4 := by omega
          have e1 : IntKind.i64.wrap ((i : Int) + 4) = (i : Int) + 4 := IntWalk.i64_in _ (by omega)
          have e2 : ((i : Int) + 4).toNat = i + 4 := by omega
          have e3 : (0 : Int) ≤ (i : Int) + 4 := by omega
          have e4 : (i : Int) + 4 < 8 := by omega
          have cO := (HO.out (i + 4) (by omega)).1
          have fO := (HO.out (i + 4) (by omega)).2
          go_wp2
          exact ⟨outer_step hlt ((part4_four _ _ _ _).trans hb.2.2.2.2) HC.out HR.out HA.out HB.out HO.out HZ.out hbl, by simp [intOf]; omega⟩
    · obtain rfl : i = 4 := by omega
      have h0 := (hO 0 (by omega)).1; have h1 := (hO 1 (by omega)).1; have h2 := (hO 2 (by omega)).1; have h3 := (hO 3 (by omega)).1
      have h4 := (hO 4 (by omega)).1; have h5 := (hO 5 (by omega)).1; have h6 := (hO 6 (by omega)).1; have h7 := (hO 7 (by omega)).1
      have z0 := hz 0 (by omega); have z1 := hz 1 (by omega); have z2 := hz 2 (by omega); have z3 := hz 3 (by omega)
      have z4 := hz 4 (by omega); have z5 := hz 5 (by omega); have z6 := hz 6 (by omega); have z7 := hz 7 (by omega)
      have hfin : Is8 (o 0) (o 1) (o 2) (o 3) (o 4) (o 5) (o 6) (o 7) (x * y) := by
        have := is8_of_col hc
        rwa [part4_four, ha.2.2.2.2] at this
      obtain ⟨y0, f0⟩ := z0; obtain ⟨y1, f1⟩ := z1; obtain ⟨y2, f2⟩ := z2; obtain ⟨y3, f3⟩ := z3
      obtain ⟨y4, f4⟩ := z4; obtain ⟨y5, f5⟩ := z5; obtain ⟨y6, f6⟩ := z6; obtain ⟨y7, f7⟩ := z7
      clear hz hO hA hB hc
      go_wp2
      refine bodyPost_ret (v := .agg #[.int .u64 (o 0), .int .u64 (o 1), .int .u64 (o 2), .int .u64 (o 3), .int .u64 (o 4), .int .u64 (o 5), .int .u64 (o 6), .int .u64 (o 7)]) (by simp [results, Tryd.results58, go_sem, y0, y1, y2, y3, y4, y5, y6, y7]) rfl ⟨_, _, _, _, _, _, _, _, rfl, hfin, ?_⟩
      go_grown
end Go.Proofs.YtccjhlipcgpkmaaDoor
