/- The contracts of package limb: left, plus, minus. -/
import Derived.Test.YtccjhlipcgpkmaaDoorFold
namespace Go.Proofs.YtccjhlipcgpkmaaDoor
open Go.RowKit

def P0 : Int := 18446744073709551597
def P1 : Int := 18446744073709551615
def P3 : Int := 9223372036854775807
/-- the package's prime lies where it was laid -/
def PrimeAt (w : World) : Prop := w.cell? ⟨0, 0, none⟩ = some (.int .u64 P0) ∧ w.cell? ⟨0, 1, none⟩ = some (.int .u64 P1) ∧ w.cell? ⟨0, 2, none⟩ = some (.int .u64 P1) ∧ w.cell? ⟨0, 3, none⟩ = some (.int .u64 P3)
theorem PrimeAt.lt {w : World} (h : PrimeAt w) : 0 < w.heap.size := World.block_lt_of_cell? w _ h.1
theorem PrimeAt.below {n : Nat} {w w' : World} (h : PrimeAt w) (hb : Below n w w') (hn : 0 < n) : PrimeAt w' := by
  obtain ⟨h0, h1, h2, h3⟩ := h
  refine ⟨?_, ?_, ?_, ?_⟩
  all_goals rw [hb.cell (p := ⟨0, _, none⟩) hn]; assumption
theorem num_prime : Num (.agg #[.int .u64 P0, .int .u64 P1, .int .u64 P1, .int .u64 P3]) Pr :=
  ⟨P0, P1, P1, P3, rfl, by unfold U P0; omega, by unfold U P1; omega, by unfold U P1; omega, by unfold U P3; omega, by unfold val4 P0 P1 P3 Pr; omega⟩

theorem and_low63 (z : Int) (h : U z) : bits .and .u64 z 9223372036854775807 = z % 9223372036854775808 := by
  obtain ⟨A, rfl⟩ := Int.eq_ofNat_of_zero_le h.1
  have hA : A < 18446744073709551616 := by have := h.2; omega
  have e : (9223372036854775807 : Int) = ((9223372036854775807 : Nat) : Int) := rfl
  rw [e, u64_and_nat A _ hA (by omega)]
  have m : A &&& 9223372036854775807 = A % 9223372036854775808 := Nat.and_two_pow_sub_one_eq_mod A 63
  rw [m]; omega

/-- without the highest bit, and it put to it by 19 -/
theorem left_math {a0 a1 a2 a3 x : Int} (h : Is4 a0 a1 a2 a3 x) :
    Is4 a0 a1 a2 (a3 % 9223372036854775808) (val4 a0 a1 a2 (a3 % 9223372036854775808)) ∧ U (19 * (a3 / 9223372036854775808)) ∧
    ∀ z k l b : Int, (0 ≤ z ∧ z < W256) → (0 ≤ k ∧ k ≤ 1) → (0 ≤ l ∧ l < W256) → (0 ≤ b ∧ b ≤ 1) → z + k * W256 = val4 a0 a1 a2 (a3 % 9223372036854775808) + 19 * (a3 / 9223372036854775808) → l - b * W256 = z - Pr → (b = 1 → z = x % Pr) ∧ (b = 0 → l = x % Pr) := by
  obtain ⟨u0, u1, u2, u3, hx⟩ := h
  unfold U at *
  refine ⟨⟨u0, u1, u2, ⟨by omega, by omega⟩, rfl⟩, ⟨by omega, by omega⟩, ?_⟩
  intro z k l b hz hk hl hb e1 e2
  have hk0 : k = 0 := by unfold val4 W256 at *; omega
  subst hk0
  have hzx : x = z + Pr * (a3 / 9223372036854775808) := by unfold val4 Pr at *; omega
  have hz1 : 0 ≤ z ∧ z < Pr + 38 := by unfold val4 Pr W256 at *; omega
  have hp : 100 < Pr ∧ Pr < W256 - 100 := by unfold Pr W256; omega
  constructor
  · intro hb1
    subst hb1
    rw [hzx, Int.add_mul_emod_self_left, Int.emod_eq_of_lt hz1.1 (by unfold W256 at *; omega)]
  · intro hb0
    subst hb0
    have : z = l + Pr * 1 := by omega
    rw [hzx, Int.add_mul_emod_self_left, this, Int.add_mul_emod_self_left, Int.emod_eq_of_lt hl.1 (by omega)]

set_option maxHeartbeats 1000000 in
theorem left_any (va : Value) (x : Int) (hva : Num va x) (w : World) (hP : PrimeAt w) :
    Calls Tryd.prog 54 #[va] w (NumPost (fun z => z = x % Pr) w) := by
  obtain ⟨a0, a1, a2, a3, rfl, ha⟩ := hva
  obtain ⟨l1, l2, l3⟩ := left_math ha
  have hand := and_low63 a3 ha.2.2.2.1
  have w19 : IntKind.u64.wrap (19 * (a3 / 9223372036854775808)) = 19 * (a3 / 9223372036854775808) := by
    rw [IntKind.wrap_u64]; unfold U at l2; omega
  have L3 := Lib.hid l3
  clear l3
  go_enter Tryd.func54, Tryd.ntmps54
  go_wp2_with fail
  refine (sum_any _ _ _ _ ⟨_, _, _, _, rfl, l1⟩ (num_lone _ l2) _).mono ?_
  rintro e w1 ⟨a, b, c, d, k1, z, rfl, hz, hk1, ez, hb1⟩
  have hN : Blk w1 w.heap.size a0 a1 a2 (a3 % 9223372036854775808) := Blk.below ((Blk.fresh_at _ _ _ _ _ _ _ (by simp)).alloc _) hb1 (by simp; omega)
  have hR : Blk w1 (w.heap.size + 1) 0 0 0 0 := Blk.below (Blk.fresh_at _ _ _ _ _ _ _ (by simp)) hb1 (by simp)
  have hb1' : Below w.heap.size w w1 := Below.trans (by go_grown) (hb1.mono (by simp; omega))
  have hP1 := hP.below hb1' hP.lt
  have EZ := Lib.hid ez
  clear ez hb1
  have hP1' : PrimeAt ((((w1.setCell ⟨w.heap.size, 0, none⟩ (.int .u64 a)).setCell ⟨w.heap.size, 1, none⟩ (.int .u64 b)).setCell ⟨w.heap.size, 2, none⟩ (.int .u64 c)).setCell ⟨w.heap.size, 3, none⟩ (.int .u64 d)) :=
    hP1.below (below_set4 (Below.refl w.heap.size w1) (Nat.le_refl _) _ _ _ _) hP.lt
  obtain ⟨⟨x0, x1, x2, x3⟩, ⟨y0, y1, y2, y3⟩⟩ := id hN
  obtain ⟨p0, p1, p2, p3⟩ := id hP1'
  go_wp2_with fail
  refine (diff_any _ _ _ _ ⟨_, _, _, _, rfl, hz⟩ num_prime _).mono ?_
  rintro e w2 ⟨a', b', c', d', k2, l, rfl, hl, hk2, el, hb2⟩
  clear x0 x1 x2 x3 y0 y1 y2 y3 p0 p1 p2 p3
  have hN2 : Blk w2 w.heap.size a b c d := Blk.below (hN.set4 a b c d) hb2 (by rw [size_set4]; exact hN.lt)
  have hR2 : Blk w2 (w.heap.size + 1) 0 0 0 0 := Blk.below (hR.far4 (by omega) _ _ _ _) hb2 (by rw [size_set4]; exact hR.lt)
  have hb2' : Below w.heap.size w w2 := (below_set4 hb1' (Nat.le_refl _) _ _ _ _).trans (hb2.mono (by rw [size_set4]; exact Nat.le_of_lt hN.lt))
  have hfin := L3.out z k1 l k2 (is4_range hz) hk1 (is4_range hl) hk2 EZ.out el
  have HF := Lib.hid hfin
  clear hfin el hb2 hP1 hP1' hN hR hb1'
  obtain ⟨⟨x0, x1, x2, x3⟩, ⟨y0, y1, y2, y3⟩⟩ := id hN2
  have hlt := hN2.lt
  have hlt1 := hR2.lt
  go_wp2_with fail
  have hN3 := hN2.alloc (.cells #[.int .u64 a', .int .u64 b', .int .u64 c', .int .u64 d'] 46)
  have hR3 := hR2.alloc (.cells #[.int .u64 a', .int .u64 b', .int .u64 c', .int .u64 d'] 46)
  have hb3 : Below w.heap.size w (w2.alloc (.cells #[.int .u64 a', .int .u64 b', .int .u64 c', .int .u64 d'] 46)) := hb2'.alloc (by omega) _
  have hcase : k2 = 1 ∨ k2 = 0 := by omega
  rcases hcase with rfl | rfl
  · refine (choose_one _ _ _ _ ⟨_, _, _, _, rfl, hz⟩ ⟨_, _, _, _, rfl, hl⟩ _).mono ?_
    rintro e w4 ⟨r0, r1, r2, r3, q, rfl, hq, rfl, hb4⟩
    have hR4 := hR3.below hb4 hR3.lt
    have hb4' : Below w.heap.size w w4 := hb3.trans (hb4.mono (Nat.le_of_lt hN3.lt))
    clear hb4 hN3 hR3 hb3 x0 x1 x2 x3 y0 y1 y2 y3
    obtain ⟨⟨x0, x1, x2, x3⟩, ⟨y0, y1, y2, y3⟩⟩ := id hR4
    go_wp2_with fail
    refine bodyPost_ret (v := .agg #[.int .u64 r0, .int .u64 r1, .int .u64 r2, .int .u64 r3]) (by simp [results, Tryd.results54, go_sem, x0, x1, x2, x3]) rfl ⟨r0, r1, r2, r3, _, rfl, hq, HF.out.1 trivial, ?_⟩
    exact below_set4 hb4' (by omega) _ _ _ _
  · refine (choose_two _ _ _ _ ⟨_, _, _, _, rfl, hz⟩ ⟨_, _, _, _, rfl, hl⟩ _).mono ?_
    rintro e w4 ⟨r0, r1, r2, r3, q, rfl, hq, rfl, hb4⟩
    have hR4 := hR3.below hb4 hR3.lt
    have hb4' : Below w.heap.size w w4 := hb3.trans (hb4.mono (Nat.le_of_lt hN3.lt))
    clear hb4 hN3 hR3 hb3 x0 x1 x2 x3 y0 y1 y2 y3
    obtain ⟨⟨x0, x1, x2, x3⟩, ⟨y0, y1, y2, y3⟩⟩ := id hR4
    go_wp2_with fail
    refine bodyPost_ret (v := .agg #[.int .u64 r0, .int .u64 r1, .int .u64 r2, .int .u64 r3]) (by simp [results, Tryd.results54, go_sem, x0, x1, x2, x3]) rfl ⟨r0, r1, r2, r3, _, rfl, hq, HF.out.2 trivial, ?_⟩
    exact below_set4 hb4' (by omega) _ _ _ _
end Go.Proofs.YtccjhlipcgpkmaaDoor
