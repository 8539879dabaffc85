/- The contracts of package limb: choose, multiplyAdd. -/
import Derived.Test.YtccjhlipcgpkmaaDoorLeaf
namespace Go.Proofs.YtccjhlipcgpkmaaDoor
open Go.RowKit

set_option maxHeartbeats 1000000 in
theorem choose_one (va vb : Value) (x y : Int) (hva : Num va x) (hvb : Num vb y) (w : World) :
    Calls Tryd.prog 65 #[.int .u64 1, va, vb] w (NumPost (· = x) w) := by
  obtain ⟨a0, a1, a2, a3, rfl, ha⟩ := hva
  obtain ⟨b0, b1, b2, b3, rfl, hb⟩ := hvb
  have p0 := pick_one a0 b0 ha.1 hb.1
  have p1 := pick_one a1 b1 ha.2.1 hb.2.1
  have p2 := pick_one a2 b2 ha.2.2.1 hb.2.2.1
  have p3 := pick_one a3 b3 ha.2.2.2.1 hb.2.2.2.1
  go_enter Tryd.func65, Tryd.ntmps65
  go_wp2
  refine wp_loop_rounds 5 ?_
  rw [rounds_succ]; go_wp2; go_region; go_wp2
  rw [rounds_succ]; go_wp2; go_region; go_wp2
  rw [rounds_succ]; go_wp2; go_region; go_wp2
  rw [rounds_succ]; go_wp2; go_region; go_wp2
  rw [rounds_succ]; go_wp2
  refine bodyPost_ret (v := .agg #[.int .u64 a0, .int .u64 a1, .int .u64 a2, .int .u64 a3]) (by simp [results, Tryd.results65, go_sem]) rfl ⟨a0, a1, a2, a3, x, rfl, ha, rfl, ?_⟩
  go_grown
set_option maxHeartbeats 1000000 in
theorem choose_two (va vb : Value) (x y : Int) (hva : Num va x) (hvb : Num vb y) (w : World) :
    Calls Tryd.prog 65 #[.int .u64 0, va, vb] w (NumPost (· = y) w) := by
  obtain ⟨a0, a1, a2, a3, rfl, ha⟩ := hva
  obtain ⟨b0, b1, b2, b3, rfl, hb⟩ := hvb
  have p0 := pick_two a0 b0 ha.1 hb.1
  have p1 := pick_two a1 b1 ha.2.1 hb.2.1
  have p2 := pick_two a2 b2 ha.2.2.1 hb.2.2.1
  have p3 := pick_two a3 b3 ha.2.2.2.1 hb.2.2.2.1
  go_enter Tryd.func65, Tryd.ntmps65
  go_wp2
  refine wp_loop_rounds 5 ?_
  rw [rounds_succ]; go_wp2; go_region; go_wp2
  rw [rounds_succ]; go_wp2; go_region; go_wp2
  rw [rounds_succ]; go_wp2; go_region; go_wp2
  rw [rounds_succ]; go_wp2; go_region; go_wp2
  rw [rounds_succ]; go_wp2
  refine bodyPost_ret (v := .agg #[.int .u64 b0, .int .u64 b1, .int .u64 b2, .int .u64 b3]) (by simp [results, Tryd.results65, go_sem]) rfl ⟨b0, b1, b2, b3, y, rfl, hb, rfl, ?_⟩
  go_grown
set_option maxHeartbeats 1000000 in
theorem mul64_any (x y : Int) (hx : U x) (hy : U y) (w : World) :
    Calls Tryd.prog 75 #[.int .u64 x, .int .u64 y] w fun e w' => e = .returned (.tuple #[.int .u64 (x * y / 18446744073709551616), .int .u64 (x * y % 18446744073709551616)]) ∧ w = w' := by
  have hm := mul64_arith x y hx.1 hx.2 hy.1 hy.2
  have HM := Lib.hid hm
  clear hm
  go_enter Tryd.func75, Tryd.ntmps75
  go_wp2
  simp only [and_low32 x hx.1 hx.2, and_low32 y hy.1 hy.2, IntKind.wrap_u64]
  rw [and_low32 _ (by omega) (by omega), HM.out]
  go_ret2
  exact ⟨rfl, rfl⟩

set_option maxHeartbeats 1000000 in
theorem mad_ex (x y a b : Int) (hx : U x) (hy : U y) (ha : U a) (hb : U b) : ∃ l h, MulTo x y a b l h ∧ ∀ w : World,
    Calls Tryd.prog 68 #[.int .u64 x, .int .u64 y, .int .u64 a, .int .u64 b] w fun e w' => e = .returned (.tuple #[.int .u64 l, .int .u64 h]) ∧ w = w' := by
  have hxy : 0 ≤ x * y ∧ x * y ≤ 340282366920938463426481119284349108225 := by
    refine ⟨Int.mul_nonneg hx.1 hy.1, ?_⟩
    have := Int.mul_le_mul (show x ≤ 18446744073709551615 by have := hx.2; omega) (show y ≤ 18446744073709551615 by have := hy.2; omega) hy.1 (by omega : (0 : Int) ≤ 18446744073709551615)
    simpa using this
  have hl : U (x * y % 18446744073709551616) := by unfold U; omega
  obtain ⟨s1, c1, e1, r1⟩ := add64_ex (x * y % 18446744073709551616) a 0 hl ha (by omega)
  obtain ⟨s2, c2, e2, r2⟩ := add64_ex s1 b 0 e1.1 hb (by omega)
  have hh : x * y / 18446744073709551616 + c1 + c2 < 18446744073709551616 := by
    have g1 := e1.2.2; have g2 := e2.2.2; have u1 := e1.1; have u2 := e2.1; unfold U at *; omega
  have hh0 : 0 ≤ x * y / 18446744073709551616 := by omega
  refine ⟨s2, x * y / 18446744073709551616 + c1 + c2, ⟨e2.1, ?_, ?_⟩, fun w => ?_⟩
  · have g1 := e1.2.1; have g2 := e2.2.1; unfold U; omega
  · have g1 := e1.2.2; have g2 := e2.2.2; omega
  have w1 : IntKind.u64.wrap (x * y / 18446744073709551616 + c1) = x * y / 18446744073709551616 + c1 := by
    have g1 := e1.2.1; have g2 := e2.2.1; rw [IntKind.wrap_u64]; omega
  have w2 : IntKind.u64.wrap (x * y / 18446744073709551616 + c1 + c2) = x * y / 18446744073709551616 + c1 + c2 := by
    have g1 := e1.2.1; have g2 := e2.2.1; rw [IntKind.wrap_u64]; omega
  have m := mul64_any x y hx hy w
  clear e1 e2 hh hh0 hxy hl
  generalize x * y / 18446744073709551616 = hi at *
  generalize x * y % 18446744073709551616 = lo at *
  have M := Lib.hid m
  clear m
  go_enter Tryd.func68, Tryd.ntmps68
  go_wp2_with (go_at_call 75; refine (M.out).mono ?_; rintro e w' ⟨rfl, rfl⟩)
  go_ret2
  exact ⟨rfl, rfl⟩
end Go.Proofs.YtccjhlipcgpkmaaDoor
