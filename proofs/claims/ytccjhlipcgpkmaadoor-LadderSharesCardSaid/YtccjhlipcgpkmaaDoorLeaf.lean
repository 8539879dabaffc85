/- The contracts of the leaves of package limb: sum, difference, choose, multiplyAdd, product, fold. -/
import Derived.Test.YtccjhlipcgpkmaaDoorRows
import Derived.Test.YtccjhlipcgpkmaaDoorNum
import Derived.Deep.RegionWith
import Derived.Shelf.Spec.BitsCarry
namespace Go.Proofs.YtccjhlipcgpkmaaDoor
open Go.RowKit

/-- a value of type number that tells x -/
def Num (v : Value) (x : Int) : Prop := ∃ a b c d, v = .agg #[.int .u64 a, .int .u64 b, .int .u64 c, .int .u64 d] ∧ Is4 a b c d x

theorem add64_ex (x y c : Int) (hx : U x) (hy : U y) (hc : 0 ≤ c ∧ c ≤ 1) : ∃ s d, AddTo x y c s d ∧ ∀ w : World,
    (callFunc 66 #[.int .u64 x, .int .u64 y, .int .u64 c]).run Tryd.prog w =
      .ok (.value (.tuple #[.int .u64 s, .int .u64 d])) w := by
  refine ⟨(x + y + c) % 18446744073709551616, (x + y + c) / 18446744073709551616, ?_, fun w => ?_⟩
  · unfold AddTo U at *; omega
  rw [run_callFunc_extern Tryd.func66 (by kernel_rfl) (by kernel_rfl) (by kernel_rfl) (e := add64Entry) (by kernel_rfl), run_add64 x y c hx.1 hy.1 hc.1 hc.2]
  rfl

theorem sub64_ex (x y c : Int) (hx : U x) (hy : U y) (hc : 0 ≤ c ∧ c ≤ 1) : ∃ s d, SubTo x y c s d ∧ ∀ w : World,
    (callFunc 67 #[.int .u64 x, .int .u64 y, .int .u64 c]).run Tryd.prog w =
      .ok (.value (.tuple #[.int .u64 s, .int .u64 d])) w := by
  obtain ⟨X, rfl⟩ := Int.eq_ofNat_of_zero_le hx.1
  obtain ⟨Y, rfl⟩ := Int.eq_ofNat_of_zero_le hy.1
  obtain ⟨C, rfl⟩ := Int.eq_ofNat_of_zero_le hc.1
  refine ⟨(((X + 18446744073709551616 - Y - C) % 18446744073709551616 : Nat) : Int), ((if X < Y + C then 1 else 0 : Nat) : Int), ?_, fun w => ?_⟩
  · unfold SubTo U at *; split <;> omega
  rw [run_callFunc_extern Tryd.func67 (by kernel_rfl) (by kernel_rfl) (by kernel_rfl) (e := sub64Entry) (by kernel_rfl), run_sub64 X Y C (by omega)]
  rfl

theorem bcell {W w1 : World} (hb : Below W.heap.size W w1) : (∀ b o, b < W.heap.size → w1.cell? ⟨b, o, none⟩ = W.cell? ⟨b, o, none⟩) ∧ (∀ b o, b < W.heap.size → w1.frozen? ⟨b, o, none⟩ = W.frozen? ⟨b, o, none⟩) :=
  ⟨fun b o h => hb.cell (p := ⟨b, o, none⟩) h, fun b o h => hb.frozen (p := ⟨b, o, none⟩) h⟩

def SumPost (x y : Int) (w : World) (e : Ending) (w' : World) : Prop :=
  ∃ a b c d k z, e = .returned (.tuple #[.agg #[.int .u64 a, .int .u64 b, .int .u64 c, .int .u64 d], .int .u64 k]) ∧ Is4 a b c d z ∧ (0 ≤ k ∧ k ≤ 1) ∧ z + k * W256 = x + y ∧ Below w.heap.size w w'
def DiffPost (x y : Int) (w : World) (e : Ending) (w' : World) : Prop :=
  ∃ a b c d k z, e = .returned (.tuple #[.agg #[.int .u64 a, .int .u64 b, .int .u64 c, .int .u64 d], .int .u64 k]) ∧ Is4 a b c d z ∧ (0 ≤ k ∧ k ≤ 1) ∧ z - k * W256 = x - y ∧ Below w.heap.size w w'

set_option maxHeartbeats 1000000 in
theorem sum_any (va vb : Value) (x y : Int) (hva : Num va x) (hvb : Num vb y) (w : World) :
    Calls Tryd.prog 55 #[va, vb] w (SumPost x y w) := by
  obtain ⟨a0, a1, a2, a3, rfl, ha⟩ := hva
  obtain ⟨b0, b1, b2, b3, rfl, hb⟩ := hvb
  obtain ⟨s0, c0, e0, r0⟩ := add64_ex a0 b0 0 ha.1 hb.1 (by omega)
  obtain ⟨s1, c1, e1, r1⟩ := add64_ex a1 b1 c0 ha.2.1 hb.2.1 e0.2.1
  obtain ⟨s2, c2, e2, r2⟩ := add64_ex a2 b2 c1 ha.2.2.1 hb.2.2.1 e1.2.1
  obtain ⟨s3, c3, e3, r3⟩ := add64_ex a3 b3 c2 ha.2.2.2.1 hb.2.2.2.1 e2.2.1
  obtain ⟨z, hz, hk, ez⟩ := sum4 ha hb e0 e1 e2 e3
  have EZ := Lib.hid ez
  clear ez e0 e1 e2 e3
  go_enter Tryd.func55, Tryd.ntmps55
  go_wp2
  refine wp_loop_rounds 5 ?_
  rw [rounds_succ]; go_wp2; go_region; go_wp2
  rw [rounds_succ]; go_wp2; go_region; go_wp2
  rw [rounds_succ]; go_wp2; go_region; go_wp2
  rw [rounds_succ]; go_wp2; go_region; go_wp2
  rw [rounds_succ]; go_wp2
  refine bodyPost_ret (v := .tuple #[.agg #[.int .u64 s0, .int .u64 s1, .int .u64 s2, .int .u64 s3], .int .u64 c3]) (by simp [results, Tryd.results55, go_sem]) rfl ⟨s0, s1, s2, s3, c3, z, rfl, hz, hk, EZ.out, ?_⟩
  go_grown

set_option maxHeartbeats 1000000 in
theorem diff_any (va vb : Value) (x y : Int) (hva : Num va x) (hvb : Num vb y) (w : World) :
    Calls Tryd.prog 56 #[va, vb] w (DiffPost x y w) := by
  obtain ⟨a0, a1, a2, a3, rfl, ha⟩ := hva
  obtain ⟨b0, b1, b2, b3, rfl, hb⟩ := hvb
  obtain ⟨s0, c0, e0, r0⟩ := sub64_ex a0 b0 0 ha.1 hb.1 (by omega)
  obtain ⟨s1, c1, e1, r1⟩ := sub64_ex a1 b1 c0 ha.2.1 hb.2.1 e0.2.1
  obtain ⟨s2, c2, e2, r2⟩ := sub64_ex a2 b2 c1 ha.2.2.1 hb.2.2.1 e1.2.1
  obtain ⟨s3, c3, e3, r3⟩ := sub64_ex a3 b3 c2 ha.2.2.2.1 hb.2.2.2.1 e2.2.1
  obtain ⟨z, hz, hk, ez⟩ := diff4 ha hb e0 e1 e2 e3
  have EZ := Lib.hid ez
  clear ez e0 e1 e2 e3
  go_enter Tryd.func56, Tryd.ntmps56
  go_wp2
  refine wp_loop_rounds 5 ?_
  rw [rounds_succ]; go_wp2; go_region; go_wp2
  rw [rounds_succ]; go_wp2; go_region; go_wp2
  rw [rounds_succ]; go_wp2; go_region; go_wp2
  rw [rounds_succ]; go_wp2; go_region; go_wp2
  rw [rounds_succ]; go_wp2
  refine bodyPost_ret (v := .tuple #[.agg #[.int .u64 s0, .int .u64 s1, .int .u64 s2, .int .u64 s3], .int .u64 c3]) (by simp [results, Tryd.results56, go_sem]) rfl ⟨s0, s1, s2, s3, c3, z, rfl, hz, hk, EZ.out, ?_⟩
  go_grown

def NumPost (p : Int → Prop) (w : World) (e : Ending) (w' : World) : Prop :=
  ∃ a b c d z, e = .returned (.agg #[.int .u64 a, .int .u64 b, .int .u64 c, .int .u64 d]) ∧ Is4 a b c d z ∧ p z ∧ Below w.heap.size w w'

end Go.Proofs.YtccjhlipcgpkmaaDoor
