/- The contracts of package limb: fold, times, left, plus, minus. -/
import Derived.Test.YtccjhlipcgpkmaaDoorProd
import Derived.Test.YtccjhlipcgpkmaaDoorBlk
import Derived.Deep.RegionHeld3
namespace Go.Proofs.YtccjhlipcgpkmaaDoor
open Go.RowKit

theorem fold_math {w0 w1 w2 w3 w4 w5 w6 w7 n0 n1 n2 n3 c1 c2 c3 c4 p : Int} (h : Is8 w0 w1 w2 w3 w4 w5 w6 w7 p)
    (m0 : MulTo w4 38 w0 0 n0 c1) (m1 : MulTo w5 38 w1 c1 n1 c2) (m2 : MulTo w6 38 w2 c2 n2 c3) (m3 : MulTo w7 38 w3 c3 n3 c4) :
    Is4 n0 n1 n2 n3 (val4 n0 n1 n2 n3) ∧ 0 ≤ c4 ∧ c4 ≤ 38 ∧ (∀ z k1 z2 k2 : Int, (0 ≤ z ∧ z < W256) → (0 ≤ z2 ∧ z2 < W256) → (0 ≤ k1 ∧ k1 ≤ 1) → (0 ≤ k2 ∧ k2 ≤ 1) → z + k1 * W256 = val4 n0 n1 n2 n3 + 38 * c4 → z2 + k2 * W256 = z + 38 * k1 → z2 % Pr = p % Pr) := by
  obtain ⟨⟨u0, u1, u2, u3⟩, ⟨u4, u5, u6, u7⟩, hp⟩ := h
  obtain ⟨v0, x1, g0⟩ := m0
  obtain ⟨v1, x2, g1⟩ := m1
  obtain ⟨v2, x3, g2⟩ := m2
  obtain ⟨v3, x4, g3⟩ := m3
  unfold U at *
  refine ⟨⟨v0, v1, v2, v3, rfl⟩, by omega, by omega, ?_⟩
  intro z k1 z2 k2 hz hz2 hk1 hk2 e1 e2
  have hk : k2 = 0 := by
    unfold val4 W256 at *
    omega
  subst hk
  have key : p - z2 = 2 * Pr * (val4 w4 w5 w6 w7 + c4 + k1) := by
    unfold val4 W256 Pr at *
    omega
  have : p = z2 + Pr * (2 * (val4 w4 w5 w6 w7 + c4 + k1)) := by
    rw [show Pr * (2 * (val4 w4 w5 w6 w7 + c4 + k1)) = 2 * Pr * (val4 w4 w5 w6 w7 + c4 + k1) by rw [← Int.mul_assoc, Int.mul_comm Pr 2]]
    omega
  rw [this, Int.add_mul_emod_self_left]

theorem num_lone (n : Int) (h : U n) : Num (.agg #[.int .u64 n, .int .u64 0, .int .u64 0, .int .u64 0]) n :=
  ⟨n, 0, 0, 0, rfl, h, by unfold U; omega, by unfold U; omega, by unfold U; omega, by unfold val4; omega⟩

set_option maxHeartbeats 4000000 in
theorem fold_any (w0 w1 w2 w3 w4 w5 w6 w7 p : Int) (h8 : Is8 w0 w1 w2 w3 w4 w5 w6 w7 p) (w : World) :
    Calls Tryd.prog 57 #[.agg #[.int .u64 w0, .int .u64 w1, .int .u64 w2, .int .u64 w3, .int .u64 w4, .int .u64 w5, .int .u64 w6, .int .u64 w7]] w (NumPost (fun z => z % Pr = p % Pr) w) := by
  have U0 : U 0 := by unfold U; omega
  have U38 : U 38 := by unfold U; omega
  obtain ⟨n0, c1, e0, m0⟩ := mad_ex w4 38 w0 0 h8.2.1.1 U38 h8.1.1 U0
  obtain ⟨n1, c2, e1, m1⟩ := mad_ex w5 38 w1 c1 h8.2.1.2.1 U38 h8.1.2.1 e0.2.1
  obtain ⟨n2, c3, e2, m2⟩ := mad_ex w6 38 w2 c2 h8.2.1.2.2.1 U38 h8.1.2.2.1 e1.2.1
  obtain ⟨n3, c4, e3, m3⟩ := mad_ex w7 38 w3 c3 h8.2.1.2.2.2 U38 h8.1.2.2.2 e2.2.1
  obtain ⟨f1, f2, f3, f4⟩ := fold_math h8 e0 e1 e2 e3
  have F4 := Lib.hid f4
  clear f4 e0 e1 e2 e3 U0 U38
  have M0 := Lib.hid m0; have M1 := Lib.hid m1; have M2 := Lib.hid m2; have M3 := Lib.hid m3
  clear m0 m1 m2 m3
  have wc : IntKind.u64.wrap (38 * c4) = 38 * c4 := by rw [IntKind.wrap_u64]; omega
  have i4 : IntKind.i64.wrap 4 = 4 := by rw [IntKind.wrap_i64]; rfl
  have i5 : IntKind.i64.wrap 5 = 5 := by rw [IntKind.wrap_i64]; rfl
  have i6 : IntKind.i64.wrap 6 = 6 := by rw [IntKind.wrap_i64]; rfl
  have i7 : IntKind.i64.wrap 7 = 7 := by rw [IntKind.wrap_i64]; rfl
  go_enter Tryd.func57, Tryd.ntmps57
  go_wp2
  refine wp_loop_rounds 5 ?_
  rw [rounds_succ]; go_wp2
  go_region_held3 (fun w' => w'.cell? ⟨w.heap.size, 4, none⟩ = some (.int .u64 w4) ∧ w'.cell? ⟨w.heap.size, 0, none⟩ = some (.int .u64 w0))
    (first | go_keep | (simp (disch := (first | (simp only [World.size_alloc]; done) | (simp only [World.size_alloc]; omega))) only [World.cell?_alloc_at, World.cell?_alloc_past, World.cell?_drew]; simp))
    ((go_at_call 68; refine (M0.out _).mono ?_; rintro e w' ⟨rfl, rfl⟩))
  go_wp2
  rw [rounds_succ]; go_wp2
  go_region_held3 (fun w' => w'.cell? ⟨w.heap.size, 5, none⟩ = some (.int .u64 w5) ∧ w'.cell? ⟨w.heap.size, 1, none⟩ = some (.int .u64 w1))
    (first | go_keep | (simp (disch := (first | (simp only [World.size_alloc]; done) | (simp only [World.size_alloc]; omega))) only [World.cell?_alloc_at, World.cell?_alloc_past, World.cell?_drew]; simp))
    ((go_at_call 68; refine (M1.out _).mono ?_; rintro e w' ⟨rfl, rfl⟩))
  go_wp2
  rw [rounds_succ]; go_wp2
  go_region_held3 (fun w' => w'.cell? ⟨w.heap.size, 6, none⟩ = some (.int .u64 w6) ∧ w'.cell? ⟨w.heap.size, 2, none⟩ = some (.int .u64 w2))
    (first | go_keep | (simp (disch := (first | (simp only [World.size_alloc]; done) | (simp only [World.size_alloc]; omega))) only [World.cell?_alloc_at, World.cell?_alloc_past, World.cell?_drew]; simp))
    ((go_at_call 68; refine (M2.out _).mono ?_; rintro e w' ⟨rfl, rfl⟩))
  go_wp2
  rw [rounds_succ]; go_wp2
  go_region_held3 (fun w' => w'.cell? ⟨w.heap.size, 7, none⟩ = some (.int .u64 w7) ∧ w'.cell? ⟨w.heap.size, 3, none⟩ = some (.int .u64 w3))
    (first | go_keep | (simp (disch := (first | (simp only [World.size_alloc]; done) | (simp only [World.size_alloc]; omega))) only [World.cell?_alloc_at, World.cell?_alloc_past, World.cell?_drew]; simp))
    ((go_at_call 68; refine (M3.out _).mono ?_; rintro e w' ⟨rfl, rfl⟩))
  go_wp2
  rw [rounds_succ]; go_wp2_with fail
  refine (sum_any _ _ _ _ ⟨_, _, _, _, rfl, f1⟩ (num_lone (38 * c4) (by unfold U; omega)) _).mono ?_
  rintro e w1 ⟨a, b, c, d, k1, z, rfl, hz, hk1, ez, hb1⟩
  have hN : Blk w1 (w.heap.size + 1 + 1) n0 n1 n2 n3 := Blk.below ((((Blk.fresh_at _ _ _ _ _ _ _ (by simp)).drew).drew).drew).drew hb1 (by simp)
  have hR : Blk w1 (w.heap.size + 1) 0 0 0 0 := Blk.below (((((Blk.fresh_at _ _ _ _ _ _ _ (by simp)).alloc _).drew).drew).drew).drew hb1 (by simp)
  have hb1' : Below w.heap.size w w1 := Below.trans (by go_grown) (hb1.mono (by simp; omega))
  have EZ := Lib.hid ez
  clear ez hb1 M0 M1 M2 M3 i4 i5 i6 i7
  have wk : IntKind.u64.wrap (38 * k1) = 38 * k1 := by rw [IntKind.wrap_u64]; omega
  obtain ⟨⟨x0, x1, x2, x3⟩, ⟨y0, y1, y2, y3⟩⟩ := id hN
  go_wp2_with fail
  refine (sum_any _ _ _ _ ⟨_, _, _, _, rfl, hz⟩ (num_lone (38 * k1) (by unfold U; omega)) _).mono ?_
  rintro e w2 ⟨a', b', c', d', k2, z2, rfl, hz2, hk2, ez2, hb2⟩
  clear x0 x1 x2 x3 y0 y1 y2 y3
  have hN2 : Blk w2 (w.heap.size + 1 + 1) a b c d := Blk.below (hN.set4 a b c d) hb2 (by rw [size_set4]; exact hN.lt)
  have hR2 : Blk w2 (w.heap.size + 1) 0 0 0 0 := Blk.below (hR.far4 (by omega) _ _ _ _) hb2 (by rw [size_set4]; exact hR.lt)
  have hb2' : Below w.heap.size w w2 := (below_set4 hb1' (by omega) _ _ _ _).trans (hb2.mono (by rw [size_set4]; exact Nat.le_of_lt (Nat.lt_trans (by omega) hN.lt)))
  have EZ2 := Lib.hid ez2
  clear ez2 hb2
  obtain ⟨⟨x0, x1, x2, x3⟩, ⟨y0, y1, y2, y3⟩⟩ := id hN2
  obtain ⟨⟨r0, r1, r2, r3⟩, ⟨s0, s1, s2, s3⟩⟩ := id hR2
  go_wp2_with fail
  refine bodyPost_ret (v := .agg #[.int .u64 a', .int .u64 b', .int .u64 c', .int .u64 d']) (by simp [results, Tryd.results57, go_sem, r0, r1, r2, r3]) rfl ⟨a', b', c', d', z2, rfl, hz2, F4.out z k1 z2 k2 (is4_range hz) (is4_range hz2) hk1 hk2 EZ.out EZ2.out, ?_⟩
  exact below_set4 (below_set4 hb2' (by omega) _ _ _ _) (by omega) _ _ _ _

set_option maxHeartbeats 4000000 in
theorem times_any (va vb : Value) (x y : Int) (hva : Num va x) (hvb : Num vb y) (w : World) :
    Calls Tryd.prog 39 #[va, vb] w (NumPost (fun z => z % Pr = (x * y) % Pr) w) := by
  obtain ⟨a0, a1, a2, a3, rfl, ha⟩ := hva
  obtain ⟨b0, b1, b2, b3, rfl, hb⟩ := hvb
  go_enter Tryd.func39, Tryd.ntmps39
  go_wp2_with fail
  refine (product_any _ _ _ _ ⟨_, _, _, _, rfl, ha⟩ ⟨_, _, _, _, rfl, hb⟩ _).mono ?_
  rintro e w1 ⟨s0, s1, s2, s3, s4, s5, s6, s7, rfl, h8, hb1⟩
  have hR : Blk w1 (w.heap.size + 1 + 1) 0 0 0 0 := Blk.below (Blk.fresh_at _ _ _ _ _ _ _ (by simp)) hb1 (by simp)
  have hb1' : Below w.heap.size w w1 := Below.trans (by go_grown) (hb1.mono (by simp; omega))
  clear hb1
  go_wp2_with fail
  refine (fold_any _ _ _ _ _ _ _ _ _ h8 _).mono ?_
  rintro e w2 ⟨a', b', c', d', z, rfl, hz, hp, hb2⟩
  have hR2 : Blk w2 (w.heap.size + 1 + 1) 0 0 0 0 := Blk.below hR hb2 hR.lt
  have hb2' : Below w.heap.size w w2 := hb1'.trans (hb2.mono (Nat.le_of_lt (Nat.lt_trans (by omega) hR.lt)))
  have HP := Lib.hid hp
  clear hb2 hp
  obtain ⟨⟨r0, r1, r2, r3⟩, ⟨q0, q1, q2, q3⟩⟩ := id hR2
  go_wp2_with fail
  refine bodyPost_ret (v := .agg #[.int .u64 a', .int .u64 b', .int .u64 c', .int .u64 d']) (by simp [results, Tryd.results39, go_sem, r0, r1, r2, r3]) rfl ⟨a', b', c', d', z, rfl, hz, HP.out, ?_⟩
  exact below_set4 hb2' (by omega) _ _ _ _
end Go.Proofs.YtccjhlipcgpkmaaDoor
