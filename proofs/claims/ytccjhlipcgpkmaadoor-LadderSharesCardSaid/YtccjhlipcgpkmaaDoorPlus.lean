/- The contracts of package limb: plus, minus. -/
import Derived.Test.YtccjhlipcgpkmaaDoorLeft
namespace Go.Proofs.YtccjhlipcgpkmaaDoor
open Go.RowKit

theorem left_in (w0 : World) (va : Value) (x : Int) (w : World) (hva : Num va x) (hP : PrimeAt w0) (hb : Below w0.heap.size w0 w) :
    Calls Tryd.prog 54 #[va] w (NumPost (fun z => z = x % Pr) w) := left_any va x hva w (hP.below hb hP.lt)

theorem plus_math {x y z k : Int} (hz : 0 ≤ z ∧ z < W256) (_hk : 0 ≤ k ∧ k ≤ 1) (h : z + k * W256 = x % Pr + y % Pr) : z = x % Pr + y % Pr := by
  have a1 : 0 ≤ x % Pr ∧ x % Pr < Pr := ⟨Int.emod_nonneg _ (by unfold Pr; omega), Int.emod_lt_of_pos _ (by unfold Pr; omega)⟩
  have a2 : 0 ≤ y % Pr ∧ y % Pr < Pr := ⟨Int.emod_nonneg _ (by unfold Pr; omega), Int.emod_lt_of_pos _ (by unfold Pr; omega)⟩
  generalize x % Pr = p at *
  generalize y % Pr = q at *
  unfold Pr W256 at *
  omega

set_option maxHeartbeats 4000000 in
theorem plus_any (va vb : Value) (x y : Int) (hva : Num va x) (hvb : Num vb y) (w : World) (hP : PrimeAt w) :
    Calls Tryd.prog 37 #[va, vb] w (NumPost (fun z => z = x % Pr + y % Pr) w) := by
  obtain ⟨a0, a1, a2, a3, rfl, ha⟩ := hva
  obtain ⟨b0, b1, b2, b3, rfl, hb⟩ := hvb
  go_enter Tryd.func37, Tryd.ntmps37
  go_wp2_with fail
  have k0 : w.heap.size < w.heap.size + 1 + 1 + 1 := by omega
  have k1 : w.heap.size < w.heap.size + 1 + 1 + 1 + 1 := by omega
  have k2 : w.heap.size + 1 < w.heap.size + 1 + 1 + 1 := by omega
  have k3 : w.heap.size + 1 < w.heap.size + 1 + 1 + 1 + 1 := by omega
  have k4 : w.heap.size + 1 + 1 < w.heap.size + 1 + 1 + 1 + 1 := by omega
  go_region_held3 (fun w' => (w'.cell? ⟨w.heap.size, 0, none⟩ = some (.int .u64 a0) ∧ w'.cell? ⟨w.heap.size, 1, none⟩ = some (.int .u64 a1) ∧ w'.cell? ⟨w.heap.size, 2, none⟩ = some (.int .u64 a2) ∧ w'.cell? ⟨w.heap.size, 3, none⟩ = some (.int .u64 a3)) ∧ (w'.cell? ⟨w.heap.size + 1, 0, none⟩ = some (.int .u64 b0) ∧ w'.cell? ⟨w.heap.size + 1, 1, none⟩ = some (.int .u64 b1) ∧ w'.cell? ⟨w.heap.size + 1, 2, none⟩ = some (.int .u64 b2) ∧ w'.cell? ⟨w.heap.size + 1, 3, none⟩ = some (.int .u64 b3)))
    (first | (with_reducible assumption) | (with_reducible refine two_far4 ?_ ?_ ?_ _ _ _ _; with_reducible assumption; omega; omega) | go_keep | (simp (disch := (first | (simp only [World.size_alloc]; done) | (simp only [World.size_alloc]; omega))) only [World.cell?_alloc_at, World.cell?_alloc_past, World.cell?_drew]; simp))
    (first
    | (go_at_call_of 54 (Value.int IntKind.u64 a0); refine (left_in w _ _ _ ⟨_, _, _, _, rfl, ha⟩ hP (by go_grown)).mono ?_; rintro e wA ⟨c0, c1, c2, c3, z1, rfl, hz1, rfl, hbl⟩; have hs := hbl.size; (try simp only [World.size_alloc, World.size_drew] at hs); have l0 : w.heap.size < wA.heap.size := (by omega); have l1 : w.heap.size + 1 < wA.heap.size := (by omega); have l2 : w.heap.size + 1 + 1 < wA.heap.size := (by omega); have hW : Below w.heap.size w wA := Below.trans (by first | assumption | go_grown) (hbl.mono (by first | omega | (simp only [World.size_alloc, World.size_drew]; done) | (simp only [World.size_alloc, World.size_drew]; omega))); have hS := two_below (by with_reducible assumption) hbl (by first | omega | (simp only [World.size_alloc, World.size_drew]; done) | (simp only [World.size_alloc, World.size_drew]; omega)) (by first | omega | (simp only [World.size_alloc, World.size_drew]; done) | (simp only [World.size_alloc, World.size_drew]; omega)); have hR : Blk wA (w.heap.size + 1 + 1) 0 0 0 0 := Blk.below (by first | (with_reducible assumption) | (with_reducible refine Blk.alloc ?_ _; with_reducible assumption) | (with_reducible refine Blk.drew (Blk.fresh_at _ _ _ _ _ _ _ ?_); simp; done) | (with_reducible refine Blk.drew (Blk.alloc (Blk.fresh_at _ _ _ _ _ _ _ ?_) _); simp; done)) hbl (by first | omega | (simp only [World.size_alloc, World.size_drew]; done) | (simp only [World.size_alloc, World.size_drew]; omega)); (try have hT3 := hT2.below hbl hT2.lt); (try have hT2 := hT.below hbl hT.lt); (first | have hT := Blk.below (Blk.drew (Blk.fresh_at _ 0 0 0 0 _ _ rfl)) hbl (by simp) | have hT := Blk.below (Blk.fresh_at _ 0 0 0 0 _ _ rfl) hbl (by simp) | skip); (try simp only [World.size_alloc] at hT); clear hbl hs)
    | (go_at_call_of 54 (Value.int IntKind.u64 b0); refine (left_in w _ _ _ ⟨_, _, _, _, rfl, hb⟩ hP (by first | assumption | go_grown)).mono ?_; rintro e wB ⟨d0, d1, d2, d3, z2, rfl, hz2, rfl, hbl⟩; have hs := hbl.size; (try simp only [World.size_alloc] at hs); have l0 : w.heap.size < wB.heap.size := (by omega); have l1 : w.heap.size + 1 < wB.heap.size := (by omega); have l2 : w.heap.size + 1 + 1 < wB.heap.size := (by omega); have hW : Below w.heap.size w wB := Below.trans (by first | assumption | go_grown) (hbl.mono (by first | omega | (simp only [World.size_alloc]; done) | (simp only [World.size_alloc]; omega))); have hS := two_below (by with_reducible assumption) hbl (by first | omega | (simp only [World.size_alloc]; done) | (simp only [World.size_alloc]; omega)) (by first | omega | (simp only [World.size_alloc]; done) | (simp only [World.size_alloc]; omega)); have hR : Blk wB (w.heap.size + 1 + 1) 0 0 0 0 := Blk.below (by first | (with_reducible assumption) | (with_reducible refine Blk.alloc ?_ _; with_reducible assumption) | (with_reducible refine Blk.drew (Blk.fresh_at _ _ _ _ _ _ _ ?_); simp; done) | (with_reducible refine Blk.drew (Blk.alloc (Blk.fresh_at _ _ _ _ _ _ _ ?_) _); simp; done)) hbl (by first | omega | (simp only [World.size_alloc]; done) | (simp only [World.size_alloc]; omega)); (try have hT3 := hT2.below hbl hT2.lt); (try have hT2 := hT.below hbl hT.lt); (first | have hT := Blk.below (Blk.drew (Blk.fresh_at _ 0 0 0 0 _ _ rfl)) hbl (by simp) | have hT := Blk.below (Blk.fresh_at _ 0 0 0 0 _ _ rfl) hbl (by simp) | skip); (try simp only [World.size_alloc] at hT); clear hbl hs)
    | (go_at_call 55; refine (sum_any _ _ _ _ ⟨_, _, _, _, rfl, hz1⟩ ⟨_, _, _, _, rfl, hz2⟩ _).mono ?_; rintro e wC ⟨f0, f1, f2, f3, k, z, rfl, hz, hk, ez, hbl⟩; have EZ := Lib.hid (plus_math (is4_range hz) hk ez); clear ez; have hs := hbl.size; (try simp only [World.size_alloc] at hs); have l0 : w.heap.size < wC.heap.size := (by omega); have l1 : w.heap.size + 1 < wC.heap.size := (by omega); have l2 : w.heap.size + 1 + 1 < wC.heap.size := (by omega); have hW : Below w.heap.size w wC := Below.trans (by first | assumption | go_grown) (hbl.mono (by first | omega | (simp only [World.size_alloc]; done) | (simp only [World.size_alloc]; omega))); have hS := two_below (by with_reducible assumption) hbl (by first | omega | (simp only [World.size_alloc]; done) | (simp only [World.size_alloc]; omega)) (by first | omega | (simp only [World.size_alloc]; done) | (simp only [World.size_alloc]; omega)); have hR : Blk wC (w.heap.size + 1 + 1) 0 0 0 0 := Blk.below (by first | (with_reducible assumption) | (with_reducible refine Blk.alloc ?_ _; with_reducible assumption) | (with_reducible refine Blk.drew (Blk.fresh_at _ _ _ _ _ _ _ ?_); simp; done) | (with_reducible refine Blk.drew (Blk.alloc (Blk.fresh_at _ _ _ _ _ _ _ ?_) _); simp; done)) hbl (by first | omega | (simp only [World.size_alloc]; done) | (simp only [World.size_alloc]; omega)); (try have hT3 := hT2.below hbl hT2.lt); (try have hT2 := hT.below hbl hT.lt); (first | have hT := Blk.below (Blk.drew (Blk.fresh_at _ 0 0 0 0 _ _ rfl)) hbl (by simp) | have hT := Blk.below (Blk.fresh_at _ 0 0 0 0 _ _ rfl) hbl (by simp) | skip); (try simp only [World.size_alloc] at hT); clear hbl hs; (try obtain ⟨⟨t0, t1, t2, t3⟩, ⟨u0, u1, u2, u3⟩⟩ := id hT); (try obtain ⟨⟨t0, t1, t2, t3⟩, ⟨u0, u1, u2, u3⟩⟩ := id hT2); (try obtain ⟨⟨t0, t1, t2, t3⟩, ⟨u0, u1, u2, u3⟩⟩ := id hT3)))
  · have hRW := hR.alloc (.cells #[.int .u64 f0, .int .u64 f1, .int .u64 f2, .int .u64 f3] 46)
    have hTW := Blk.fresh wC f0 f1 f2 f3 46
    have hBW := hW.alloc (Nat.le_of_lt l0) (.cells #[.int .u64 f0, .int .u64 f1, .int .u64 f2, .int .u64 f3] 46)
    generalize World.alloc wC _ = W at hRW hTW hBW ⊢
    clear hS hR
    (try clear hT)
    (try clear hT2)
    (try clear hT3)
    obtain ⟨⟨r0, r1, r2, r3⟩, ⟨q0, q1, q2, q3⟩⟩ := id hRW
    obtain ⟨⟨v0, v1, v2, v3⟩, -⟩ := id hTW
    go_wp2_with fail
    refine bodyPost_ret (v := .agg #[.int .u64 f0, .int .u64 f1, .int .u64 f2, .int .u64 f3]) (by simp [results, Tryd.results37, go_sem, r0, r1, r2, r3]) rfl ⟨f0, f1, f2, f3, _, rfl, hz, EZ.out, ?_⟩
    exact below_set4 hBW (by omega) _ _ _ _
  · have hRW := hR.far4 (B := wB.heap.size) (by omega) (.int .u64 f0) (.int .u64 f1) (.int .u64 f2) (.int .u64 f3)
    have hTW := Blk.set4 (B := wB.heap.size) hT f0 f1 f2 f3
    have hBW := below_set4 (B := wB.heap.size) hW (by omega) (.int .u64 f0) (.int .u64 f1) (.int .u64 f2) (.int .u64 f3)
    generalize World.setCell (World.setCell (World.setCell (World.setCell wC _ _) _ _) _ _) _ _ = W at hRW hTW hBW ⊢
    clear hS hR
    (try clear hT)
    (try clear hT2)
    (try clear hT3)
    obtain ⟨⟨r0, r1, r2, r3⟩, ⟨q0, q1, q2, q3⟩⟩ := id hRW
    obtain ⟨⟨v0, v1, v2, v3⟩, -⟩ := id hTW
    go_wp2_with fail
    refine bodyPost_ret (v := .agg #[.int .u64 f0, .int .u64 f1, .int .u64 f2, .int .u64 f3]) (by simp [results, Tryd.results37, go_sem, r0, r1, r2, r3]) rfl ⟨f0, f1, f2, f3, _, rfl, hz, EZ.out, ?_⟩
    exact below_set4 hBW (by omega) _ _ _ _
  · have hRW := hR.far4 (B := wA.heap.size) (by omega) (.int .u64 f0) (.int .u64 f1) (.int .u64 f2) (.int .u64 f3)
    have hTW := Blk.set4 (B := wA.heap.size) hT2 f0 f1 f2 f3
    have hBW := below_set4 (B := wA.heap.size) hW (by omega) (.int .u64 f0) (.int .u64 f1) (.int .u64 f2) (.int .u64 f3)
    generalize World.setCell (World.setCell (World.setCell (World.setCell wC _ _) _ _) _ _) _ _ = W at hRW hTW hBW ⊢
    clear hS hR
    (try clear hT)
    (try clear hT2)
    (try clear hT3)
    obtain ⟨⟨r0, r1, r2, r3⟩, ⟨q0, q1, q2, q3⟩⟩ := id hRW
    obtain ⟨⟨v0, v1, v2, v3⟩, -⟩ := id hTW
    go_wp2_with fail
    refine bodyPost_ret (v := .agg #[.int .u64 f0, .int .u64 f1, .int .u64 f2, .int .u64 f3]) (by simp [results, Tryd.results37, go_sem, r0, r1, r2, r3]) rfl ⟨f0, f1, f2, f3, _, rfl, hz, EZ.out, ?_⟩
    exact below_set4 hBW (by omega) _ _ _ _
  · have hRW := hR.far4 (B := w.heap.size + 1 + 1 + 1) (by omega) (.int .u64 f0) (.int .u64 f1) (.int .u64 f2) (.int .u64 f3)
    have hTW := Blk.set4 (B := w.heap.size + 1 + 1 + 1) hT3 f0 f1 f2 f3
    have hBW := below_set4 (B := w.heap.size + 1 + 1 + 1) hW (by omega) (.int .u64 f0) (.int .u64 f1) (.int .u64 f2) (.int .u64 f3)
    generalize World.setCell (World.setCell (World.setCell (World.setCell wC _ _) _ _) _ _) _ _ = W at hRW hTW hBW ⊢
    clear hS hR
    (try clear hT)
    (try clear hT2)
    (try clear hT3)
    obtain ⟨⟨r0, r1, r2, r3⟩, ⟨q0, q1, q2, q3⟩⟩ := id hRW
    obtain ⟨⟨v0, v1, v2, v3⟩, -⟩ := id hTW
    go_wp2_with fail
    refine bodyPost_ret (v := .agg #[.int .u64 f0, .int .u64 f1, .int .u64 f2, .int .u64 f3]) (by simp [results, Tryd.results37, go_sem, r0, r1, r2, r3]) rfl ⟨f0, f1, f2, f3, _, rfl, hz, EZ.out, ?_⟩
    exact below_set4 hBW (by omega) _ _ _ _
end Go.Proofs.YtccjhlipcgpkmaaDoor
