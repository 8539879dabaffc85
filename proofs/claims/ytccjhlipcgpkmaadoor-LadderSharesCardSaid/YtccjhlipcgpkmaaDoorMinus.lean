/- The contract of package limb's minus. -/
import Derived.Test.YtccjhlipcgpkmaaDoorPlus
namespace Go.Proofs.YtccjhlipcgpkmaaDoor
open Go.RowKit

theorem minus_math {y z k : Int} (hz : 0 ≤ z ∧ z < W256) (_hk : 0 ≤ k ∧ k ≤ 1) (h : z - k * W256 = Pr - y % Pr) : z = Pr - y % Pr := by
  have a2 : 0 ≤ y % Pr ∧ y % Pr < Pr := ⟨Int.emod_nonneg _ (by unfold Pr; omega), Int.emod_lt_of_pos _ (by unfold Pr; omega)⟩
  generalize y % Pr = q at *
  unfold Pr W256 at *
  omega

set_option maxHeartbeats 4000000 in
theorem minus_any (va vb : Value) (x y : Int) (hva : Num va x) (hvb : Num vb y) (w : World) (hP : PrimeAt w) :
    Calls Tryd.prog 38 #[va, vb] w (NumPost (fun z => z = x % Pr + (Pr - y % Pr) % Pr) w) := by
  obtain ⟨a0, a1, a2, a3, rfl, ha⟩ := hva
  obtain ⟨b0, b1, b2, b3, rfl, hb⟩ := hvb
  have hP0 := hP.lt
  have hPa : PrimeAt (((w.alloc (.cells #[.int .u64 a0, .int .u64 a1, .int .u64 a2, .int .u64 a3] 46)).alloc (.cells #[.int .u64 b0, .int .u64 b1, .int .u64 b2, .int .u64 b3] 46)).alloc (.cells #[.int .u64 0, .int .u64 0, .int .u64 0, .int .u64 0] 46)) :=
    hP.below (n := w.heap.size) (by go_grown) hP0
  obtain ⟨g0, g1, g2, g3⟩ := id hPa
  have hB0 : Blk (((w.alloc (.cells #[.int .u64 a0, .int .u64 a1, .int .u64 a2, .int .u64 a3] 46)).alloc (.cells #[.int .u64 b0, .int .u64 b1, .int .u64 b2, .int .u64 b3] 46)).alloc (.cells #[.int .u64 0, .int .u64 0, .int .u64 0, .int .u64 0] 46)) (w.heap.size + 1) b0 b1 b2 b3 :=
    Blk.alloc (Blk.fresh_at _ _ _ _ _ _ _ (by simp)) _
  go_enter Tryd.func38, Tryd.ntmps38
  go_wp2_with fail
  go_region_held3 (fun w' => (w'.cell? ⟨0, 0, none⟩ = some (.int .u64 P0) ∧ w'.cell? ⟨0, 1, none⟩ = some (.int .u64 P1) ∧ w'.cell? ⟨0, 2, none⟩ = some (.int .u64 P1) ∧ w'.cell? ⟨0, 3, none⟩ = some (.int .u64 P3)) ∧ (w'.cell? ⟨w.heap.size + 1, 0, none⟩ = some (.int .u64 b0) ∧ w'.cell? ⟨w.heap.size + 1, 1, none⟩ = some (.int .u64 b1) ∧ w'.cell? ⟨w.heap.size + 1, 2, none⟩ = some (.int .u64 b2) ∧ w'.cell? ⟨w.heap.size + 1, 3, none⟩ = some (.int .u64 b3)))
    (first | (with_reducible assumption) | (with_reducible refine two_far4 ?_ ?_ ?_ _ _ _ _; with_reducible assumption; omega; omega) | exact ⟨⟨g0, g1, g2, g3⟩, hB0.1⟩ | go_keep)
    (first
    | (go_at_call 54; refine (left_in w _ _ _ ⟨_, _, _, _, rfl, hb⟩ hP (by go_grown)).mono ?_; rintro e wA ⟨c0, c1, c2, c3, z1, rfl, hz1, rfl, hbl⟩; have hs := hbl.size; (try simp only [World.size_alloc, World.size_drew] at hs); have l0 : w.heap.size < wA.heap.size := (by omega); have l1 : w.heap.size + 1 < wA.heap.size := (by omega); have l2 : w.heap.size + 1 + 1 < wA.heap.size := (by omega); have hW : Below w.heap.size w wA := Below.trans (by first | assumption | go_grown) (hbl.mono (by first | omega | (simp only [World.size_alloc, World.size_drew]; done) | (simp only [World.size_alloc, World.size_drew]; omega))); have hS := two_below (by with_reducible assumption) hbl (by first | omega | (simp only [World.size_alloc, World.size_drew]; done) | (simp only [World.size_alloc, World.size_drew]; omega)) (by first | omega | (simp only [World.size_alloc, World.size_drew]; done) | (simp only [World.size_alloc, World.size_drew]; omega)); have hR : Blk wA (w.heap.size + 1 + 1) 0 0 0 0 := Blk.below (by first | (with_reducible assumption) | (with_reducible refine Blk.alloc ?_ _; with_reducible assumption) | (with_reducible refine Blk.drew (Blk.fresh_at _ _ _ _ _ _ _ ?_); simp; done) | (with_reducible refine Blk.drew (Blk.alloc (Blk.fresh_at _ _ _ _ _ _ _ ?_) _); simp; done)) hbl (by first | omega | (simp only [World.size_alloc, World.size_drew]; done) | (simp only [World.size_alloc, World.size_drew]; omega)); have hN : Blk wA w.heap.size a0 a1 a2 a3 := Blk.below (by first | (with_reducible assumption) | (with_reducible refine Blk.alloc ?_ _; with_reducible assumption) | (with_reducible refine Blk.drew (Blk.alloc (Blk.alloc (Blk.fresh_at _ _ _ _ _ _ _ ?_) _) _); simp; done) | (with_reducible refine Blk.drew (Blk.alloc (Blk.alloc (Blk.alloc (Blk.fresh_at _ _ _ _ _ _ _ ?_) _) _) _); simp; done)) hbl (by first | omega | (simp only [World.size_alloc, World.size_drew]; done) | (simp only [World.size_alloc, World.size_drew]; omega)); (try have hT2 := hT.below hbl hT.lt); (first | have hT := Blk.below (Blk.drew (Blk.fresh_at _ 0 0 0 0 _ _ rfl)) hbl (by simp) | have hT := Blk.below (Blk.fresh_at _ 0 0 0 0 _ _ rfl) hbl (by simp) | skip); (try simp only [World.size_alloc] at hT); clear hbl hs)
    | (go_at_call 56; refine (diff_any _ _ _ _ num_prime ⟨_, _, _, _, rfl, hz1⟩ _).mono ?_; rintro e wC ⟨f0, f1, f2, f3, k, z, rfl, hz, hk, ez, hbl⟩; have EZ := Lib.hid (minus_math (is4_range hz) hk ez); clear ez; have hs := hbl.size; (try simp only [World.size_alloc] at hs); have l0 : w.heap.size < wC.heap.size := (by omega); have l1 : w.heap.size + 1 < wC.heap.size := (by omega); have l2 : w.heap.size + 1 + 1 < wC.heap.size := (by omega); have hW : Below w.heap.size w wC := Below.trans (by first | assumption | go_grown) (hbl.mono (by first | omega | (simp only [World.size_alloc]; done) | (simp only [World.size_alloc]; omega))); have hS := two_below (by with_reducible assumption) hbl (by first | omega | (simp only [World.size_alloc]; done) | (simp only [World.size_alloc]; omega)) (by first | omega | (simp only [World.size_alloc]; done) | (simp only [World.size_alloc]; omega)); have hR : Blk wC (w.heap.size + 1 + 1) 0 0 0 0 := Blk.below (by first | (with_reducible assumption) | (with_reducible refine Blk.alloc ?_ _; with_reducible assumption) | (with_reducible refine Blk.drew (Blk.fresh_at _ _ _ _ _ _ _ ?_); simp; done) | (with_reducible refine Blk.drew (Blk.alloc (Blk.fresh_at _ _ _ _ _ _ _ ?_) _); simp; done)) hbl (by first | omega | (simp only [World.size_alloc]; done) | (simp only [World.size_alloc]; omega)); have hN : Blk wC w.heap.size a0 a1 a2 a3 := Blk.below (by first | (with_reducible assumption) | (with_reducible refine Blk.alloc ?_ _; with_reducible assumption) | (with_reducible refine Blk.drew (Blk.alloc (Blk.alloc (Blk.fresh_at _ _ _ _ _ _ _ ?_) _) _); simp; done) | (with_reducible refine Blk.drew (Blk.alloc (Blk.alloc (Blk.alloc (Blk.fresh_at _ _ _ _ _ _ _ ?_) _) _) _); simp; done)) hbl (by first | omega | (simp only [World.size_alloc]; done) | (simp only [World.size_alloc]; omega)); (try have hT2 := hT.below hbl hT.lt); (first | have hT := Blk.below (Blk.drew (Blk.fresh_at _ 0 0 0 0 _ _ rfl)) hbl (by simp) | have hT := Blk.below (Blk.fresh_at _ 0 0 0 0 _ _ rfl) hbl (by simp) | skip); (try simp only [World.size_alloc] at hT); clear hbl hs; (try obtain ⟨⟨t0, t1, t2, t3⟩, ⟨u0, u1, u2, u3⟩⟩ := id hT); (try obtain ⟨⟨t0, t1, t2, t3⟩, ⟨u0, u1, u2, u3⟩⟩ := id hT2)))
  · have hRW := hR.alloc (.cells #[.int .u64 f0, .int .u64 f1, .int .u64 f2, .int .u64 f3] 46)
    have hNW := hN.alloc (.cells #[.int .u64 f0, .int .u64 f1, .int .u64 f2, .int .u64 f3] 46)
    have hTW := Blk.fresh wC f0 f1 f2 f3 46
    have hBW := hW.alloc (Nat.le_of_lt l0) (.cells #[.int .u64 f0, .int .u64 f1, .int .u64 f2, .int .u64 f3] 46)
    generalize World.alloc wC _ = W at hRW hNW hTW hBW ⊢
    clear hS hR hN
    (try clear hT)
    (try clear hT2)
    obtain ⟨⟨v0, v1, v2, v3⟩, -⟩ := id hTW
    obtain ⟨⟨n0, n1, n2, n3⟩, -⟩ := id hNW
    go_wp2_with fail
    refine (plus_any _ _ _ _ ⟨_, _, _, _, rfl, ha⟩ ⟨_, _, _, _, rfl, hz⟩ _ (hP.below hBW hP.lt)).mono ?_
    rintro e wD ⟨h0, h1, h2, h3, z3, rfl, hz3, rfl, hbD⟩
    have hRD := hRW.below hbD hRW.lt
    have hBD : Below w.heap.size w wD := hBW.trans (hbD.mono (Nat.le_of_lt hNW.lt))
    clear hRW hNW hTW hBW hbD v0 v1 v2 v3 n0 n1 n2 n3
    obtain ⟨⟨r0, r1, r2, r3⟩, ⟨q0, q1, q2, q3⟩⟩ := id hRD
    go_wp2_with fail
    refine bodyPost_ret (v := .agg #[.int .u64 h0, .int .u64 h1, .int .u64 h2, .int .u64 h3]) (by simp [results, Tryd.results38, go_sem, r0, r1, r2, r3]) rfl ⟨h0, h1, h2, h3, _, rfl, hz3, ?_, ?_⟩
    · rw [EZ.out]
    · exact below_set4 hBD (by omega) _ _ _ _
  · have hRW := hR.far4 (B := wA.heap.size) (by omega) (.int .u64 f0) (.int .u64 f1) (.int .u64 f2) (.int .u64 f3)
    have hNW := hN.far4 (B := wA.heap.size) (by omega) (.int .u64 f0) (.int .u64 f1) (.int .u64 f2) (.int .u64 f3)
    have hTW := Blk.set4 (B := wA.heap.size) hT f0 f1 f2 f3
    have hBW := below_set4 (B := wA.heap.size) hW (by omega) (.int .u64 f0) (.int .u64 f1) (.int .u64 f2) (.int .u64 f3)
    generalize World.setCell (World.setCell (World.setCell (World.setCell wC _ _) _ _) _ _) _ _ = W at hRW hNW hTW hBW ⊢
    clear hS hR hN
    (try clear hT)
    (try clear hT2)
    obtain ⟨⟨v0, v1, v2, v3⟩, -⟩ := id hTW
    obtain ⟨⟨n0, n1, n2, n3⟩, -⟩ := id hNW
    go_wp2_with fail
    refine (plus_any _ _ _ _ ⟨_, _, _, _, rfl, ha⟩ ⟨_, _, _, _, rfl, hz⟩ _ (hP.below hBW hP.lt)).mono ?_
    rintro e wD ⟨h0, h1, h2, h3, z3, rfl, hz3, rfl, hbD⟩
    have hRD := hRW.below hbD hRW.lt
    have hBD : Below w.heap.size w wD := hBW.trans (hbD.mono (Nat.le_of_lt hNW.lt))
    clear hRW hNW hTW hBW hbD v0 v1 v2 v3 n0 n1 n2 n3
    obtain ⟨⟨r0, r1, r2, r3⟩, ⟨q0, q1, q2, q3⟩⟩ := id hRD
    go_wp2_with fail
    refine bodyPost_ret (v := .agg #[.int .u64 h0, .int .u64 h1, .int .u64 h2, .int .u64 h3]) (by simp [results, Tryd.results38, go_sem, r0, r1, r2, r3]) rfl ⟨h0, h1, h2, h3, _, rfl, hz3, ?_, ?_⟩
    · rw [EZ.out]
    · exact below_set4 hBD (by omega) _ _ _ _
  · have hRW := hR.far4 (B := w.heap.size + 1 + 1 + 1) (by omega) (.int .u64 f0) (.int .u64 f1) (.int .u64 f2) (.int .u64 f3)
    have hNW := hN.far4 (B := w.heap.size + 1 + 1 + 1) (by omega) (.int .u64 f0) (.int .u64 f1) (.int .u64 f2) (.int .u64 f3)
    have hTW := Blk.set4 (B := w.heap.size + 1 + 1 + 1) hT2 f0 f1 f2 f3
    have hBW := below_set4 (B := w.heap.size + 1 + 1 + 1) hW (by omega) (.int .u64 f0) (.int .u64 f1) (.int .u64 f2) (.int .u64 f3)
    generalize World.setCell (World.setCell (World.setCell (World.setCell wC _ _) _ _) _ _) _ _ = W at hRW hNW hTW hBW ⊢
    clear hS hR hN
    (try clear hT)
    (try clear hT2)
    obtain ⟨⟨v0, v1, v2, v3⟩, -⟩ := id hTW
    obtain ⟨⟨n0, n1, n2, n3⟩, -⟩ := id hNW
    go_wp2_with fail
    refine (plus_any _ _ _ _ ⟨_, _, _, _, rfl, ha⟩ ⟨_, _, _, _, rfl, hz⟩ _ (hP.below hBW hP.lt)).mono ?_
    rintro e wD ⟨h0, h1, h2, h3, z3, rfl, hz3, rfl, hbD⟩
    have hRD := hRW.below hbD hRW.lt
    have hBD : Below w.heap.size w wD := hBW.trans (hbD.mono (Nat.le_of_lt hNW.lt))
    clear hRW hNW hTW hBW hbD v0 v1 v2 v3 n0 n1 n2 n3
    obtain ⟨⟨r0, r1, r2, r3⟩, ⟨q0, q1, q2, q3⟩⟩ := id hRD
    go_wp2_with fail
    refine bodyPost_ret (v := .agg #[.int .u64 h0, .int .u64 h1, .int .u64 h2, .int .u64 h3]) (by simp [results, Tryd.results38, go_sem, r0, r1, r2, r3]) rfl ⟨h0, h1, h2, h3, _, rfl, hz3, ?_, ?_⟩
    · rw [EZ.out]
    · exact below_set4 hBD (by omega) _ _ _ _
end Go.Proofs.YtccjhlipcgpkmaaDoor
