/- The texts Left, Plus, Minus, Read, one behind the other. -/
import Derived.Test.YthjlhcmdpeinpaaGreatDoorGg4
import Derived.PlainAid
import Derived.Deep.QuietTactic
import Derived.BigQuiet
/- The contracts of package limb: left, plus, minus. -/
namespace Go.Proofs.YthjlhcmdpeinpaaGreatDoor
set_option maxRecDepth 100000
open Go.RowKit
def P0 : Int := 18446744073709551597
def P1 : Int := 18446744073709551615
def P3 : Int := 9223372036854775807
/-- the package's prime lies where it was laid -/
def PrimeAt (w : World) : Prop := w.cell? ⟨2, 0, none⟩ = some (.int .u64 P0) ∧ w.cell? ⟨2, 1, none⟩ = some (.int .u64 P1) ∧ w.cell? ⟨2, 2, none⟩ = some (.int .u64 P1) ∧ w.cell? ⟨2, 3, none⟩ = some (.int .u64 P3)
theorem PrimeAt.lt {w : World} (h : PrimeAt w) : 2 < w.heap.size := World.block_lt_of_cell? w _ h.1
theorem PrimeAt.below {n : Nat} {w w' : World} (h : PrimeAt w) (hb : Below n w w') (hn : 2 < n) : PrimeAt w' := by
  obtain ⟨h0, h1, h2, h3⟩ := h
  refine ⟨?_, ?_, ?_, ?_⟩
  all_goals rw [hb.cell (p := ⟨2, _, none⟩) hn]; assumption
theorem num_prime : Num (.agg #[.int .u64 P0, .int .u64 P1, .int .u64 P1, .int .u64 P3]) Pr :=
  ⟨P0, P1, P1, P3, rfl, by unfold U P0; omega, by unfold U P1; omega, by unfold U P1; omega, by unfold U P3; omega, by unfold val4 P0 P1 P3 Pr; omega⟩

theorem and_low63 (z : Int) (h : U z) : bits .and .u64 z 9223372036854775807 = z % 9223372036854775808 := by
  obtain ⟨A, rfl⟩ := Int.eq_ofNat_of_zero_le h.1
  have hA : A < 18446744073709551616 := by have := h.2; omega
  have e : (9223372036854775807 : Int) = ((9223372036854775807 : Nat) : Int) := rfl
  rw [e, u64_and_nat A _ hA (by omega)]
  have m : A &&& 9223372036854775807 = A % 9223372036854775808 := Nat.and_two_pow_sub_one_eq_mod A 63
  rw [m]; omega

/-- without the highest bit, and it put to it by 19 -/
theorem left_math {a0 a1 a2 a3 x : Int} (h : Is4 a0 a1 a2 a3 x) :
    Is4 a0 a1 a2 (a3 % 9223372036854775808) (val4 a0 a1 a2 (a3 % 9223372036854775808)) ∧ U (19 * (a3 / 9223372036854775808)) ∧
    ∀ z k l b : Int, (0 ≤ z ∧ z < W256) → (0 ≤ k ∧ k ≤ 1) → (0 ≤ l ∧ l < W256) → (0 ≤ b ∧ b ≤ 1) → z + k * W256 = val4 a0 a1 a2 (a3 % 9223372036854775808) + 19 * (a3 / 9223372036854775808) → l - b * W256 = z - Pr → (b = 1 → z = x % Pr) ∧ (b = 0 → l = x % Pr) := by
  obtain ⟨u0, u1, u2, u3, hx⟩ := h
  unfold U at *
  refine ⟨⟨u0, u1, u2, ⟨by omega, by omega⟩, rfl⟩, ⟨by omega, by omega⟩, ?_⟩
  intro z k l b hz hk hl hb e1 e2
  have hk0 : k = 0 := by unfold val4 W256 at *; omega
  subst hk0
  have hzx : x = z + Pr * (a3 / 9223372036854775808) := by unfold val4 Pr at *; omega
  have hz1 : 0 ≤ z ∧ z < Pr + 38 := by unfold val4 Pr W256 at *; omega
  have hp : 100 < Pr ∧ Pr < W256 - 100 := by unfold Pr W256; omega
  constructor
  · intro hb1
    subst hb1
    rw [hzx, Int.add_mul_emod_self_left, Int.emod_eq_of_lt hz1.1 (by unfold W256 at *; omega)]
  · intro hb0
    subst hb0
    have : z = l + Pr * 1 := by omega
    rw [hzx, Int.add_mul_emod_self_left, this, Int.add_mul_emod_self_left, Int.emod_eq_of_lt hl.1 (by omega)]

set_option maxHeartbeats 1000000 in
theorem left_any (va : Value) (x : Int) (hva : Num va x) (w : World) (hP : PrimeAt w) :
    Calls Tryz.prog 195 #[va] w (NumPost (fun z => z = x % Pr) w) := by
  obtain ⟨a0, a1, a2, a3, rfl, ha⟩ := hva
  obtain ⟨l1, l2, l3⟩ := left_math ha
  have hand := and_low63 a3 ha.2.2.2.1
  have w19 : IntKind.u64.wrap (19 * (a3 / 9223372036854775808)) = 19 * (a3 / 9223372036854775808) := by
    rw [IntKind.wrap_u64]; unfold U at l2; omega
  have L3 := Lib.hid l3
  clear l3
  go_enter Tryz.func195, Tryz.ntmps195
  go_wp2_with fail
  refine (sum_any _ _ _ _ ⟨_, _, _, _, rfl, l1⟩ (num_lone _ l2) _).mono ?_
  rintro e w1 ⟨a, b, c, d, k1, z, rfl, hz, hk1, ez, hb1⟩
  have hN : Blk w1 w.heap.size a0 a1 a2 (a3 % 9223372036854775808) := Blk.below ((Blk.fresh_at _ _ _ _ _ _ _ (by simp)).alloc _) hb1 (by simp; omega)
  have hR : Blk w1 (w.heap.size + 1) 0 0 0 0 := Blk.below (Blk.fresh_at _ _ _ _ _ _ _ (by simp)) hb1 (by simp)
  have hb1' : Below w.heap.size w w1 := Below.trans (by go_grown) (hb1.mono (by simp; omega))
  have hP1 := hP.below hb1' hP.lt
  have EZ := Lib.hid ez
  clear ez hb1
  have hP1' : PrimeAt ((((w1.setCell ⟨w.heap.size, 0, none⟩ (.int .u64 a)).setCell ⟨w.heap.size, 1, none⟩ (.int .u64 b)).setCell ⟨w.heap.size, 2, none⟩ (.int .u64 c)).setCell ⟨w.heap.size, 3, none⟩ (.int .u64 d)) :=
    hP1.below (below_set4 (Below.refl w.heap.size w1) (Nat.le_refl _) _ _ _ _) hP.lt
  obtain ⟨⟨x0, x1, x2, x3⟩, ⟨y0, y1, y2, y3⟩⟩ := id hN
  obtain ⟨p0, p1, p2, p3⟩ := id hP1'
  go_wp2_with fail
  refine (diff_any _ _ _ _ ⟨_, _, _, _, rfl, hz⟩ num_prime _).mono ?_
  rintro e w2 ⟨a', b', c', d', k2, l, rfl, hl, hk2, el, hb2⟩
  clear x0 x1 x2 x3 y0 y1 y2 y3 p0 p1 p2 p3
  have hN2 : Blk w2 w.heap.size a b c d := Blk.below (hN.set4 a b c d) hb2 (by rw [size_set4]; exact hN.lt)
  have hR2 : Blk w2 (w.heap.size + 1) 0 0 0 0 := Blk.below (hR.far4 (by omega) _ _ _ _) hb2 (by rw [size_set4]; exact hR.lt)
  have hb2' : Below w.heap.size w w2 := (below_set4 hb1' (Nat.le_refl _) _ _ _ _).trans (hb2.mono (by rw [size_set4]; exact Nat.le_of_lt hN.lt))
  have hfin := L3.out z k1 l k2 (is4_range hz) hk1 (is4_range hl) hk2 EZ.out el
  have HF := Lib.hid hfin
  clear hfin el hb2 hP1 hP1' hN hR hb1'
  obtain ⟨⟨x0, x1, x2, x3⟩, ⟨y0, y1, y2, y3⟩⟩ := id hN2
  have hlt := hN2.lt
  have hlt1 := hR2.lt
  go_wp2_with fail
  have hN3 := hN2.alloc (.cells #[.int .u64 a', .int .u64 b', .int .u64 c', .int .u64 d'] 213)
  have hR3 := hR2.alloc (.cells #[.int .u64 a', .int .u64 b', .int .u64 c', .int .u64 d'] 213)
  have hb3 : Below w.heap.size w (w2.alloc (.cells #[.int .u64 a', .int .u64 b', .int .u64 c', .int .u64 d'] 213)) := hb2'.alloc (by omega) _
  have hcase : k2 = 1 ∨ k2 = 0 := by omega
  rcases hcase with rfl | rfl
  · refine (choose_one _ _ _ _ ⟨_, _, _, _, rfl, hz⟩ ⟨_, _, _, _, rfl, hl⟩ _).mono ?_
    rintro e w4 ⟨r0, r1, r2, r3, q, rfl, hq, rfl, hb4⟩
    have hR4 := hR3.below hb4 hR3.lt
    have hb4' : Below w.heap.size w w4 := hb3.trans (hb4.mono (Nat.le_of_lt hN3.lt))
    clear hb4 hN3 hR3 hb3 x0 x1 x2 x3 y0 y1 y2 y3
    obtain ⟨⟨x0, x1, x2, x3⟩, ⟨y0, y1, y2, y3⟩⟩ := id hR4
    go_wp2_with fail
    refine bodyPost_ret (v := .agg #[.int .u64 r0, .int .u64 r1, .int .u64 r2, .int .u64 r3]) (by simp [results, Tryz.results195, go_sem, x0, x1, x2, x3]) rfl ⟨r0, r1, r2, r3, _, rfl, hq, HF.out.1 trivial, ?_⟩
    exact below_set4 hb4' (by omega) _ _ _ _
  · refine (choose_two _ _ _ _ ⟨_, _, _, _, rfl, hz⟩ ⟨_, _, _, _, rfl, hl⟩ _).mono ?_
    rintro e w4 ⟨r0, r1, r2, r3, q, rfl, hq, rfl, hb4⟩
    have hR4 := hR3.below hb4 hR3.lt
    have hb4' : Below w.heap.size w w4 := hb3.trans (hb4.mono (Nat.le_of_lt hN3.lt))
    clear hb4 hN3 hR3 hb3 x0 x1 x2 x3 y0 y1 y2 y3
    obtain ⟨⟨x0, x1, x2, x3⟩, ⟨y0, y1, y2, y3⟩⟩ := id hR4
    go_wp2_with fail
    refine bodyPost_ret (v := .agg #[.int .u64 r0, .int .u64 r1, .int .u64 r2, .int .u64 r3]) (by simp [results, Tryz.results195, go_sem, x0, x1, x2, x3]) rfl ⟨r0, r1, r2, r3, _, rfl, hq, HF.out.2 trivial, ?_⟩
    exact below_set4 hb4' (by omega) _ _ _ _
end Go.Proofs.YthjlhcmdpeinpaaGreatDoor

/- The contracts of package limb: plus, minus. -/
namespace Go.Proofs.YthjlhcmdpeinpaaGreatDoor
set_option maxRecDepth 100000
open Go.RowKit
theorem left_in (w0 : World) (va : Value) (x : Int) (w : World) (hva : Num va x) (hP : PrimeAt w0) (hb : Below w0.heap.size w0 w) :
    Calls Tryz.prog 195 #[va] w (NumPost (fun z => z = x % Pr) w) := left_any va x hva w (hP.below hb hP.lt)

theorem plus_math {x y z k : Int} (hz : 0 ≤ z ∧ z < W256) (_hk : 0 ≤ k ∧ k ≤ 1) (h : z + k * W256 = x % Pr + y % Pr) : z = x % Pr + y % Pr := by
  have a1 : 0 ≤ x % Pr ∧ x % Pr < Pr := ⟨Int.emod_nonneg _ (by unfold Pr; omega), Int.emod_lt_of_pos _ (by unfold Pr; omega)⟩
  have a2 : 0 ≤ y % Pr ∧ y % Pr < Pr := ⟨Int.emod_nonneg _ (by unfold Pr; omega), Int.emod_lt_of_pos _ (by unfold Pr; omega)⟩
  generalize x % Pr = p at *
  generalize y % Pr = q at *
  unfold Pr W256 at *
  omega

set_option maxHeartbeats 4000000 in
theorem plus_any (va vb : Value) (x y : Int) (hva : Num va x) (hvb : Num vb y) (w : World) (hP : PrimeAt w) :
    Calls Tryz.prog 210 #[va, vb] w (NumPost (fun z => z = x % Pr + y % Pr) w) := by
  obtain ⟨a0, a1, a2, a3, rfl, ha⟩ := hva
  obtain ⟨b0, b1, b2, b3, rfl, hb⟩ := hvb
  go_enter Tryz.func210, Tryz.ntmps210
  go_wp2_with fail
  have k0 : w.heap.size < w.heap.size + 1 + 1 + 1 := by omega
  have k1 : w.heap.size < w.heap.size + 1 + 1 + 1 + 1 := by omega
  have k2 : w.heap.size + 1 < w.heap.size + 1 + 1 + 1 := by omega
  have k3 : w.heap.size + 1 < w.heap.size + 1 + 1 + 1 + 1 := by omega
  have k4 : w.heap.size + 1 + 1 < w.heap.size + 1 + 1 + 1 + 1 := by omega
  go_region_held3 (fun w' => (w'.cell? ⟨w.heap.size, 0, none⟩ = some (.int .u64 a0) ∧ w'.cell? ⟨w.heap.size, 1, none⟩ = some (.int .u64 a1) ∧ w'.cell? ⟨w.heap.size, 2, none⟩ = some (.int .u64 a2) ∧ w'.cell? ⟨w.heap.size, 3, none⟩ = some (.int .u64 a3)) ∧ (w'.cell? ⟨w.heap.size + 1, 0, none⟩ = some (.int .u64 b0) ∧ w'.cell? ⟨w.heap.size + 1, 1, none⟩ = some (.int .u64 b1) ∧ w'.cell? ⟨w.heap.size + 1, 2, none⟩ = some (.int .u64 b2) ∧ w'.cell? ⟨w.heap.size + 1, 3, none⟩ = some (.int .u64 b3)))
    (first | (with_reducible assumption) | (with_reducible refine two_far4 ?_ ?_ ?_ _ _ _ _; with_reducible assumption; omega; omega) | go_keep | (simp (disch := (first | (simp only [World.size_alloc]; done) | (simp only [World.size_alloc]; omega))) only [World.cell?_alloc_at, World.cell?_alloc_past, World.cell?_drew]; simp))
    (first
    | (go_at_call_of 195 (Value.int IntKind.u64 a0); refine (left_in w _ _ _ ⟨_, _, _, _, rfl, ha⟩ hP (by go_grown)).mono ?_; rintro e wA ⟨c0, c1, c2, c3, z1, rfl, hz1, rfl, hbl⟩; have hs := hbl.size; (try simp only [World.size_alloc, World.size_drew] at hs); have l0 : w.heap.size < wA.heap.size := (by omega); have l1 : w.heap.size + 1 < wA.heap.size := (by omega); have l2 : w.heap.size + 1 + 1 < wA.heap.size := (by omega); have hW : Below w.heap.size w wA := Below.trans (by first | assumption | go_grown) (hbl.mono (by first | omega | (simp only [World.size_alloc, World.size_drew]; done) | (simp only [World.size_alloc, World.size_drew]; omega))); have hS := two_below (by with_reducible assumption) hbl (by first | omega | (simp only [World.size_alloc, World.size_drew]; done) | (simp only [World.size_alloc, World.size_drew]; omega)) (by first | omega | (simp only [World.size_alloc, World.size_drew]; done) | (simp only [World.size_alloc, World.size_drew]; omega)); have hR : Blk wA (w.heap.size + 1 + 1) 0 0 0 0 := Blk.below (by first | (with_reducible assumption) | (with_reducible refine Blk.alloc ?_ _; with_reducible assumption) | (with_reducible refine Blk.drew (Blk.fresh_at _ _ _ _ _ _ _ ?_); simp; done) | (with_reducible refine Blk.drew (Blk.alloc (Blk.fresh_at _ _ _ _ _ _ _ ?_) _); simp; done)) hbl (by first | omega | (simp only [World.size_alloc, World.size_drew]; done) | (simp only [World.size_alloc, World.size_drew]; omega)); (try have hT3 := hT2.below hbl hT2.lt); (try have hT2 := hT.below hbl hT.lt); (first | have hT := Blk.below (Blk.drew (Blk.fresh_at _ 0 0 0 0 _ _ rfl)) hbl (by simp) | have hT := Blk.below (Blk.fresh_at _ 0 0 0 0 _ _ rfl) hbl (by simp) | skip); (try simp only [World.size_alloc] at hT); clear hbl hs)
    | (go_at_call_of 195 (Value.int IntKind.u64 b0); refine (left_in w _ _ _ ⟨_, _, _, _, rfl, hb⟩ hP (by first | assumption | go_grown)).mono ?_; rintro e wB ⟨d0, d1, d2, d3, z2, rfl, hz2, rfl, hbl⟩; have hs := hbl.size; (try simp only [World.size_alloc] at hs); have l0 : w.heap.size < wB.heap.size := (by omega); have l1 : w.heap.size + 1 < wB.heap.size := (by omega); have l2 : w.heap.size + 1 + 1 < wB.heap.size := (by omega); have hW : Below w.heap.size w wB := Below.trans (by first | assumption | go_grown) (hbl.mono (by first | omega | (simp only [World.size_alloc]; done) | (simp only [World.size_alloc]; omega))); have hS := two_below (by with_reducible assumption) hbl (by first | omega | (simp only [World.size_alloc]; done) | (simp only [World.size_alloc]; omega)) (by first | omega | (simp only [World.size_alloc]; done) | (simp only [World.size_alloc]; omega)); have hR : Blk wB (w.heap.size + 1 + 1) 0 0 0 0 := Blk.below (by first | (with_reducible assumption) | (with_reducible refine Blk.alloc ?_ _; with_reducible assumption) | (with_reducible refine Blk.drew (Blk.fresh_at _ _ _ _ _ _ _ ?_); simp; done) | (with_reducible refine Blk.drew (Blk.alloc (Blk.fresh_at _ _ _ _ _ _ _ ?_) _); simp; done)) hbl (by first | omega | (simp only [World.size_alloc]; done) | (simp only [World.size_alloc]; omega)); (try have hT3 := hT2.below hbl hT2.lt); (try have hT2 := hT.below hbl hT.lt); (first | have hT := Blk.below (Blk.drew (Blk.fresh_at _ 0 0 0 0 _ _ rfl)) hbl (by simp) | have hT := Blk.below (Blk.fresh_at _ 0 0 0 0 _ _ rfl) hbl (by simp) | skip); (try simp only [World.size_alloc] at hT); clear hbl hs)
    | (go_at_call 214; refine (sum_any _ _ _ _ ⟨_, _, _, _, rfl, hz1⟩ ⟨_, _, _, _, rfl, hz2⟩ _).mono ?_; rintro e wC ⟨f0, f1, f2, f3, k, z, rfl, hz, hk, ez, hbl⟩; have EZ := Lib.hid (plus_math (is4_range hz) hk ez); clear ez; have hs := hbl.size; (try simp only [World.size_alloc] at hs); have l0 : w.heap.size < wC.heap.size := (by omega); have l1 : w.heap.size + 1 < wC.heap.size := (by omega); have l2 : w.heap.size + 1 + 1 < wC.heap.size := (by omega); have hW : Below w.heap.size w wC := Below.trans (by first | assumption | go_grown) (hbl.mono (by first | omega | (simp only [World.size_alloc]; done) | (simp only [World.size_alloc]; omega))); have hS := two_below (by with_reducible assumption) hbl (by first | omega | (simp only [World.size_alloc]; done) | (simp only [World.size_alloc]; omega)) (by first | omega | (simp only [World.size_alloc]; done) | (simp only [World.size_alloc]; omega)); have hR : Blk wC (w.heap.size + 1 + 1) 0 0 0 0 := Blk.below (by first | (with_reducible assumption) | (with_reducible refine Blk.alloc ?_ _; with_reducible assumption) | (with_reducible refine Blk.drew (Blk.fresh_at _ _ _ _ _ _ _ ?_); simp; done) | (with_reducible refine Blk.drew (Blk.alloc (Blk.fresh_at _ _ _ _ _ _ _ ?_) _); simp; done)) hbl (by first | omega | (simp only [World.size_alloc]; done) | (simp only [World.size_alloc]; omega)); (try have hT3 := hT2.below hbl hT2.lt); (try have hT2 := hT.below hbl hT.lt); (first | have hT := Blk.below (Blk.drew (Blk.fresh_at _ 0 0 0 0 _ _ rfl)) hbl (by simp) | have hT := Blk.below (Blk.fresh_at _ 0 0 0 0 _ _ rfl) hbl (by simp) | skip); (try simp only [World.size_alloc] at hT); clear hbl hs; (try obtain ⟨⟨t0, t1, t2, t3⟩, ⟨u0, u1, u2, u3⟩⟩ := id hT); (try obtain ⟨⟨t0, t1, t2, t3⟩, ⟨u0, u1, u2, u3⟩⟩ := id hT2); (try obtain ⟨⟨t0, t1, t2, t3⟩, ⟨u0, u1, u2, u3⟩⟩ := id hT3)))
  · have hRW := hR.alloc (.cells #[.int .u64 f0, .int .u64 f1, .int .u64 f2, .int .u64 f3] 213)
    have hTW := Blk.fresh wC f0 f1 f2 f3 213
    have hBW := hW.alloc (Nat.le_of_lt l0) (.cells #[.int .u64 f0, .int .u64 f1, .int .u64 f2, .int .u64 f3] 213)
    generalize World.alloc wC _ = W at hRW hTW hBW ⊢
    clear hS hR
    (try clear hT)
    (try clear hT2)
    (try clear hT3)
    obtain ⟨⟨r0, r1, r2, r3⟩, ⟨q0, q1, q2, q3⟩⟩ := id hRW
    obtain ⟨⟨v0, v1, v2, v3⟩, -⟩ := id hTW
    go_wp2_with fail
    refine bodyPost_ret (v := .agg #[.int .u64 f0, .int .u64 f1, .int .u64 f2, .int .u64 f3]) (by simp [results, Tryz.results210, go_sem, r0, r1, r2, r3]) rfl ⟨f0, f1, f2, f3, _, rfl, hz, EZ.out, ?_⟩
    exact below_set4 hBW (by omega) _ _ _ _
  · have hRW := hR.far4 (B := wB.heap.size) (by omega) (.int .u64 f0) (.int .u64 f1) (.int .u64 f2) (.int .u64 f3)
    have hTW := Blk.set4 (B := wB.heap.size) hT f0 f1 f2 f3
    have hBW := below_set4 (B := wB.heap.size) hW (by omega) (.int .u64 f0) (.int .u64 f1) (.int .u64 f2) (.int .u64 f3)
    generalize World.setCell (World.setCell (World.setCell (World.setCell wC _ _) _ _) _ _) _ _ = W at hRW hTW hBW ⊢
    clear hS hR
    (try clear hT)
    (try clear hT2)
    (try clear hT3)
    obtain ⟨⟨r0, r1, r2, r3⟩, ⟨q0, q1, q2, q3⟩⟩ := id hRW
    obtain ⟨⟨v0, v1, v2, v3⟩, -⟩ := id hTW
    go_wp2_with fail
    refine bodyPost_ret (v := .agg #[.int .u64 f0, .int .u64 f1, .int .u64 f2, .int .u64 f3]) (by simp [results, Tryz.results210, go_sem, r0, r1, r2, r3]) rfl ⟨f0, f1, f2, f3, _, rfl, hz, EZ.out, ?_⟩
    exact below_set4 hBW (by omega) _ _ _ _
  · have hRW := hR.far4 (B := wA.heap.size) (by omega) (.int .u64 f0) (.int .u64 f1) (.int .u64 f2) (.int .u64 f3)
    have hTW := Blk.set4 (B := wA.heap.size) hT2 f0 f1 f2 f3
    have hBW := below_set4 (B := wA.heap.size) hW (by omega) (.int .u64 f0) (.int .u64 f1) (.int .u64 f2) (.int .u64 f3)
    generalize World.setCell (World.setCell (World.setCell (World.setCell wC _ _) _ _) _ _) _ _ = W at hRW hTW hBW ⊢
    clear hS hR
    (try clear hT)
    (try clear hT2)
    (try clear hT3)
    obtain ⟨⟨r0, r1, r2, r3⟩, ⟨q0, q1, q2, q3⟩⟩ := id hRW
    obtain ⟨⟨v0, v1, v2, v3⟩, -⟩ := id hTW
    go_wp2_with fail
    refine bodyPost_ret (v := .agg #[.int .u64 f0, .int .u64 f1, .int .u64 f2, .int .u64 f3]) (by simp [results, Tryz.results210, go_sem, r0, r1, r2, r3]) rfl ⟨f0, f1, f2, f3, _, rfl, hz, EZ.out, ?_⟩
    exact below_set4 hBW (by omega) _ _ _ _
  · have hRW := hR.far4 (B := w.heap.size + 1 + 1 + 1) (by omega) (.int .u64 f0) (.int .u64 f1) (.int .u64 f2) (.int .u64 f3)
    have hTW := Blk.set4 (B := w.heap.size + 1 + 1 + 1) hT3 f0 f1 f2 f3
    have hBW := below_set4 (B := w.heap.size + 1 + 1 + 1) hW (by omega) (.int .u64 f0) (.int .u64 f1) (.int .u64 f2) (.int .u64 f3)
    generalize World.setCell (World.setCell (World.setCell (World.setCell wC _ _) _ _) _ _) _ _ = W at hRW hTW hBW ⊢
    clear hS hR
    (try clear hT)
    (try clear hT2)
    (try clear hT3)
    obtain ⟨⟨r0, r1, r2, r3⟩, ⟨q0, q1, q2, q3⟩⟩ := id hRW
    obtain ⟨⟨v0, v1, v2, v3⟩, -⟩ := id hTW
    go_wp2_with fail
    refine bodyPost_ret (v := .agg #[.int .u64 f0, .int .u64 f1, .int .u64 f2, .int .u64 f3]) (by simp [results, Tryz.results210, go_sem, r0, r1, r2, r3]) rfl ⟨f0, f1, f2, f3, _, rfl, hz, EZ.out, ?_⟩
    exact below_set4 hBW (by omega) _ _ _ _
end Go.Proofs.YthjlhcmdpeinpaaGreatDoor

/- The contract of package limb's minus. -/
namespace Go.Proofs.YthjlhcmdpeinpaaGreatDoor
set_option maxRecDepth 100000
open Go.RowKit
theorem minus_math {y z k : Int} (hz : 0 ≤ z ∧ z < W256) (_hk : 0 ≤ k ∧ k ≤ 1) (h : z - k * W256 = Pr - y % Pr) : z = Pr - y % Pr := by
  have a2 : 0 ≤ y % Pr ∧ y % Pr < Pr := ⟨Int.emod_nonneg _ (by unfold Pr; omega), Int.emod_lt_of_pos _ (by unfold Pr; omega)⟩
  generalize y % Pr = q at *
  unfold Pr W256 at *
  omega

set_option maxHeartbeats 4000000 in
theorem minus_any (va vb : Value) (x y : Int) (hva : Num va x) (hvb : Num vb y) (w : World) (hP : PrimeAt w) :
    Calls Tryz.prog 211 #[va, vb] w (NumPost (fun z => z = x % Pr + (Pr - y % Pr) % Pr) w) := by
  obtain ⟨a0, a1, a2, a3, rfl, ha⟩ := hva
  obtain ⟨b0, b1, b2, b3, rfl, hb⟩ := hvb
  have hP0 := hP.lt
  have hPa : PrimeAt (((w.alloc (.cells #[.int .u64 a0, .int .u64 a1, .int .u64 a2, .int .u64 a3] 213)).alloc (.cells #[.int .u64 b0, .int .u64 b1, .int .u64 b2, .int .u64 b3] 213)).alloc (.cells #[.int .u64 0, .int .u64 0, .int .u64 0, .int .u64 0] 213)) :=
    hP.below (n := w.heap.size) (by go_grown) hP0
  obtain ⟨g0, g1, g2, g3⟩ := id hPa
  have hB0 : Blk (((w.alloc (.cells #[.int .u64 a0, .int .u64 a1, .int .u64 a2, .int .u64 a3] 213)).alloc (.cells #[.int .u64 b0, .int .u64 b1, .int .u64 b2, .int .u64 b3] 213)).alloc (.cells #[.int .u64 0, .int .u64 0, .int .u64 0, .int .u64 0] 213)) (w.heap.size + 1) b0 b1 b2 b3 :=
    Blk.alloc (Blk.fresh_at _ _ _ _ _ _ _ (by simp)) _
  go_enter Tryz.func211, Tryz.ntmps211
  go_wp2_with fail
  go_region_held3 (fun w' => (w'.cell? ⟨2, 0, none⟩ = some (.int .u64 P0) ∧ w'.cell? ⟨2, 1, none⟩ = some (.int .u64 P1) ∧ w'.cell? ⟨2, 2, none⟩ = some (.int .u64 P1) ∧ w'.cell? ⟨2, 3, none⟩ = some (.int .u64 P3)) ∧ (w'.cell? ⟨w.heap.size + 1, 0, none⟩ = some (.int .u64 b0) ∧ w'.cell? ⟨w.heap.size + 1, 1, none⟩ = some (.int .u64 b1) ∧ w'.cell? ⟨w.heap.size + 1, 2, none⟩ = some (.int .u64 b2) ∧ w'.cell? ⟨w.heap.size + 1, 3, none⟩ = some (.int .u64 b3)))
    (first | (with_reducible assumption) | (with_reducible refine two_far4 ?_ ?_ ?_ _ _ _ _; with_reducible assumption; omega; omega) | exact ⟨⟨g0, g1, g2, g3⟩, hB0.1⟩ | go_keep)
    (first
    | (go_at_call 195; refine (left_in w _ _ _ ⟨_, _, _, _, rfl, hb⟩ hP (by go_grown)).mono ?_; rintro e wA ⟨c0, c1, c2, c3, z1, rfl, hz1, rfl, hbl⟩; have hs := hbl.size; (try simp only [World.size_alloc, World.size_drew] at hs); have l0 : w.heap.size < wA.heap.size := (by omega); have l1 : w.heap.size + 1 < wA.heap.size := (by omega); have l2 : w.heap.size + 1 + 1 < wA.heap.size := (by omega); have hW : Below w.heap.size w wA := Below.trans (by first | assumption | go_grown) (hbl.mono (by first | omega | (simp only [World.size_alloc, World.size_drew]; done) | (simp only [World.size_alloc, World.size_drew]; omega))); have hS := two_below (by with_reducible assumption) hbl (by first | omega | (simp only [World.size_alloc, World.size_drew]; done) | (simp only [World.size_alloc, World.size_drew]; omega)) (by first | omega | (simp only [World.size_alloc, World.size_drew]; done) | (simp only [World.size_alloc, World.size_drew]; omega)); have hR : Blk wA (w.heap.size + 1 + 1) 0 0 0 0 := Blk.below (by first | (with_reducible assumption) | (with_reducible refine Blk.alloc ?_ _; with_reducible assumption) | (with_reducible refine Blk.drew (Blk.fresh_at _ _ _ _ _ _ _ ?_); simp; done) | (with_reducible refine Blk.drew (Blk.alloc (Blk.fresh_at _ _ _ _ _ _ _ ?_) _); simp; done)) hbl (by first | omega | (simp only [World.size_alloc, World.size_drew]; done) | (simp only [World.size_alloc, World.size_drew]; omega)); have hN : Blk wA w.heap.size a0 a1 a2 a3 := Blk.below (by first | (with_reducible assumption) | (with_reducible refine Blk.alloc ?_ _; with_reducible assumption) | (with_reducible refine Blk.drew (Blk.alloc (Blk.alloc (Blk.fresh_at _ _ _ _ _ _ _ ?_) _) _); simp; done) | (with_reducible refine Blk.drew (Blk.alloc (Blk.alloc (Blk.alloc (Blk.fresh_at _ _ _ _ _ _ _ ?_) _) _) _); simp; done)) hbl (by first | omega | (simp only [World.size_alloc, World.size_drew]; done) | (simp only [World.size_alloc, World.size_drew]; omega)); (try have hT2 := hT.below hbl hT.lt); (first | have hT := Blk.below (Blk.drew (Blk.fresh_at _ 0 0 0 0 _ _ rfl)) hbl (by simp) | have hT := Blk.below (Blk.fresh_at _ 0 0 0 0 _ _ rfl) hbl (by simp) | skip); (try simp only [World.size_alloc] at hT); clear hbl hs)
    | (go_at_call 215; refine (diff_any _ _ _ _ num_prime ⟨_, _, _, _, rfl, hz1⟩ _).mono ?_; rintro e wC ⟨f0, f1, f2, f3, k, z, rfl, hz, hk, ez, hbl⟩; have EZ := Lib.hid (minus_math (is4_range hz) hk ez); clear ez; have hs := hbl.size; (try simp only [World.size_alloc] at hs); have l0 : w.heap.size < wC.heap.size := (by omega); have l1 : w.heap.size + 1 < wC.heap.size := (by omega); have l2 : w.heap.size + 1 + 1 < wC.heap.size := (by omega); have hW : Below w.heap.size w wC := Below.trans (by first | assumption | go_grown) (hbl.mono (by first | omega | (simp only [World.size_alloc]; done) | (simp only [World.size_alloc]; omega))); have hS := two_below (by with_reducible assumption) hbl (by first | omega | (simp only [World.size_alloc]; done) | (simp only [World.size_alloc]; omega)) (by first | omega | (simp only [World.size_alloc]; done) | (simp only [World.size_alloc]; omega)); have hR : Blk wC (w.heap.size + 1 + 1) 0 0 0 0 := Blk.below (by first | (with_reducible assumption) | (with_reducible refine Blk.alloc ?_ _; with_reducible assumption) | (with_reducible refine Blk.drew (Blk.fresh_at _ _ _ _ _ _ _ ?_); simp; done) | (with_reducible refine Blk.drew (Blk.alloc (Blk.fresh_at _ _ _ _ _ _ _ ?_) _); simp; done)) hbl (by first | omega | (simp only [World.size_alloc]; done) | (simp only [World.size_alloc]; omega)); have hN : Blk wC w.heap.size a0 a1 a2 a3 := Blk.below (by first | (with_reducible assumption) | (with_reducible refine Blk.alloc ?_ _; with_reducible assumption) | (with_reducible refine Blk.drew (Blk.alloc (Blk.alloc (Blk.fresh_at _ _ _ _ _ _ _ ?_) _) _); simp; done) | (with_reducible refine Blk.drew (Blk.alloc (Blk.alloc (Blk.alloc (Blk.fresh_at _ _ _ _ _ _ _ ?_) _) _) _); simp; done)) hbl (by first | omega | (simp only [World.size_alloc]; done) | (simp only [World.size_alloc]; omega)); (try have hT2 := hT.below hbl hT.lt); (first | have hT := Blk.below (Blk.drew (Blk.fresh_at _ 0 0 0 0 _ _ rfl)) hbl (by simp) | have hT := Blk.below (Blk.fresh_at _ 0 0 0 0 _ _ rfl) hbl (by simp) | skip); (try simp only [World.size_alloc] at hT); clear hbl hs; (try obtain ⟨⟨t0, t1, t2, t3⟩, ⟨u0, u1, u2, u3⟩⟩ := id hT); (try obtain ⟨⟨t0, t1, t2, t3⟩, ⟨u0, u1, u2, u3⟩⟩ := id hT2)))
  · have hRW := hR.alloc (.cells #[.int .u64 f0, .int .u64 f1, .int .u64 f2, .int .u64 f3] 213)
    have hNW := hN.alloc (.cells #[.int .u64 f0, .int .u64 f1, .int .u64 f2, .int .u64 f3] 213)
    have hTW := Blk.fresh wC f0 f1 f2 f3 213
    have hBW := hW.alloc (Nat.le_of_lt l0) (.cells #[.int .u64 f0, .int .u64 f1, .int .u64 f2, .int .u64 f3] 213)
    generalize World.alloc wC _ = W at hRW hNW hTW hBW ⊢
    clear hS hR hN
    (try clear hT)
    (try clear hT2)
    obtain ⟨⟨v0, v1, v2, v3⟩, -⟩ := id hTW
    obtain ⟨⟨n0, n1, n2, n3⟩, -⟩ := id hNW
    go_wp2_with fail
    refine (plus_any _ _ _ _ ⟨_, _, _, _, rfl, ha⟩ ⟨_, _, _, _, rfl, hz⟩ _ (hP.below hBW hP.lt)).mono ?_
    rintro e wD ⟨h0, h1, h2, h3, z3, rfl, hz3, rfl, hbD⟩
    have hRD := hRW.below hbD hRW.lt
    have hBD : Below w.heap.size w wD := hBW.trans (hbD.mono (Nat.le_of_lt hNW.lt))
    clear hRW hNW hTW hBW hbD v0 v1 v2 v3 n0 n1 n2 n3
    obtain ⟨⟨r0, r1, r2, r3⟩, ⟨q0, q1, q2, q3⟩⟩ := id hRD
    go_wp2_with fail
    refine bodyPost_ret (v := .agg #[.int .u64 h0, .int .u64 h1, .int .u64 h2, .int .u64 h3]) (by simp [results, Tryz.results211, go_sem, r0, r1, r2, r3]) rfl ⟨h0, h1, h2, h3, _, rfl, hz3, ?_, ?_⟩
    · rw [EZ.out]
    · exact below_set4 hBD (by omega) _ _ _ _
  · have hRW := hR.far4 (B := wA.heap.size) (by omega) (.int .u64 f0) (.int .u64 f1) (.int .u64 f2) (.int .u64 f3)
    have hNW := hN.far4 (B := wA.heap.size) (by omega) (.int .u64 f0) (.int .u64 f1) (.int .u64 f2) (.int .u64 f3)
    have hTW := Blk.set4 (B := wA.heap.size) hT f0 f1 f2 f3
    have hBW := below_set4 (B := wA.heap.size) hW (by omega) (.int .u64 f0) (.int .u64 f1) (.int .u64 f2) (.int .u64 f3)
    generalize World.setCell (World.setCell (World.setCell (World.setCell wC _ _) _ _) _ _) _ _ = W at hRW hNW hTW hBW ⊢
    clear hS hR hN
    (try clear hT)
    (try clear hT2)
    obtain ⟨⟨v0, v1, v2, v3⟩, -⟩ := id hTW
    obtain ⟨⟨n0, n1, n2, n3⟩, -⟩ := id hNW
    go_wp2_with fail
    refine (plus_any _ _ _ _ ⟨_, _, _, _, rfl, ha⟩ ⟨_, _, _, _, rfl, hz⟩ _ (hP.below hBW hP.lt)).mono ?_
    rintro e wD ⟨h0, h1, h2, h3, z3, rfl, hz3, rfl, hbD⟩
    have hRD := hRW.below hbD hRW.lt
    have hBD : Below w.heap.size w wD := hBW.trans (hbD.mono (Nat.le_of_lt hNW.lt))
    clear hRW hNW hTW hBW hbD v0 v1 v2 v3 n0 n1 n2 n3
    obtain ⟨⟨r0, r1, r2, r3⟩, ⟨q0, q1, q2, q3⟩⟩ := id hRD
    go_wp2_with fail
    refine bodyPost_ret (v := .agg #[.int .u64 h0, .int .u64 h1, .int .u64 h2, .int .u64 h3]) (by simp [results, Tryz.results211, go_sem, r0, r1, r2, r3]) rfl ⟨h0, h1, h2, h3, _, rfl, hz3, ?_, ?_⟩
    · rw [EZ.out]
    · exact below_set4 hBD (by omega) _ _ _ _
  · have hRW := hR.far4 (B := w.heap.size + 1 + 1 + 1) (by omega) (.int .u64 f0) (.int .u64 f1) (.int .u64 f2) (.int .u64 f3)
    have hNW := hN.far4 (B := w.heap.size + 1 + 1 + 1) (by omega) (.int .u64 f0) (.int .u64 f1) (.int .u64 f2) (.int .u64 f3)
    have hTW := Blk.set4 (B := w.heap.size + 1 + 1 + 1) hT2 f0 f1 f2 f3
    have hBW := below_set4 (B := w.heap.size + 1 + 1 + 1) hW (by omega) (.int .u64 f0) (.int .u64 f1) (.int .u64 f2) (.int .u64 f3)
    generalize World.setCell (World.setCell (World.setCell (World.setCell wC _ _) _ _) _ _) _ _ = W at hRW hNW hTW hBW ⊢
    clear hS hR hN
    (try clear hT)
    (try clear hT2)
    obtain ⟨⟨v0, v1, v2, v3⟩, -⟩ := id hTW
    obtain ⟨⟨n0, n1, n2, n3⟩, -⟩ := id hNW
    go_wp2_with fail
    refine (plus_any _ _ _ _ ⟨_, _, _, _, rfl, ha⟩ ⟨_, _, _, _, rfl, hz⟩ _ (hP.below hBW hP.lt)).mono ?_
    rintro e wD ⟨h0, h1, h2, h3, z3, rfl, hz3, rfl, hbD⟩
    have hRD := hRW.below hbD hRW.lt
    have hBD : Below w.heap.size w wD := hBW.trans (hbD.mono (Nat.le_of_lt hNW.lt))
    clear hRW hNW hTW hBW hbD v0 v1 v2 v3 n0 n1 n2 n3
    obtain ⟨⟨r0, r1, r2, r3⟩, ⟨q0, q1, q2, q3⟩⟩ := id hRD
    go_wp2_with fail
    refine bodyPost_ret (v := .agg #[.int .u64 h0, .int .u64 h1, .int .u64 h2, .int .u64 h3]) (by simp [results, Tryz.results211, go_sem, r0, r1, r2, r3]) rfl ⟨h0, h1, h2, h3, _, rfl, hz3, ?_, ?_⟩
    · rw [EZ.out]
    · exact below_set4 hBD (by omega) _ _ _ _
end Go.Proofs.YthjlhcmdpeinpaaGreatDoor

/- The contracts of package limb: wordOf, read. -/
namespace Go.Proofs.YthjlhcmdpeinpaaGreatDoor
set_option maxRecDepth 100000
open Go.RowKit Go.PlainAid
theorem or_join (i : Nat) (x y m : Int) (hm : m = ((2 ^ i : Nat) : Int)) (hx0 : 0 ≤ x) (hx : x < m) (hy0 : 0 ≤ y) (hy : y ≤ 255) (hb : 256 * m ≤ 18446744073709551616) :
    bits .or .u64 x (IntKind.u64.wrap (IntKind.u64.wrap y * m)) = x + y * m := by
  obtain ⟨X, rfl⟩ := Int.eq_ofNat_of_zero_le hx0
  obtain ⟨Y, rfl⟩ := Int.eq_ofNat_of_zero_le hy0
  have e1 : IntKind.u64.wrap (Y : Int) = (Y : Int) := by rw [IntKind.wrap_u64]; omega
  have hYm : (Y : Int) * m ≤ 255 * m := Int.mul_le_mul_of_nonneg_right hy (by omega)
  have hY0 : 0 ≤ (Y : Int) * m := Int.mul_nonneg (by omega) (by omega)
  have e2 : IntKind.u64.wrap ((Y : Int) * m) = (Y : Int) * m := by rw [IntKind.wrap_u64]; omega
  rw [e1, e2]
  subst hm
  have e3 : (Y : Int) * ((2 ^ i : Nat) : Int) = ((Y * 2 ^ i : Nat) : Int) := (Int.natCast_mul _ _).symm
  rw [e3] at hYm hY0 ⊢
  rw [u64_or_nat X (Y * 2 ^ i) (by omega) (by omega), Nat.or_comm, nat_join i (Y * 2 ^ i) X (Nat.mul_mod_left _ _) (by omega)]
  omega

/-- the number that eight bytes tell -/
def word8 (s : ByteArray) : Int := bt s 0 + bt s 1 * 256 + bt s 2 * 65536 + bt s 3 * 16777216 + bt s 4 * 4294967296 + bt s 5 * 1099511627776 + bt s 6 * 281474976710656 + bt s 7 * 72057594037927936

theorem word_math (s : ByteArray) :
    bits .or .u64 (bits .or .u64 (bits .or .u64 (bits .or .u64 (bits .or .u64 (bits .or .u64 (bits .or .u64 (IntKind.u64.wrap (bt s 0)) (IntKind.u64.wrap (IntKind.u64.wrap (bt s 1) * 256)))
      (IntKind.u64.wrap (IntKind.u64.wrap (bt s 2) * 65536))) (IntKind.u64.wrap (IntKind.u64.wrap (bt s 3) * 16777216))) (IntKind.u64.wrap (IntKind.u64.wrap (bt s 4) * 4294967296)))
      (IntKind.u64.wrap (IntKind.u64.wrap (bt s 5) * 1099511627776))) (IntKind.u64.wrap (IntKind.u64.wrap (bt s 6) * 281474976710656))) (IntKind.u64.wrap (IntKind.u64.wrap (bt s 7) * 72057594037927936)) = word8 s := by
  have a0 := bt_nonneg s 0; have a1 := bt_nonneg s 1; have a2 := bt_nonneg s 2; have a3 := bt_nonneg s 3; have a4 := bt_nonneg s 4; have a5 := bt_nonneg s 5; have a6 := bt_nonneg s 6; have a7 := bt_nonneg s 7
  have b0 := bt_le s 0; have b1 := bt_le s 1; have b2 := bt_le s 2; have b3 := bt_le s 3; have b4 := bt_le s 4; have b5 := bt_le s 5; have b6 := bt_le s 6; have b7 := bt_le s 7
  have e : IntKind.u64.wrap (bt s 0) = bt s 0 := by rw [IntKind.wrap_u64]; omega
  unfold word8
  rw [e, or_join 8 (bt s 0) (bt s 1) 256 (by decide) (by omega) (by omega) (by omega) (by omega) (by omega)]
  rw [or_join 16 _ (bt s 2) 65536 (by decide) (by omega) (by omega) (by omega) (by omega) (by omega)]
  rw [or_join 24 _ (bt s 3) 16777216 (by decide) (by omega) (by omega) (by omega) (by omega) (by omega)]
  rw [or_join 32 _ (bt s 4) 4294967296 (by decide) (by omega) (by omega) (by omega) (by omega) (by omega)]
  rw [or_join 40 _ (bt s 5) 1099511627776 (by decide) (by omega) (by omega) (by omega) (by omega) (by omega)]
  rw [or_join 48 _ (bt s 6) 281474976710656 (by decide) (by omega) (by omega) (by omega) (by omega) (by omega)]
  rw [or_join 56 _ (bt s 7) 72057594037927936 (by decide) (by omega) (by omega) (by omega) (by omega) (by omega)]

theorem word8_U (s : ByteArray) : U (word8 s) := by
  have a0 := bt_nonneg s 0; have a1 := bt_nonneg s 1; have a2 := bt_nonneg s 2; have a3 := bt_nonneg s 3; have a4 := bt_nonneg s 4; have a5 := bt_nonneg s 5; have a6 := bt_nonneg s 6; have a7 := bt_nonneg s 7
  have b0 := bt_le s 0; have b1 := bt_le s 1; have b2 := bt_le s 2; have b3 := bt_le s 3; have b4 := bt_le s 4; have b5 := bt_le s 5; have b6 := bt_le s 6; have b7 := bt_le s 7
  unfold U word8; omega

set_option maxHeartbeats 1000000 in
theorem lwordOf_any (s : ByteArray) (hs : s.size = 8) (w : World) :
    Calls Tryz.prog 194 #[.string s] w fun e w' => e = .returned (.int .u64 (word8 s)) ∧ ∃ n, w' = w.drewN n := by
  have hb := get_bt s
  have h0 : (0 : Int) < (s.size : Int) := by omega
  have h1 : (1 : Int) < (s.size : Int) := by omega
  have h2 : (2 : Int) < (s.size : Int) := by omega
  have h3 : (3 : Int) < (s.size : Int) := by omega
  have h4 : (4 : Int) < (s.size : Int) := by omega
  have h5 : (5 : Int) < (s.size : Int) := by omega
  have h6 : (6 : Int) < (s.size : Int) := by omega
  have h7 : (7 : Int) < (s.size : Int) := by omega
  have HS := Lib.hid hs
  clear hs
  go_enter Tryz.func194, Tryz.ntmps194
  go_wp2_with fail
  go_quiet (fail)
  go_wp2_with fail
  go_ret
  refine ⟨?_, _, rfl⟩
  show Ending.returned (Value.int .u64 _) = _
  rw [word_math]

/-- the number that 32 bytes tell, the lowest first -/
def leNum (s : ByteArray) : Int := val4 (word8 (s.extract 0 8)) (word8 (s.extract 8 16)) (word8 (s.extract 16 24)) (word8 (s.extract 24 32))

theorem num_read (s : ByteArray) : Is4 (word8 (s.extract 0 8)) (word8 (s.extract 8 16)) (word8 (s.extract 16 24)) (word8 (s.extract 24 32)) (leNum s) :=
  ⟨word8_U _, word8_U _, word8_U _, word8_U _, rfl⟩

theorem lbelow_drewN {B : Nat} {a w : World} (h : Below B a w) (n : Nat) : Below B a (w.drewN n) := ⟨h.os, h.tape, h.output, h.size, h.block⟩

def ReadPost (s : ByteArray) (w : World) (e : Ending) (w' : World) : Prop :=
  ∃ a b c d, e = .returned (.tuple #[.agg #[.int .u64 a, .int .u64 b, .int .u64 c, .int .u64 d], .int .i64 0]) ∧ Is4 a b c d (leNum s) ∧ Below w.heap.size w w'

set_option maxHeartbeats 1000000 in
theorem read_good (s : ByteArray) (hs : s.size = 32) (w : World) :
    Calls Tryz.prog 166 #[.string s] w (ReadPost s w) := by
  have h1 : ((s.size : Int) != 32) = false := by rw [bne_eq_false_iff_eq]; omega
  have h2 : ((s.size : Int) == 32) = true := by rw [beq_iff_eq]; omega
  have h3 : (s.size : Int) ≥ 24 := by omega
  have h4 : (8 : Int) ≤ (s.size : Int) := by omega
  have h5 : (16 : Int) ≤ (s.size : Int) := by omega
  have h6 : (24 : Int) ≤ (s.size : Int) := by omega
  have h7 : (32 : Int) ≤ (s.size : Int) := by omega
  go_enter Tryz.func166, Tryz.ntmps166
  have e0 : (s.extract 0 8).size = 8 := by simp; omega
  have e1 : (s.extract 8 16).size = 8 := by simp; omega
  have e2 : (s.extract 16 24).size = 8 := by simp; omega
  have e3 : (s.extract 24 32).size = 8 := by simp; omega
  have E0 := Lib.hid e0; have E1 := Lib.hid e1; have E2 := Lib.hid e2; have E3 := Lib.hid e3
  clear e0 e1 e2 e3
  go_wp2_with fail
  go_region_with (go_at_call 194; refine (lwordOf_any _ (by first | exact E0.out | exact E1.out | exact E2.out | exact E3.out) _).mono ?_; rintro e w' ⟨rfl, n, rfl⟩)
  go_wp2
  refine bodyPost_ret (v := .tuple #[.agg #[.int .u64 (word8 (s.extract 0 8)), .int .u64 (word8 (s.extract 8 16)), .int .u64 (word8 (s.extract 16 24)), .int .u64 (word8 (s.extract 24 32))], .int .i64 0]) (by simp [results, Tryz.results166, go_sem]) rfl ⟨_, _, _, _, rfl, num_read s, ?_⟩
  exact below_set4 (lbelow_drewN ((Below.refl _ _).alloc (Nat.le_refl _) _) _) (Nat.le_refl _) _ _ _ _
end Go.Proofs.YthjlhcmdpeinpaaGreatDoor
