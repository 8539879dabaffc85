/- StreamTexts: any stream, and any text xor one, are the reference's, or refused. -/
import Derived.Test.YtchnjjkgaaiclaaJf
import Derived.Test.YtchnjjkgaaiclaaHj
namespace Go.Proofs.Ytchnjjkgaaiclaa
open Go.RowKit
set_option maxRecDepth 100000

theorem below_of_eq {P : Program} {f : FuncId} {args : Array Value} {w : World} {v : Value} (h : Calls P f args w fun e w' => e = .returned v ∧ w = w') : Calls P f args w fun e w' => e = .returned v ∧ Below w.heap.size w w' :=
  h.mono fun _ _ ⟨he, hw⟩ => ⟨he, by subst hw; exact Below.refl _ _⟩

set_option maxHeartbeats 8000000 in
theorem texts_fit_short (key nonce : ByteArray) (i : Int) (text k n : ByteArray) (_hi : -9223372036854775808 ≤ i ∧ i ≤ 9223372036854775807) (hfit : (k.size = 32 ∧ n.size = 12)) (htx : text.size ≤ 4096) (w : World)
    (H1 : Hid (∀ w : World, Calls Try.prog 6 #[.string key] w fun e w' => e = .returned (.string k) ∧ w = w')) (H2 : Hid (∀ w : World, Calls Try.prog 6 #[.string nonce] w fun e w' => e = .returned (.string n) ∧ w = w')) :
    Calls Try.prog 4 #[.string key, .string nonce, .int .i64 i, .string text] w fun e w' => e = .returned (.bool true) ∧ Below w.heap.size w w' := by
  have hmy := may_any k n
  rw [decide_eq_true hfit] at hmy
  have HMY := Lib.hid hmy
  clear hmy
  have hc := cut_min text 200
  obtain ⟨x, ex⟩ : ∃ x, cutS text 200 = x := ⟨_, rfl⟩
  have hx : x.size ≤ 200 := by rw [← ex]; exact cutS_size text 200
  rw [ex] at hc
  have hsl : ∀ W : World, (Instr.slice 9 (.string text) none (some (.int .i64 (min (text.size : Int) 200))) none).run Try.prog W = .ok (.string x) W := by
    have l0 : (0 : Int) ≤ min (text.size : Int) 200 := by omega
    have l1 : min (text.size : Int) 200 ≤ (text.size : Int) := by omega
    intro W
    rw [← hc]
    go_simp
  clear hc ex
  have g3 : (text.size : Int) ≤ 4096 := by omega
  have g4 : ¬ (4096 : Int) < (x.size : Int) := by omega
  have hX := Xor_any k n x hfit.1 hfit.2 (by omega)
  have hX5 := Xor5_any k n x hfit.1 hfit.2 (by omega)
  obtain ⟨y, ey⟩ : ∃ y, strL (xorC (bl k) (bl n) (bl x)) = y := ⟨_, rfl⟩
  rw [ey] at hX hX5
  have HX := Lib.hid hX; have HX5 := Lib.hid hX5
  clear hX hX5 ey hx htx
  have hi : (300 < i ∧ i ≤ 4096) ∨ (0 ≤ i ∧ i ≤ 300) ∨ i < 0 ∨ 4096 < i := by omega
  rcases hi with hi | hi | hi | hi
  · obtain ⟨r, hr, hr2⟩ : ∃ r : Nat, i.tmod 100 = (r : Int) ∧ r < 100 := ⟨(i.tmod 100).toNat, by rw [Int.tmod_eq_emod_of_nonneg (by omega)]; omega, by rw [Int.tmod_eq_emod_of_nonneg (by omega)]; omega⟩
    have w1 : IntKind.i64.wrap (r : Int) = (r : Int) := IntWalk.i64_in _ (by omega)
    have w2 : IntKind.i64.wrap (200 + (r : Int)) = 200 + (r : Int) := IntWalk.i64_in _ (by omega)
    have g1 : (300 : Int) < i := hi.1
    have g2 : i ≤ 4096 := hi.2
    have g5 : (0 : Int) ≤ (200 + (r : Int)) := by omega
    have g6 : (200 + (r : Int)) ≤ (4096 : Int) := by omega
    have hS := Stream_any k n hfit.1 hfit.2 (200 + r) (by omega)
    have hS5 := Stream5_any k n hfit.1 hfit.2 (200 + r) (by omega)
    rw [show ((200 + r : Nat) : Int) = 200 + (r : Int) by omega] at hS hS5
    obtain ⟨s, es⟩ : ∃ s, strL (streamC (bl k) (bl n) (200 + r)) = s := ⟨_, rfl⟩
    rw [es] at hS hS5
    have HS5 := Lib.hid hS5
    clear hS5 es
    have HS := Lib.hid hS
    clear hS hi
    go_enter Try.func4, Try.ntmps4
    go_wp2_with fail
    refine (H1.out _).mono ?_
    rintro e w1 ⟨rfl, rfl⟩
    go_wp2_with fail
    refine (H2.out _).mono ?_
    rintro e w1 ⟨rfl, rfl⟩
    have B0 := Below.refl w.heap.size w
    go_wp2_with fail
    refine (HS.out _).mono ?_
    rintro e v1 ⟨rfl, c1⟩
    have B1 := B0.trans (c1.mono B0.size)
    clear B0 c1
    go_wp2_with fail
    refine (HX.out _).mono ?_
    rintro e v2 ⟨rfl, c2⟩
    have B2 := B1.trans (c2.mono B1.size)
    clear B1 c2
    go_wp2_with fail
    refine (HMY.out _).mono ?_
    rintro e wm ⟨rfl, rfl⟩
    go_wp2_with fail
    refine (HS5.out _).mono ?_
    rintro e v3 ⟨rfl, c3⟩
    have B3 := B2.trans (c3.mono B2.size)
    clear B2 c3
    go_wp2_with fail
    refine (alive5_any _).mono ?_
    rintro e v4 ⟨rfl, c4⟩
    have B4 := B3.trans (c4.mono B3.size)
    clear B3 c4
    go_wp2_with fail
    refine (HMY.out _).mono ?_
    rintro e wm ⟨rfl, rfl⟩
    go_wp2_with fail
    refine (HX5.out _).mono ?_
    rintro e v5 ⟨rfl, c5⟩
    have B5 := B4.trans (c5.mono B4.size)
    clear B4 c5
    go_wp2_with fail
    go_ret
    exact ⟨rfl, B5⟩
  · obtain ⟨r, rfl⟩ : ∃ r : Nat, i = (r : Int) := ⟨i.toNat, by omega⟩
    have g1 : ¬ (300 : Int) < (r : Int) := by omega
    have g5 : (0 : Int) ≤ (r : Int) := by omega
    have g6 : (r : Int) ≤ (4096 : Int) := by omega
    have hS := Stream_any k n hfit.1 hfit.2 r (by omega)
    have hS5 := Stream5_any k n hfit.1 hfit.2 r (by omega)
    obtain ⟨s, es⟩ : ∃ s, strL (streamC (bl k) (bl n) r) = s := ⟨_, rfl⟩
    rw [es] at hS hS5
    have HS5 := Lib.hid hS5
    clear hS5 es
    have HS := Lib.hid hS
    clear hS hi
    go_enter Try.func4, Try.ntmps4
    go_wp2_with fail
    refine (H1.out _).mono ?_
    rintro e w1 ⟨rfl, rfl⟩
    go_wp2_with fail
    refine (H2.out _).mono ?_
    rintro e w1 ⟨rfl, rfl⟩
    have B0 := Below.refl w.heap.size w
    go_wp2_with fail
    refine (HS.out _).mono ?_
    rintro e v1 ⟨rfl, c1⟩
    have B1 := B0.trans (c1.mono B0.size)
    clear B0 c1
    go_wp2_with fail
    refine (HX.out _).mono ?_
    rintro e v2 ⟨rfl, c2⟩
    have B2 := B1.trans (c2.mono B1.size)
    clear B1 c2
    go_wp2_with fail
    refine (HMY.out _).mono ?_
    rintro e wm ⟨rfl, rfl⟩
    go_wp2_with fail
    refine (HS5.out _).mono ?_
    rintro e v3 ⟨rfl, c3⟩
    have B3 := B2.trans (c3.mono B2.size)
    clear B2 c3
    go_wp2_with fail
    refine (alive5_any _).mono ?_
    rintro e v4 ⟨rfl, c4⟩
    have B4 := B3.trans (c4.mono B3.size)
    clear B3 c4
    go_wp2_with fail
    refine (HMY.out _).mono ?_
    rintro e wm ⟨rfl, rfl⟩
    go_wp2_with fail
    refine (HX5.out _).mono ?_
    rintro e v5 ⟨rfl, c5⟩
    have B5 := B4.trans (c5.mono B4.size)
    clear B4 c5
    go_wp2_with fail
    go_ret
    exact ⟨rfl, B5⟩
  · have g1 : ¬ (300 : Int) < i := by omega
    have g5 : ¬ (0 : Int) ≤ i := by omega
    have hS := fun W => below_of_eq (Stream_bad k n i (fun h => by omega) W)
    have HS := Lib.hid hS
    clear hS hi
    go_enter Try.func4, Try.ntmps4
    go_wp2_with fail
    refine (H1.out _).mono ?_
    rintro e w1 ⟨rfl, rfl⟩
    go_wp2_with fail
    refine (H2.out _).mono ?_
    rintro e w1 ⟨rfl, rfl⟩
    have B0 := Below.refl w.heap.size w
    go_wp2_with fail
    refine (HS.out _).mono ?_
    rintro e v1 ⟨rfl, c1⟩
    have B1 := B0.trans (c1.mono B0.size)
    clear B0 c1
    go_wp2_with fail
    refine (HX.out _).mono ?_
    rintro e v2 ⟨rfl, c2⟩
    have B2 := B1.trans (c2.mono B1.size)
    clear B1 c2
    go_wp2_with fail
    refine (HMY.out _).mono ?_
    rintro e wm ⟨rfl, rfl⟩
    go_wp2_with fail
    refine (alive5_any _).mono ?_
    rintro e v3 ⟨rfl, c3⟩
    have B3 := B2.trans (c3.mono B2.size)
    clear B2 c3
    go_wp2_with fail
    refine (HMY.out _).mono ?_
    rintro e wm ⟨rfl, rfl⟩
    go_wp2_with fail
    refine (HX5.out _).mono ?_
    rintro e v4 ⟨rfl, c4⟩
    have B4 := B3.trans (c4.mono B3.size)
    clear B3 c4
    go_wp2_with fail
    go_ret
    exact ⟨rfl, B4⟩
  · have g1 : (300 : Int) < i := by omega
    have g2 : ¬ i ≤ 4096 := by omega
    have g5 : (0 : Int) ≤ i := by omega
    have hS := fun W => below_of_eq (Stream_bad k n i (fun h => by omega) W)
    have HS := Lib.hid hS
    clear hS hi
    go_enter Try.func4, Try.ntmps4
    go_wp2_with fail
    refine (H1.out _).mono ?_
    rintro e w1 ⟨rfl, rfl⟩
    go_wp2_with fail
    refine (H2.out _).mono ?_
    rintro e w1 ⟨rfl, rfl⟩
    have B0 := Below.refl w.heap.size w
    go_wp2_with fail
    refine (HS.out _).mono ?_
    rintro e v1 ⟨rfl, c1⟩
    have B1 := B0.trans (c1.mono B0.size)
    clear B0 c1
    go_wp2_with fail
    refine (HX.out _).mono ?_
    rintro e v2 ⟨rfl, c2⟩
    have B2 := B1.trans (c2.mono B1.size)
    clear B1 c2
    go_wp2_with fail
    refine (HMY.out _).mono ?_
    rintro e wm ⟨rfl, rfl⟩
    go_wp2_with fail
    refine (alive5_any _).mono ?_
    rintro e v3 ⟨rfl, c3⟩
    have B3 := B2.trans (c3.mono B2.size)
    clear B2 c3
    go_wp2_with fail
    refine (HMY.out _).mono ?_
    rintro e wm ⟨rfl, rfl⟩
    go_wp2_with fail
    refine (HX5.out _).mono ?_
    rintro e v4 ⟨rfl, c4⟩
    have B4 := B3.trans (c4.mono B3.size)
    clear B3 c4
    go_wp2_with fail
    go_ret
    exact ⟨rfl, B4⟩

set_option maxHeartbeats 8000000 in
theorem texts_fit_long (key nonce : ByteArray) (i : Int) (text k n : ByteArray) (_hi : -9223372036854775808 ≤ i ∧ i ≤ 9223372036854775807) (hfit : (k.size = 32 ∧ n.size = 12)) (htx : 4096 < text.size) (w : World)
    (H1 : Hid (∀ w : World, Calls Try.prog 6 #[.string key] w fun e w' => e = .returned (.string k) ∧ w = w')) (H2 : Hid (∀ w : World, Calls Try.prog 6 #[.string nonce] w fun e w' => e = .returned (.string n) ∧ w = w')) :
    Calls Try.prog 4 #[.string key, .string nonce, .int .i64 i, .string text] w fun e w' => e = .returned (.bool true) ∧ Below w.heap.size w w' := by
  have hmy := may_any k n
  rw [decide_eq_true hfit] at hmy
  have HMY := Lib.hid hmy
  clear hmy
  have g3 : ¬ (text.size : Int) ≤ 4096 := by omega
  have g4 : (4096 : Int) < (text.size : Int) := by omega
  have hX := fun W => below_of_eq (Xor_bad k n text (fun h => by omega) W)
  have HX := Lib.hid hX
  clear hX htx
  have hi : (300 < i ∧ i ≤ 4096) ∨ (0 ≤ i ∧ i ≤ 300) ∨ i < 0 ∨ 4096 < i := by omega
  rcases hi with hi | hi | hi | hi
  · obtain ⟨r, hr, hr2⟩ : ∃ r : Nat, i.tmod 100 = (r : Int) ∧ r < 100 := ⟨(i.tmod 100).toNat, by rw [Int.tmod_eq_emod_of_nonneg (by omega)]; omega, by rw [Int.tmod_eq_emod_of_nonneg (by omega)]; omega⟩
    have w1 : IntKind.i64.wrap (r : Int) = (r : Int) := IntWalk.i64_in _ (by omega)
    have w2 : IntKind.i64.wrap (200 + (r : Int)) = 200 + (r : Int) := IntWalk.i64_in _ (by omega)
    have g1 : (300 : Int) < i := hi.1
    have g2 : i ≤ 4096 := hi.2
    have g5 : (0 : Int) ≤ (200 + (r : Int)) := by omega
    have g6 : (200 + (r : Int)) ≤ (4096 : Int) := by omega
    have hS := Stream_any k n hfit.1 hfit.2 (200 + r) (by omega)
    have hS5 := Stream5_any k n hfit.1 hfit.2 (200 + r) (by omega)
    rw [show ((200 + r : Nat) : Int) = 200 + (r : Int) by omega] at hS hS5
    obtain ⟨s, es⟩ : ∃ s, strL (streamC (bl k) (bl n) (200 + r)) = s := ⟨_, rfl⟩
    rw [es] at hS hS5
    have HS5 := Lib.hid hS5
    clear hS5 es
    have HS := Lib.hid hS
    clear hS hi
    go_enter Try.func4, Try.ntmps4
    go_wp2_with fail
    refine (H1.out _).mono ?_
    rintro e w1 ⟨rfl, rfl⟩
    go_wp2_with fail
    refine (H2.out _).mono ?_
    rintro e w1 ⟨rfl, rfl⟩
    have B0 := Below.refl w.heap.size w
    go_wp2_with fail
    refine (HS.out _).mono ?_
    rintro e v1 ⟨rfl, c1⟩
    have B1 := B0.trans (c1.mono B0.size)
    clear B0 c1
    go_wp2_with fail
    refine (HX.out _).mono ?_
    rintro e v2 ⟨rfl, c2⟩
    have B2 := B1.trans (c2.mono B1.size)
    clear B1 c2
    go_wp2_with fail
    refine (HMY.out _).mono ?_
    rintro e wm ⟨rfl, rfl⟩
    go_wp2_with fail
    refine (HS5.out _).mono ?_
    rintro e v3 ⟨rfl, c3⟩
    have B3 := B2.trans (c3.mono B2.size)
    clear B2 c3
    go_wp2_with fail
    refine (alive5_any _).mono ?_
    rintro e v4 ⟨rfl, c4⟩
    have B4 := B3.trans (c4.mono B3.size)
    clear B3 c4
    go_wp2_with fail
    refine (HMY.out _).mono ?_
    rintro e wm ⟨rfl, rfl⟩
    go_wp2_with fail
    go_ret
    exact ⟨rfl, B4⟩
  · obtain ⟨r, rfl⟩ : ∃ r : Nat, i = (r : Int) := ⟨i.toNat, by omega⟩
    have g1 : ¬ (300 : Int) < (r : Int) := by omega
    have g5 : (0 : Int) ≤ (r : Int) := by omega
    have g6 : (r : Int) ≤ (4096 : Int) := by omega
    have hS := Stream_any k n hfit.1 hfit.2 r (by omega)
    have hS5 := Stream5_any k n hfit.1 hfit.2 r (by omega)
    obtain ⟨s, es⟩ : ∃ s, strL (streamC (bl k) (bl n) r) = s := ⟨_, rfl⟩
    rw [es] at hS hS5
    have HS5 := Lib.hid hS5
    clear hS5 es
    have HS := Lib.hid hS
    clear hS hi
    go_enter Try.func4, Try.ntmps4
    go_wp2_with fail
    refine (H1.out _).mono ?_
    rintro e w1 ⟨rfl, rfl⟩
    go_wp2_with fail
    refine (H2.out _).mono ?_
    rintro e w1 ⟨rfl, rfl⟩
    have B0 := Below.refl w.heap.size w
    go_wp2_with fail
    refine (HS.out _).mono ?_
    rintro e v1 ⟨rfl, c1⟩
    have B1 := B0.trans (c1.mono B0.size)
    clear B0 c1
    go_wp2_with fail
    refine (HX.out _).mono ?_
    rintro e v2 ⟨rfl, c2⟩
    have B2 := B1.trans (c2.mono B1.size)
    clear B1 c2
    go_wp2_with fail
    refine (HMY.out _).mono ?_
    rintro e wm ⟨rfl, rfl⟩
    go_wp2_with fail
    refine (HS5.out _).mono ?_
    rintro e v3 ⟨rfl, c3⟩
    have B3 := B2.trans (c3.mono B2.size)
    clear B2 c3
    go_wp2_with fail
    refine (alive5_any _).mono ?_
    rintro e v4 ⟨rfl, c4⟩
    have B4 := B3.trans (c4.mono B3.size)
    clear B3 c4
    go_wp2_with fail
    refine (HMY.out _).mono ?_
    rintro e wm ⟨rfl, rfl⟩
    go_wp2_with fail
    go_ret
    exact ⟨rfl, B4⟩
  · have g1 : ¬ (300 : Int) < i := by omega
    have g5 : ¬ (0 : Int) ≤ i := by omega
    have hS := fun W => below_of_eq (Stream_bad k n i (fun h => by omega) W)
    have HS := Lib.hid hS
    clear hS hi
    go_enter Try.func4, Try.ntmps4
    go_wp2_with fail
    refine (H1.out _).mono ?_
    rintro e w1 ⟨rfl, rfl⟩
    go_wp2_with fail
    refine (H2.out _).mono ?_
    rintro e w1 ⟨rfl, rfl⟩
    have B0 := Below.refl w.heap.size w
    go_wp2_with fail
    refine (HS.out _).mono ?_
    rintro e v1 ⟨rfl, c1⟩
    have B1 := B0.trans (c1.mono B0.size)
    clear B0 c1
    go_wp2_with fail
    refine (HX.out _).mono ?_
    rintro e v2 ⟨rfl, c2⟩
    have B2 := B1.trans (c2.mono B1.size)
    clear B1 c2
    go_wp2_with fail
    refine (HMY.out _).mono ?_
    rintro e wm ⟨rfl, rfl⟩
    go_wp2_with fail
    refine (alive5_any _).mono ?_
    rintro e v3 ⟨rfl, c3⟩
    have B3 := B2.trans (c3.mono B2.size)
    clear B2 c3
    go_wp2_with fail
    refine (HMY.out _).mono ?_
    rintro e wm ⟨rfl, rfl⟩
    go_wp2_with fail
    go_ret
    exact ⟨rfl, B3⟩
  · have g1 : (300 : Int) < i := by omega
    have g2 : ¬ i ≤ 4096 := by omega
    have g5 : (0 : Int) ≤ i := by omega
    have hS := fun W => below_of_eq (Stream_bad k n i (fun h => by omega) W)
    have HS := Lib.hid hS
    clear hS hi
    go_enter Try.func4, Try.ntmps4
    go_wp2_with fail
    refine (H1.out _).mono ?_
    rintro e w1 ⟨rfl, rfl⟩
    go_wp2_with fail
    refine (H2.out _).mono ?_
    rintro e w1 ⟨rfl, rfl⟩
    have B0 := Below.refl w.heap.size w
    go_wp2_with fail
    refine (HS.out _).mono ?_
    rintro e v1 ⟨rfl, c1⟩
    have B1 := B0.trans (c1.mono B0.size)
    clear B0 c1
    go_wp2_with fail
    refine (HX.out _).mono ?_
    rintro e v2 ⟨rfl, c2⟩
    have B2 := B1.trans (c2.mono B1.size)
    clear B1 c2
    go_wp2_with fail
    refine (HMY.out _).mono ?_
    rintro e wm ⟨rfl, rfl⟩
    go_wp2_with fail
    refine (alive5_any _).mono ?_
    rintro e v3 ⟨rfl, c3⟩
    have B3 := B2.trans (c3.mono B2.size)
    clear B2 c3
    go_wp2_with fail
    refine (HMY.out _).mono ?_
    rintro e wm ⟨rfl, rfl⟩
    go_wp2_with fail
    go_ret
    exact ⟨rfl, B3⟩

set_option maxHeartbeats 8000000 in
theorem texts_not_short (key nonce : ByteArray) (i : Int) (text k n : ByteArray) (_hi : -9223372036854775808 ≤ i ∧ i ≤ 9223372036854775807) (hfit : ¬ (k.size = 32 ∧ n.size = 12)) (htx : text.size ≤ 4096) (w : World)
    (H1 : Hid (∀ w : World, Calls Try.prog 6 #[.string key] w fun e w' => e = .returned (.string k) ∧ w = w')) (H2 : Hid (∀ w : World, Calls Try.prog 6 #[.string nonce] w fun e w' => e = .returned (.string n) ∧ w = w')) :
    Calls Try.prog 4 #[.string key, .string nonce, .int .i64 i, .string text] w fun e w' => e = .returned (.bool true) ∧ Below w.heap.size w w' := by
  have hmy := may_any k n
  rw [decide_eq_false hfit] at hmy
  have HMY := Lib.hid hmy
  clear hmy
  have hc := cut_min text 200
  obtain ⟨x, ex⟩ : ∃ x, cutS text 200 = x := ⟨_, rfl⟩
  have hx : x.size ≤ 200 := by rw [← ex]; exact cutS_size text 200
  rw [ex] at hc
  have hsl : ∀ W : World, (Instr.slice 9 (.string text) none (some (.int .i64 (min (text.size : Int) 200))) none).run Try.prog W = .ok (.string x) W := by
    have l0 : (0 : Int) ≤ min (text.size : Int) 200 := by omega
    have l1 : min (text.size : Int) 200 ≤ (text.size : Int) := by omega
    intro W
    rw [← hc]
    go_simp
  clear hc ex
  have g3 : (text.size : Int) ≤ 4096 := by omega
  have g4 : ¬ (4096 : Int) < (x.size : Int) := by omega
  have hX := fun W => below_of_eq (Xor_bad k n x (fun h => hfit ⟨h.1, h.2.1⟩) W)
  have HX := Lib.hid hX
  clear hX hx htx
  have hi : (300 < i ∧ i ≤ 4096) ∨ (0 ≤ i ∧ i ≤ 300) ∨ i < 0 ∨ 4096 < i := by omega
  rcases hi with hi | hi | hi | hi
  · obtain ⟨r, hr, hr2⟩ : ∃ r : Nat, i.tmod 100 = (r : Int) ∧ r < 100 := ⟨(i.tmod 100).toNat, by rw [Int.tmod_eq_emod_of_nonneg (by omega)]; omega, by rw [Int.tmod_eq_emod_of_nonneg (by omega)]; omega⟩
    have w1 : IntKind.i64.wrap (r : Int) = (r : Int) := IntWalk.i64_in _ (by omega)
    have w2 : IntKind.i64.wrap (200 + (r : Int)) = 200 + (r : Int) := IntWalk.i64_in _ (by omega)
    have g1 : (300 : Int) < i := hi.1
    have g2 : i ≤ 4096 := hi.2
    have g5 : (0 : Int) ≤ (200 + (r : Int)) := by omega
    have g6 : (200 + (r : Int)) ≤ (4096 : Int) := by omega
    have hS := fun W => below_of_eq (Stream_bad k n (200 + (r : Int)) (fun h => hfit ⟨h.1, h.2.1⟩) W)
    have HS := Lib.hid hS
    clear hS hi
    go_enter Try.func4, Try.ntmps4
    go_wp2_with fail
    refine (H1.out _).mono ?_
    rintro e w1 ⟨rfl, rfl⟩
    go_wp2_with fail
    refine (H2.out _).mono ?_
    rintro e w1 ⟨rfl, rfl⟩
    have B0 := Below.refl w.heap.size w
    go_wp2_with fail
    refine (HS.out _).mono ?_
    rintro e v1 ⟨rfl, c1⟩
    have B1 := B0.trans (c1.mono B0.size)
    clear B0 c1
    go_wp2_with fail
    refine (HX.out _).mono ?_
    rintro e v2 ⟨rfl, c2⟩
    have B2 := B1.trans (c2.mono B1.size)
    clear B1 c2
    go_wp2_with fail
    refine (HMY.out _).mono ?_
    rintro e wm ⟨rfl, rfl⟩
    go_wp2_with fail
    refine (alive5_any _).mono ?_
    rintro e v3 ⟨rfl, c3⟩
    have B3 := B2.trans (c3.mono B2.size)
    clear B2 c3
    go_wp2_with fail
    refine (HMY.out _).mono ?_
    rintro e wm ⟨rfl, rfl⟩
    go_wp2_with fail
    go_ret
    exact ⟨rfl, B3⟩
  · obtain ⟨r, rfl⟩ : ∃ r : Nat, i = (r : Int) := ⟨i.toNat, by omega⟩
    have g1 : ¬ (300 : Int) < (r : Int) := by omega
    have g5 : (0 : Int) ≤ (r : Int) := by omega
    have g6 : (r : Int) ≤ (4096 : Int) := by omega
    have hS := fun W => below_of_eq (Stream_bad k n (r : Int) (fun h => hfit ⟨h.1, h.2.1⟩) W)
    have HS := Lib.hid hS
    clear hS hi
    go_enter Try.func4, Try.ntmps4
    go_wp2_with fail
    refine (H1.out _).mono ?_
    rintro e w1 ⟨rfl, rfl⟩
    go_wp2_with fail
    refine (H2.out _).mono ?_
    rintro e w1 ⟨rfl, rfl⟩
    have B0 := Below.refl w.heap.size w
    go_wp2_with fail
    refine (HS.out _).mono ?_
    rintro e v1 ⟨rfl, c1⟩
    have B1 := B0.trans (c1.mono B0.size)
    clear B0 c1
    go_wp2_with fail
    refine (HX.out _).mono ?_
    rintro e v2 ⟨rfl, c2⟩
    have B2 := B1.trans (c2.mono B1.size)
    clear B1 c2
    go_wp2_with fail
    refine (HMY.out _).mono ?_
    rintro e wm ⟨rfl, rfl⟩
    go_wp2_with fail
    refine (alive5_any _).mono ?_
    rintro e v3 ⟨rfl, c3⟩
    have B3 := B2.trans (c3.mono B2.size)
    clear B2 c3
    go_wp2_with fail
    refine (HMY.out _).mono ?_
    rintro e wm ⟨rfl, rfl⟩
    go_wp2_with fail
    go_ret
    exact ⟨rfl, B3⟩
  · have g1 : ¬ (300 : Int) < i := by omega
    have g5 : ¬ (0 : Int) ≤ i := by omega
    have hS := fun W => below_of_eq (Stream_bad k n i (fun h => hfit ⟨h.1, h.2.1⟩) W)
    have HS := Lib.hid hS
    clear hS hi
    go_enter Try.func4, Try.ntmps4
    go_wp2_with fail
    refine (H1.out _).mono ?_
    rintro e w1 ⟨rfl, rfl⟩
    go_wp2_with fail
    refine (H2.out _).mono ?_
    rintro e w1 ⟨rfl, rfl⟩
    have B0 := Below.refl w.heap.size w
    go_wp2_with fail
    refine (HS.out _).mono ?_
    rintro e v1 ⟨rfl, c1⟩
    have B1 := B0.trans (c1.mono B0.size)
    clear B0 c1
    go_wp2_with fail
    refine (HX.out _).mono ?_
    rintro e v2 ⟨rfl, c2⟩
    have B2 := B1.trans (c2.mono B1.size)
    clear B1 c2
    go_wp2_with fail
    refine (HMY.out _).mono ?_
    rintro e wm ⟨rfl, rfl⟩
    go_wp2_with fail
    refine (alive5_any _).mono ?_
    rintro e v3 ⟨rfl, c3⟩
    have B3 := B2.trans (c3.mono B2.size)
    clear B2 c3
    go_wp2_with fail
    refine (HMY.out _).mono ?_
    rintro e wm ⟨rfl, rfl⟩
    go_wp2_with fail
    go_ret
    exact ⟨rfl, B3⟩
  · have g1 : (300 : Int) < i := by omega
    have g2 : ¬ i ≤ 4096 := by omega
    have g5 : (0 : Int) ≤ i := by omega
    have hS := fun W => below_of_eq (Stream_bad k n i (fun h => hfit ⟨h.1, h.2.1⟩) W)
    have HS := Lib.hid hS
    clear hS hi
    go_enter Try.func4, Try.ntmps4
    go_wp2_with fail
    refine (H1.out _).mono ?_
    rintro e w1 ⟨rfl, rfl⟩
    go_wp2_with fail
    refine (H2.out _).mono ?_
    rintro e w1 ⟨rfl, rfl⟩
    have B0 := Below.refl w.heap.size w
    go_wp2_with fail
    refine (HS.out _).mono ?_
    rintro e v1 ⟨rfl, c1⟩
    have B1 := B0.trans (c1.mono B0.size)
    clear B0 c1
    go_wp2_with fail
    refine (HX.out _).mono ?_
    rintro e v2 ⟨rfl, c2⟩
    have B2 := B1.trans (c2.mono B1.size)
    clear B1 c2
    go_wp2_with fail
    refine (HMY.out _).mono ?_
    rintro e wm ⟨rfl, rfl⟩
    go_wp2_with fail
    refine (alive5_any _).mono ?_
    rintro e v3 ⟨rfl, c3⟩
    have B3 := B2.trans (c3.mono B2.size)
    clear B2 c3
    go_wp2_with fail
    refine (HMY.out _).mono ?_
    rintro e wm ⟨rfl, rfl⟩
    go_wp2_with fail
    go_ret
    exact ⟨rfl, B3⟩

set_option maxHeartbeats 8000000 in
theorem texts_not_long (key nonce : ByteArray) (i : Int) (text k n : ByteArray) (_hi : -9223372036854775808 ≤ i ∧ i ≤ 9223372036854775807) (hfit : ¬ (k.size = 32 ∧ n.size = 12)) (htx : 4096 < text.size) (w : World)
    (H1 : Hid (∀ w : World, Calls Try.prog 6 #[.string key] w fun e w' => e = .returned (.string k) ∧ w = w')) (H2 : Hid (∀ w : World, Calls Try.prog 6 #[.string nonce] w fun e w' => e = .returned (.string n) ∧ w = w')) :
    Calls Try.prog 4 #[.string key, .string nonce, .int .i64 i, .string text] w fun e w' => e = .returned (.bool true) ∧ Below w.heap.size w w' := by
  have hmy := may_any k n
  rw [decide_eq_false hfit] at hmy
  have HMY := Lib.hid hmy
  clear hmy
  have g3 : ¬ (text.size : Int) ≤ 4096 := by omega
  have g4 : (4096 : Int) < (text.size : Int) := by omega
  have hX := fun W => below_of_eq (Xor_bad k n text (fun h => by omega) W)
  have HX := Lib.hid hX
  clear hX htx
  have hi : (300 < i ∧ i ≤ 4096) ∨ (0 ≤ i ∧ i ≤ 300) ∨ i < 0 ∨ 4096 < i := by omega
  rcases hi with hi | hi | hi | hi
  · obtain ⟨r, hr, hr2⟩ : ∃ r : Nat, i.tmod 100 = (r : Int) ∧ r < 100 := ⟨(i.tmod 100).toNat, by rw [Int.tmod_eq_emod_of_nonneg (by omega)]; omega, by rw [Int.tmod_eq_emod_of_nonneg (by omega)]; omega⟩
    have w1 : IntKind.i64.wrap (r : Int) = (r : Int) := IntWalk.i64_in _ (by omega)
    have w2 : IntKind.i64.wrap (200 + (r : Int)) = 200 + (r : Int) := IntWalk.i64_in _ (by omega)
    have g1 : (300 : Int) < i := hi.1
    have g2 : i ≤ 4096 := hi.2
    have g5 : (0 : Int) ≤ (200 + (r : Int)) := by omega
    have g6 : (200 + (r : Int)) ≤ (4096 : Int) := by omega
    have hS := fun W => below_of_eq (Stream_bad k n (200 + (r : Int)) (fun h => hfit ⟨h.1, h.2.1⟩) W)
    have HS := Lib.hid hS
    clear hS hi
    go_enter Try.func4, Try.ntmps4
    go_wp2_with fail
    refine (H1.out _).mono ?_
    rintro e w1 ⟨rfl, rfl⟩
    go_wp2_with fail
    refine (H2.out _).mono ?_
    rintro e w1 ⟨rfl, rfl⟩
    have B0 := Below.refl w.heap.size w
    go_wp2_with fail
    refine (HS.out _).mono ?_
    rintro e v1 ⟨rfl, c1⟩
    have B1 := B0.trans (c1.mono B0.size)
    clear B0 c1
    go_wp2_with fail
    refine (HX.out _).mono ?_
    rintro e v2 ⟨rfl, c2⟩
    have B2 := B1.trans (c2.mono B1.size)
    clear B1 c2
    go_wp2_with fail
    refine (HMY.out _).mono ?_
    rintro e wm ⟨rfl, rfl⟩
    go_wp2_with fail
    refine (alive5_any _).mono ?_
    rintro e v3 ⟨rfl, c3⟩
    have B3 := B2.trans (c3.mono B2.size)
    clear B2 c3
    go_wp2_with fail
    refine (HMY.out _).mono ?_
    rintro e wm ⟨rfl, rfl⟩
    go_wp2_with fail
    go_ret
    exact ⟨rfl, B3⟩
  · obtain ⟨r, rfl⟩ : ∃ r : Nat, i = (r : Int) := ⟨i.toNat, by omega⟩
    have g1 : ¬ (300 : Int) < (r : Int) := by omega
    have g5 : (0 : Int) ≤ (r : Int) := by omega
    have g6 : (r : Int) ≤ (4096 : Int) := by omega
    have hS := fun W => below_of_eq (Stream_bad k n (r : Int) (fun h => hfit ⟨h.1, h.2.1⟩) W)
    have HS := Lib.hid hS
    clear hS hi
    go_enter Try.func4, Try.ntmps4
    go_wp2_with fail
    refine (H1.out _).mono ?_
    rintro e w1 ⟨rfl, rfl⟩
    go_wp2_with fail
    refine (H2.out _).mono ?_
    rintro e w1 ⟨rfl, rfl⟩
    have B0 := Below.refl w.heap.size w
    go_wp2_with fail
    refine (HS.out _).mono ?_
    rintro e v1 ⟨rfl, c1⟩
    have B1 := B0.trans (c1.mono B0.size)
    clear B0 c1
    go_wp2_with fail
    refine (HX.out _).mono ?_
    rintro e v2 ⟨rfl, c2⟩
    have B2 := B1.trans (c2.mono B1.size)
    clear B1 c2
    go_wp2_with fail
    refine (HMY.out _).mono ?_
    rintro e wm ⟨rfl, rfl⟩
    go_wp2_with fail
    refine (alive5_any _).mono ?_
    rintro e v3 ⟨rfl, c3⟩
    have B3 := B2.trans (c3.mono B2.size)
    clear B2 c3
    go_wp2_with fail
    refine (HMY.out _).mono ?_
    rintro e wm ⟨rfl, rfl⟩
    go_wp2_with fail
    go_ret
    exact ⟨rfl, B3⟩
  · have g1 : ¬ (300 : Int) < i := by omega
    have g5 : ¬ (0 : Int) ≤ i := by omega
    have hS := fun W => below_of_eq (Stream_bad k n i (fun h => hfit ⟨h.1, h.2.1⟩) W)
    have HS := Lib.hid hS
    clear hS hi
    go_enter Try.func4, Try.ntmps4
    go_wp2_with fail
    refine (H1.out _).mono ?_
    rintro e w1 ⟨rfl, rfl⟩
    go_wp2_with fail
    refine (H2.out _).mono ?_
    rintro e w1 ⟨rfl, rfl⟩
    have B0 := Below.refl w.heap.size w
    go_wp2_with fail
    refine (HS.out _).mono ?_
    rintro e v1 ⟨rfl, c1⟩
    have B1 := B0.trans (c1.mono B0.size)
    clear B0 c1
    go_wp2_with fail
    refine (HX.out _).mono ?_
    rintro e v2 ⟨rfl, c2⟩
    have B2 := B1.trans (c2.mono B1.size)
    clear B1 c2
    go_wp2_with fail
    refine (HMY.out _).mono ?_
    rintro e wm ⟨rfl, rfl⟩
    go_wp2_with fail
    refine (alive5_any _).mono ?_
    rintro e v3 ⟨rfl, c3⟩
    have B3 := B2.trans (c3.mono B2.size)
    clear B2 c3
    go_wp2_with fail
    refine (HMY.out _).mono ?_
    rintro e wm ⟨rfl, rfl⟩
    go_wp2_with fail
    go_ret
    exact ⟨rfl, B3⟩
  · have g1 : (300 : Int) < i := by omega
    have g2 : ¬ i ≤ 4096 := by omega
    have g5 : (0 : Int) ≤ i := by omega
    have hS := fun W => below_of_eq (Stream_bad k n i (fun h => hfit ⟨h.1, h.2.1⟩) W)
    have HS := Lib.hid hS
    clear hS hi
    go_enter Try.func4, Try.ntmps4
    go_wp2_with fail
    refine (H1.out _).mono ?_
    rintro e w1 ⟨rfl, rfl⟩
    go_wp2_with fail
    refine (H2.out _).mono ?_
    rintro e w1 ⟨rfl, rfl⟩
    have B0 := Below.refl w.heap.size w
    go_wp2_with fail
    refine (HS.out _).mono ?_
    rintro e v1 ⟨rfl, c1⟩
    have B1 := B0.trans (c1.mono B0.size)
    clear B0 c1
    go_wp2_with fail
    refine (HX.out _).mono ?_
    rintro e v2 ⟨rfl, c2⟩
    have B2 := B1.trans (c2.mono B1.size)
    clear B1 c2
    go_wp2_with fail
    refine (HMY.out _).mono ?_
    rintro e wm ⟨rfl, rfl⟩
    go_wp2_with fail
    refine (alive5_any _).mono ?_
    rintro e v3 ⟨rfl, c3⟩
    have B3 := B2.trans (c3.mono B2.size)
    clear B2 c3
    go_wp2_with fail
    refine (HMY.out _).mono ?_
    rintro e wm ⟨rfl, rfl⟩
    go_wp2_with fail
    go_ret
    exact ⟨rfl, B3⟩

theorem streamTexts_any (key nonce : ByteArray) (i : Int) (text : ByteArray) (hk : key.size ≤ maxLen) (hn : nonce.size ≤ maxLen) (hi : -9223372036854775808 ≤ i ∧ i ≤ 9223372036854775807) (_ht : text.size ≤ maxLen) (w : World) :
    Calls Try.prog 4 #[.string key, .string nonce, .int .i64 i, .string text] w fun e w' => e = .returned (.bool true) ∧ Below w.heap.size w w' := by
  have h1 := Lib.hid (cut5_any key hk)
  have h2 := Lib.hid (cut5_any nonce hn)
  by_cases hfit : (cutS key 40).size = 32 ∧ (cutS nonce 40).size = 12
  · by_cases ht : text.size ≤ 4096
    · exact texts_fit_short key nonce i text _ _ hi hfit ht w h1 h2
    · exact texts_fit_long key nonce i text _ _ hi hfit (by omega) w h1 h2
  · by_cases ht : text.size ≤ 4096
    · exact texts_not_short key nonce i text _ _ hi hfit ht w h1 h2
    · exact texts_not_long key nonce i text _ _ hi hfit (by omega) w h1 h2
end Go.Proofs.Ytchnjjkgaaiclaa
