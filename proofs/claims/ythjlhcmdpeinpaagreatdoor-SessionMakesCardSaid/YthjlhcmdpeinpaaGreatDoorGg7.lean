/- The texts Pow, Refi, one behind the other. -/
import Derived.Test.YthjlhcmdpeinpaaGreatDoorGg6
import Derived.Test.YthjlhcmdpeinpaaGreatDoorGg4
/- The contracts of package limb: power, inverse, Inv. -/
namespace Go.Proofs.YthjlhcmdpeinpaaGreatDoor
set_option maxRecDepth 100000
open Go.RowKit
/-- one bit of an exponent -/
theorem pow_bit (x : Int) (E k : Nat) : x ^ (E % 2 ^ (k + 1)) = x ^ (E % 2 ^ k) * (if E / 2 ^ k % 2 = 1 then x ^ (2 ^ k) else 1) := by
  have h : E % 2 ^ (k + 1) = E % 2 ^ k + 2 ^ k * (E / 2 ^ k % 2) := by rw [Nat.pow_succ, Nat.mod_mul]
  rw [h, Int.pow_add]
  split
  · rename_i hb; rw [hb, Nat.mul_one]
  · rename_i hb
    have : E / 2 ^ k % 2 = 0 := by omega
    rw [this, Nat.mul_zero]; simp
theorem pow_sq (x : Int) (k : Nat) : x ^ (2 ^ (k + 1)) = x ^ (2 ^ k) * x ^ (2 ^ k) := by
  rw [Nat.pow_succ, Nat.mul_two, Int.pow_add]
theorem pow_start (x : Int) : x % Pr = x ^ (2 ^ (0 + 0)) % Pr := by
  have e : x ^ (2 ^ (0 + 0)) = x := by
    show x ^ (0 + 1) = x
    rw [Int.pow_succ, Int.pow_zero, Int.one_mul]
  rw [e]
theorem mul_left {a b c d : Int} (h1 : a % Pr = c % Pr) (h2 : b % Pr = d % Pr) : (a * b) % Pr = (c * d) % Pr := by
  rw [Int.mul_emod, h1, h2, ← Int.mul_emod]

/-- what holds at the head of the inner loop: k bits are done -/
structure PowAt (w : World) (x : Int) (E k : Nat) (wr : World) : Prop where
  n : ∃ a b c d y, Blk wr w.heap.size a b c d ∧ Is4 a b c d y ∧ y % Pr = x ^ (2 ^ k) % Pr
  o : ∃ a b c d y, Blk wr (w.heap.size + 1 + 1 + 1) a b c d ∧ Is4 a b c d y ∧ y % Pr = x ^ (E % 2 ^ k) % Pr
  r : Blk wr (w.heap.size + 1 + 1) 0 0 0 0
  b : Below w.heap.size w wr
def PowIn (w : World) (x : Int) (E k : Nat) (v : Value) (wr : World) : Prop := ∃ i : Nat, i ≤ 64 ∧ v = .int .i64 i ∧ PowAt w x E (k + i) wr

theorem word_bit (E lo k : Nat) (word rest : Nat) (hE : E = lo + 2 ^ k * (word + 18446744073709551616 * rest)) (hlo : lo < 2 ^ k) (i : Nat) (hi : i < 64) :
    E / 2 ^ (k + i) % 2 = word / 2 ^ i % 2 := by
  rw [Nat.pow_add, ← Nat.div_div_eq_div_mul, hE, Nat.add_mul_div_left _ _ (Nat.two_pow_pos k), Nat.div_eq_of_lt hlo, Nat.zero_add]
  have : 18446744073709551616 * rest = 2 ^ i * (2 * (2 ^ (63 - i) * rest)) := by
    rw [← Nat.mul_assoc, ← Nat.mul_assoc, ← Nat.pow_succ, ← Nat.pow_add, show i + 1 + (63 - i) = 64 by omega]
  rw [this, Nat.add_mul_div_left _ _ (Nat.two_pow_pos i), Nat.add_mul_mod_self_left]

theorem bit_one (word i : Nat) (hw : word < 18446744073709551616) : bits .and .u64 (((word / 2 ^ i : Nat) : Int)) 1 = ((word / 2 ^ i % 2 : Nat) : Int) := by
  have h := u64_and_nat (word / 2 ^ i) 1 (Nat.lt_of_le_of_lt (Nat.div_le_self _ _) hw) (by omega)
  rw [nat_mask1] at h
  exact h

theorem pow_done {w : World} {x : Int} {E k : Nat} {W2 : World} {m0 m1 m2 m3 y2 o0 o1 o2 o3 z2 y z : Int} {c : Bool} (hc : c = decide (E / 2 ^ k % 2 = 1))
    (hn : Blk W2 w.heap.size m0 m1 m2 m3) (hm : Is4 m0 m1 m2 m3 y2) (hy2 : y2 % Pr = (y * y) % Pr) (hy : y % Pr = x ^ (2 ^ k) % Pr)
    (ho : Blk W2 (w.heap.size + 1 + 1 + 1) o0 o1 o2 o3) (hoz : Is4 o0 o1 o2 o3 z2) (hz2 : z2 % Pr = (if c = true then z * y else z) % Pr) (hz : z % Pr = x ^ (E % 2 ^ k) % Pr)
    (hr : Blk W2 (w.heap.size + 1 + 1) 0 0 0 0) (hb : Below w.heap.size w W2) : PowAt w x E (k + 1) W2 := by
  refine ⟨⟨m0, m1, m2, m3, y2, hn, hm, ?_⟩, ⟨o0, o1, o2, o3, z2, ho, hoz, ?_⟩, hr, hb⟩
  · rw [hy2, pow_sq]; exact mul_left hy hy
  · rw [hz2, pow_bit, hc]
    by_cases h : E / 2 ^ k % 2 = 1
    · simp only [h, decide_true, if_true]; exact mul_left hz hy
    · simp only [h, decide_false, if_false, Int.mul_one]; simpa using hz

set_option maxHeartbeats 4000000 in
theorem power_any (va : Value) (x : Int) (hva : Num va x) (e0 e1 e2 e3 : Nat) (u0 : e0 < 18446744073709551616) (u1 : e1 < 18446744073709551616) (u2 : e2 < 18446744073709551616) (u3 : e3 < 18446744073709551616) (w : World) :
    Calls Tryz.prog 228 #[va, .agg #[.int .u64 e0, .int .u64 e1, .int .u64 e2, .int .u64 e3]] w (NumPost (fun z => z % Pr = x ^ (e0 + 18446744073709551616 * (e1 + 18446744073709551616 * (e2 + 18446744073709551616 * e3))) % Pr) w) := by
  obtain ⟨a0, a1, a2, a3, rfl, ha⟩ := hva
  have i0 : ∀ w : World, (Instr.index 213 (.agg #[.int .u64 (e0 : Int), .int .u64 (e1 : Int), .int .u64 (e2 : Int), .int .u64 (e3 : Int)]) (.int .i64 0)).run Tryz.prog w = .ok (.int .u64 (e0 : Int)) w := fun _ => by kernel_rfl
  have i1 : ∀ w : World, (Instr.index 213 (.agg #[.int .u64 (e0 : Int), .int .u64 (e1 : Int), .int .u64 (e2 : Int), .int .u64 (e3 : Int)]) (.int .i64 1)).run Tryz.prog w = .ok (.int .u64 (e1 : Int)) w := fun _ => by kernel_rfl
  have i2 : ∀ w : World, (Instr.index 213 (.agg #[.int .u64 (e0 : Int), .int .u64 (e1 : Int), .int .u64 (e2 : Int), .int .u64 (e3 : Int)]) (.int .i64 2)).run Tryz.prog w = .ok (.int .u64 (e2 : Int)) w := fun _ => by kernel_rfl
  have i3 : ∀ w : World, (Instr.index 213 (.agg #[.int .u64 (e0 : Int), .int .u64 (e1 : Int), .int .u64 (e2 : Int), .int .u64 (e3 : Int)]) (.int .i64 3)).run Tryz.prog w = .ok (.int .u64 (e3 : Int)) w := fun _ => by kernel_rfl
  obtain ⟨E, hE⟩ : ∃ E : Nat, E = e0 + 18446744073709551616 * (e1 + 18446744073709551616 * (e2 + 18446744073709551616 * e3)) := ⟨_, rfl⟩
  rw [← hE]
  have t0 : Hid (∀ i, i < 64 → E / 2 ^ (0 + i) % 2 = e0 / 2 ^ i % 2) := fun i hi => word_bit E 0 0 e0 (e1 + 18446744073709551616 * (e2 + 18446744073709551616 * e3)) (by omega) (by omega) i hi
  have t1 : Hid (∀ i, i < 64 → E / 2 ^ (64 + i) % 2 = e1 / 2 ^ i % 2) := fun i hi => word_bit E e0 64 e1 (e2 + 18446744073709551616 * e3) (by rw [hE]) u0 i hi
  have t2 : Hid (∀ i, i < 64 → E / 2 ^ (128 + i) % 2 = e2 / 2 ^ i % 2) := fun i hi => word_bit E (e0 + 18446744073709551616 * e1) 128 e2 e3 (by rw [hE]; omega) (by omega) i hi
  have t3 : Hid (∀ i, i < 64 → E / 2 ^ (192 + i) % 2 = e3 / 2 ^ i % 2) := fun i hi => word_bit E (e0 + 18446744073709551616 * e1 + 340282366920938463463374607431768211456 * e2) 192 e3 0 (by rw [hE]; omega) (by omega) i hi
  have hE256 : Hid (E % 2 ^ 256 = E) := Nat.mod_eq_of_lt (by omega)
  clear hE
  go_enter Tryz.func228, Tryz.ntmps228
  go_wp2_with fail
  refine wp_loop_rounds 5 ?_
  rw [rounds_succ]; go_wp2_with fail
  go_loopw [14] (PowIn w x E 0) (fun i _ => 64 - (intOf i).toNat)
  case atStart => exact ⟨0, by omega, rfl, ⟨⟨a0, a1, a2, a3, x, Blk.alloc (Blk.alloc (Blk.alloc (Blk.fresh_at _ _ _ _ _ _ _ rfl) _) _) _, ha, pow_start x⟩, ⟨1, 0, 0, 0, 1, Blk.fresh_at _ _ _ _ _ _ _ (by simp), ⟨by unfold U; omega, by unfold U; omega, by unfold U; omega, by unfold U; omega, by unfold val4; omega⟩, by simp [Nat.mod_one]⟩, Blk.alloc (Blk.fresh_at _ _ _ _ _ _ _ (by simp)) _, by go_grown⟩⟩
  case round =>
    obtain ⟨i, hi, rfl, hp⟩ := hrel
    by_cases hlt : i < 64
    · have hlt' : (i : Int) < 64 := by omega
      have hbt := t0.out i hlt
      obtain ⟨⟨n0, n1, n2, n3, y, hN, hy4, hy⟩, ⟨o0, o1, o2, o3, z, hO, hz4, hz⟩, hR, hB⟩ := hp
      have HY := Lib.hid hy; have HZ := Lib.hid hz
      have l0 := hN.lt; have l3 := hO.lt
      clear hy hz
      by_cases hb : e0 / 2 ^ i % 2 = 1
      · have hbit : (bits .and .u64 ((e0 : Int) / 2 ^ i) 1 == 1) = true := by
          have := bit_one e0 i u0
          rw [hb] at this
          rw [beq_iff_eq]; simpa using this
        have HC : Hid (true = decide (E / 2 ^ (0 + i) % 2 = 1)) := by rw [hbt]; show true = _; simp [hb]
        clear hbt hb
        obtain ⟨⟨x0, x1, x2, x3⟩, ⟨y0, y1, y2, y3⟩⟩ := id hN
        obtain ⟨⟨p0, p1, p2, p3⟩, ⟨q0, q1, q2, q3⟩⟩ := id hO
        go_wp2_with fail
        refine (times_any _ _ _ _ ⟨_, _, _, _, rfl, hz4⟩ ⟨_, _, _, _, rfl, hy4⟩ _).mono ?_
        rintro e w1 ⟨c0, c1, c2, c3, z2, rfl, hz24, hz2, hb1⟩
        clear x0 x1 x2 x3 y0 y1 y2 y3 p0 p1 p2 p3 q0 q1 q2 q3
        have HZ2 := Lib.hid hz2
        clear hz2
        have hN1 := hN.below hb1 hN.lt; have hO1 := hO.below hb1 hO.lt; have hR1 := hR.below hb1 hR.lt
        have hB1 : Below w.heap.size w w1 := hB.trans (hb1.mono (Nat.le_of_lt l0))
        have l0' := hN1.lt; have l3' := hO1.lt
        clear hb1 hN hO hR hB l0 l3
        obtain ⟨⟨x0, x1, x2, x3⟩, ⟨y0, y1, y2, y3⟩⟩ := id (hN1.far4 (B := w.heap.size + 1 + 1 + 1) (by omega) (.int .u64 c0) (.int .u64 c1) (.int .u64 c2) (.int .u64 c3))
        obtain ⟨⟨p0, p1, p2, p3⟩, ⟨q0, q1, q2, q3⟩⟩ := id hO1
        go_wp2_with fail
        refine (times_any _ _ _ _ ⟨_, _, _, _, rfl, hy4⟩ ⟨_, _, _, _, rfl, hy4⟩ _).mono ?_
        rintro e w2 ⟨d0, d1, d2, d3, y2', rfl, hy24, hy2, hb2⟩
        clear x0 x1 x2 x3 y0 y1 y2 y3 p0 p1 p2 p3 q0 q1 q2 q3
        have HY2 := Lib.hid hy2
        clear hy2
        have hN2 := (hN1.far4 (B := w.heap.size + 1 + 1 + 1) (by omega) (.int .u64 c0) (.int .u64 c1) (.int .u64 c2) (.int .u64 c3)).below hb2 (by rw [size_set4]; exact l0')
        have hO2 := (hO1.set4 c0 c1 c2 c3).below hb2 (by rw [size_set4]; exact l3')
        have hR2 := (hR1.far4 (B := w.heap.size + 1 + 1 + 1) (by omega) (.int .u64 c0) (.int .u64 c1) (.int .u64 c2) (.int .u64 c3)).below hb2 (by rw [size_set4]; exact hR1.lt)
        have hB2 : Below w.heap.size w w2 := (below_set4 (B := w.heap.size + 1 + 1 + 1) hB1 (by omega) (.int .u64 c0) (.int .u64 c1) (.int .u64 c2) (.int .u64 c3)).trans (hb2.mono (by rw [size_set4]; exact Nat.le_of_lt l0'))
        clear hb2
        obtain ⟨⟨x0, x1, x2, x3⟩, ⟨y0, y1, y2, y3⟩⟩ := id hN2
        go_wp2_with fail
        refine ⟨⟨i + 1, by omega, by simp, ?_⟩, by simp [intOf]; omega⟩
        exact pow_done (c := true) HC.out (hN2.set4 d0 d1 d2 d3) hy24 HY2.out HY.out (hO2.far4 (by omega) _ _ _ _) hz24 (by simpa using HZ2.out) HZ.out (hR2.far4 (by omega) _ _ _ _) (below_set4 hB2 (Nat.le_refl _) _ _ _ _)
      · have hbit : (bits .and .u64 ((e0 : Int) / 2 ^ i) 1 == 1) = false := by
          have := bit_one e0 i u0
          have h0 : e0 / 2 ^ i % 2 = 0 := by omega
          rw [h0] at this
          rw [beq_eq_false_iff_ne]; intro h; rw [show ((e0 : Int) / 2 ^ i) = ((e0 / 2 ^ i : Nat) : Int) by simp] at h; omega
        have HC : Hid (false = decide (E / 2 ^ (0 + i) % 2 = 1)) := by rw [hbt]; show false = _; simp; omega
        clear hbt hb
        obtain ⟨⟨x0, x1, x2, x3⟩, ⟨y0, y1, y2, y3⟩⟩ := id hN
        go_wp2_with fail
        refine (times_any _ _ _ _ ⟨_, _, _, _, rfl, hy4⟩ ⟨_, _, _, _, rfl, hy4⟩ _).mono ?_
        rintro e w2 ⟨d0, d1, d2, d3, y2', rfl, hy24, hy2, hb2⟩
        clear x0 x1 x2 x3 y0 y1 y2 y3
        have HY2 := Lib.hid hy2
        clear hy2
        have hN2 := hN.below hb2 hN.lt; have hO2 := hO.below hb2 hO.lt; have hR2 := hR.below hb2 hR.lt
        have hB2 : Below w.heap.size w w2 := hB.trans (hb2.mono (Nat.le_of_lt l0))
        clear hb2
        obtain ⟨⟨x0, x1, x2, x3⟩, ⟨y0, y1, y2, y3⟩⟩ := id hN2
        go_wp2_with fail
        refine ⟨⟨i + 1, by omega, by simp, ?_⟩, by simp [intOf]; omega⟩
        exact pow_done (c := false) HC.out (hN2.set4 d0 d1 d2 d3) hy24 HY2.out HY.out (hO2.far4 (by omega) _ _ _ _) hz4 (by simp) HZ.out (hR2.far4 (by omega) _ _ _ _) (below_set4 hB2 (Nat.le_refl _) _ _ _ _)
    · obtain rfl : i = 64 := by omega
      have hp1 : PowAt w x E 64 wr := hp
      clear hp
      go_wp2_with fail
      obtain ⟨wo0, rfl⟩ : ∃ wo : World, wo = wr := ⟨_, rfl⟩
      rw [rounds_succ]; go_wp2_with fail
      go_loopw [14] (PowIn w x E 64) (fun i _ => 64 - (intOf i).toNat)
      case atStart => exact ⟨0, by omega, rfl, hp1⟩
      case round =>
        obtain ⟨i, hi, rfl, hp⟩ := hrel
        by_cases hlt : i < 64
        · have hlt' : (i : Int) < 64 := by omega
          have hbt := t1.out i hlt
          obtain ⟨⟨n0, n1, n2, n3, y, hN, hy4, hy⟩, ⟨o0, o1, o2, o3, z, hO, hz4, hz⟩, hR, hB⟩ := hp
          have HY := Lib.hid hy; have HZ := Lib.hid hz
          have l0 := hN.lt; have l3 := hO.lt
          clear hy hz
          by_cases hb : e1 / 2 ^ i % 2 = 1
          · have hbit : (bits .and .u64 ((e1 : Int) / 2 ^ i) 1 == 1) = true := by
              have := bit_one e1 i u1
              rw [hb] at this
              rw [beq_iff_eq]; simpa using this
            have HC : Hid (true = decide (E / 2 ^ (64 + i) % 2 = 1)) := by rw [hbt]; show true = _; simp [hb]
            clear hbt hb
            obtain ⟨⟨x0, x1, x2, x3⟩, ⟨y0, y1, y2, y3⟩⟩ := id hN
            obtain ⟨⟨p0, p1, p2, p3⟩, ⟨q0, q1, q2, q3⟩⟩ := id hO
            go_wp2_with fail
            refine (times_any _ _ _ _ ⟨_, _, _, _, rfl, hz4⟩ ⟨_, _, _, _, rfl, hy4⟩ _).mono ?_
            rintro e w1 ⟨c0, c1, c2, c3, z2, rfl, hz24, hz2, hb1⟩
            clear x0 x1 x2 x3 y0 y1 y2 y3 p0 p1 p2 p3 q0 q1 q2 q3
            have HZ2 := Lib.hid hz2
            clear hz2
            have hN1 := hN.below hb1 hN.lt; have hO1 := hO.below hb1 hO.lt; have hR1 := hR.below hb1 hR.lt
            have hB1 : Below w.heap.size w w1 := hB.trans (hb1.mono (Nat.le_of_lt l0))
            have l0' := hN1.lt; have l3' := hO1.lt
            clear hb1 hN hO hR hB l0 l3
            obtain ⟨⟨x0, x1, x2, x3⟩, ⟨y0, y1, y2, y3⟩⟩ := id (hN1.far4 (B := w.heap.size + 1 + 1 + 1) (by omega) (.int .u64 c0) (.int .u64 c1) (.int .u64 c2) (.int .u64 c3))
            obtain ⟨⟨p0, p1, p2, p3⟩, ⟨q0, q1, q2, q3⟩⟩ := id hO1
            go_wp2_with fail
            refine (times_any _ _ _ _ ⟨_, _, _, _, rfl, hy4⟩ ⟨_, _, _, _, rfl, hy4⟩ _).mono ?_
            rintro e w2 ⟨d0, d1, d2, d3, y2', rfl, hy24, hy2, hb2⟩
            clear x0 x1 x2 x3 y0 y1 y2 y3 p0 p1 p2 p3 q0 q1 q2 q3
            have HY2 := Lib.hid hy2
            clear hy2
            have hN2 := (hN1.far4 (B := w.heap.size + 1 + 1 + 1) (by omega) (.int .u64 c0) (.int .u64 c1) (.int .u64 c2) (.int .u64 c3)).below hb2 (by rw [size_set4]; exact l0')
            have hO2 := (hO1.set4 c0 c1 c2 c3).below hb2 (by rw [size_set4]; exact l3')
            have hR2 := (hR1.far4 (B := w.heap.size + 1 + 1 + 1) (by omega) (.int .u64 c0) (.int .u64 c1) (.int .u64 c2) (.int .u64 c3)).below hb2 (by rw [size_set4]; exact hR1.lt)
            have hB2 : Below w.heap.size w w2 := (below_set4 (B := w.heap.size + 1 + 1 + 1) hB1 (by omega) (.int .u64 c0) (.int .u64 c1) (.int .u64 c2) (.int .u64 c3)).trans (hb2.mono (by rw [size_set4]; exact Nat.le_of_lt l0'))
            clear hb2
            obtain ⟨⟨x0, x1, x2, x3⟩, ⟨y0, y1, y2, y3⟩⟩ := id hN2
            go_wp2_with fail
            refine ⟨⟨i + 1, by omega, by simp, ?_⟩, by simp [intOf]; omega⟩
            exact pow_done (c := true) HC.out (hN2.set4 d0 d1 d2 d3) hy24 HY2.out HY.out (hO2.far4 (by omega) _ _ _ _) hz24 (by simpa using HZ2.out) HZ.out (hR2.far4 (by omega) _ _ _ _) (below_set4 hB2 (Nat.le_refl _) _ _ _ _)
          · have hbit : (bits .and .u64 ((e1 : Int) / 2 ^ i) 1 == 1) = false := by
              have := bit_one e1 i u1
              have h0 : e1 / 2 ^ i % 2 = 0 := by omega
              rw [h0] at this
              rw [beq_eq_false_iff_ne]; intro h; rw [show ((e1 : Int) / 2 ^ i) = ((e1 / 2 ^ i : Nat) : Int) by simp] at h; omega
            have HC : Hid (false = decide (E / 2 ^ (64 + i) % 2 = 1)) := by rw [hbt]; show false = _; simp; omega
            clear hbt hb
            obtain ⟨⟨x0, x1, x2, x3⟩, ⟨y0, y1, y2, y3⟩⟩ := id hN
            go_wp2_with fail
            refine (times_any _ _ _ _ ⟨_, _, _, _, rfl, hy4⟩ ⟨_, _, _, _, rfl, hy4⟩ _).mono ?_
            rintro e w2 ⟨d0, d1, d2, d3, y2', rfl, hy24, hy2, hb2⟩
            clear x0 x1 x2 x3 y0 y1 y2 y3
            have HY2 := Lib.hid hy2
            clear hy2
            have hN2 := hN.below hb2 hN.lt; have hO2 := hO.below hb2 hO.lt; have hR2 := hR.below hb2 hR.lt
            have hB2 : Below w.heap.size w w2 := hB.trans (hb2.mono (Nat.le_of_lt l0))
            clear hb2
            obtain ⟨⟨x0, x1, x2, x3⟩, ⟨y0, y1, y2, y3⟩⟩ := id hN2
            go_wp2_with fail
            refine ⟨⟨i + 1, by omega, by simp, ?_⟩, by simp [intOf]; omega⟩
            exact pow_done (c := false) HC.out (hN2.set4 d0 d1 d2 d3) hy24 HY2.out HY.out (hO2.far4 (by omega) _ _ _ _) hz4 (by simp) HZ.out (hR2.far4 (by omega) _ _ _ _) (below_set4 hB2 (Nat.le_refl _) _ _ _ _)
        · obtain rfl : i = 64 := by omega
          have hp2 : PowAt w x E 128 wr := hp
          clear hp
          go_wp2_with fail
          obtain ⟨wo1, rfl⟩ : ∃ wo : World, wo = wr := ⟨_, rfl⟩
          rw [rounds_succ]; go_wp2_with fail
          go_loopw [14] (PowIn w x E 128) (fun i _ => 64 - (intOf i).toNat)
          case atStart => exact ⟨0, by omega, rfl, hp2⟩
          case round =>
            obtain ⟨i, hi, rfl, hp⟩ := hrel
            by_cases hlt : i < 64
            · have hlt' : (i : Int) < 64 := by omega
              have hbt := t2.out i hlt
              obtain ⟨⟨n0, n1, n2, n3, y, hN, hy4, hy⟩, ⟨o0, o1, o2, o3, z, hO, hz4, hz⟩, hR, hB⟩ := hp
              have HY := Lib.hid hy; have HZ := Lib.hid hz
              have l0 := hN.lt; have l3 := hO.lt
              clear hy hz
              by_cases hb : e2 / 2 ^ i % 2 = 1
              · have hbit : (bits .and .u64 ((e2 : Int) / 2 ^ i) 1 == 1) = true := by
                  have := bit_one e2 i u2
                  rw [hb] at this
                  rw [beq_iff_eq]; simpa using this
                have HC : Hid (true = decide (E / 2 ^ (128 + i) % 2 = 1)) := by rw [hbt]; show true = _; simp [hb]
                clear hbt hb
                obtain ⟨⟨x0, x1, x2, x3⟩, ⟨y0, y1, y2, y3⟩⟩ := id hN
                obtain ⟨⟨p0, p1, p2, p3⟩, ⟨q0, q1, q2, q3⟩⟩ := id hO
                go_wp2_with fail
                refine (times_any _ _ _ _ ⟨_, _, _, _, rfl, hz4⟩ ⟨_, _, _, _, rfl, hy4⟩ _).mono ?_
                rintro e w1 ⟨c0, c1, c2, c3, z2, rfl, hz24, hz2, hb1⟩
                clear x0 x1 x2 x3 y0 y1 y2 y3 p0 p1 p2 p3 q0 q1 q2 q3
                have HZ2 := Lib.hid hz2
                clear hz2
                have hN1 := hN.below hb1 hN.lt; have hO1 := hO.below hb1 hO.lt; have hR1 := hR.below hb1 hR.lt
                have hB1 : Below w.heap.size w w1 := hB.trans (hb1.mono (Nat.le_of_lt l0))
                have l0' := hN1.lt; have l3' := hO1.lt
                clear hb1 hN hO hR hB l0 l3
                obtain ⟨⟨x0, x1, x2, x3⟩, ⟨y0, y1, y2, y3⟩⟩ := id (hN1.far4 (B := w.heap.size + 1 + 1 + 1) (by omega) (.int .u64 c0) (.int .u64 c1) (.int .u64 c2) (.int .u64 c3))
                obtain ⟨⟨p0, p1, p2, p3⟩, ⟨q0, q1, q2, q3⟩⟩ := id hO1
                go_wp2_with fail
                refine (times_any _ _ _ _ ⟨_, _, _, _, rfl, hy4⟩ ⟨_, _, _, _, rfl, hy4⟩ _).mono ?_
                rintro e w2 ⟨d0, d1, d2, d3, y2', rfl, hy24, hy2, hb2⟩
                clear x0 x1 x2 x3 y0 y1 y2 y3 p0 p1 p2 p3 q0 q1 q2 q3
                have HY2 := Lib.hid hy2
                clear hy2
                have hN2 := (hN1.far4 (B := w.heap.size + 1 + 1 + 1) (by omega) (.int .u64 c0) (.int .u64 c1) (.int .u64 c2) (.int .u64 c3)).below hb2 (by rw [size_set4]; exact l0')
                have hO2 := (hO1.set4 c0 c1 c2 c3).below hb2 (by rw [size_set4]; exact l3')
                have hR2 := (hR1.far4 (B := w.heap.size + 1 + 1 + 1) (by omega) (.int .u64 c0) (.int .u64 c1) (.int .u64 c2) (.int .u64 c3)).below hb2 (by rw [size_set4]; exact hR1.lt)
                have hB2 : Below w.heap.size w w2 := (below_set4 (B := w.heap.size + 1 + 1 + 1) hB1 (by omega) (.int .u64 c0) (.int .u64 c1) (.int .u64 c2) (.int .u64 c3)).trans (hb2.mono (by rw [size_set4]; exact Nat.le_of_lt l0'))
                clear hb2
                obtain ⟨⟨x0, x1, x2, x3⟩, ⟨y0, y1, y2, y3⟩⟩ := id hN2
                go_wp2_with fail
                refine ⟨⟨i + 1, by omega, by simp, ?_⟩, by simp [intOf]; omega⟩
                exact pow_done (c := true) HC.out (hN2.set4 d0 d1 d2 d3) hy24 HY2.out HY.out (hO2.far4 (by omega) _ _ _ _) hz24 (by simpa using HZ2.out) HZ.out (hR2.far4 (by omega) _ _ _ _) (below_set4 hB2 (Nat.le_refl _) _ _ _ _)
              · have hbit : (bits .and .u64 ((e2 : Int) / 2 ^ i) 1 == 1) = false := by
                  have := bit_one e2 i u2
                  have h0 : e2 / 2 ^ i % 2 = 0 := by omega
                  rw [h0] at this
                  rw [beq_eq_false_iff_ne]; intro h; rw [show ((e2 : Int) / 2 ^ i) = ((e2 / 2 ^ i : Nat) : Int) by simp] at h; omega
                have HC : Hid (false = decide (E / 2 ^ (128 + i) % 2 = 1)) := by rw [hbt]; show false = _; simp; omega
                clear hbt hb
                obtain ⟨⟨x0, x1, x2, x3⟩, ⟨y0, y1, y2, y3⟩⟩ := id hN
                go_wp2_with fail
                refine (times_any _ _ _ _ ⟨_, _, _, _, rfl, hy4⟩ ⟨_, _, _, _, rfl, hy4⟩ _).mono ?_
                rintro e w2 ⟨d0, d1, d2, d3, y2', rfl, hy24, hy2, hb2⟩
                clear x0 x1 x2 x3 y0 y1 y2 y3
                have HY2 := Lib.hid hy2
                clear hy2
                have hN2 := hN.below hb2 hN.lt; have hO2 := hO.below hb2 hO.lt; have hR2 := hR.below hb2 hR.lt
                have hB2 : Below w.heap.size w w2 := hB.trans (hb2.mono (Nat.le_of_lt l0))
                clear hb2
                obtain ⟨⟨x0, x1, x2, x3⟩, ⟨y0, y1, y2, y3⟩⟩ := id hN2
                go_wp2_with fail
                refine ⟨⟨i + 1, by omega, by simp, ?_⟩, by simp [intOf]; omega⟩
                exact pow_done (c := false) HC.out (hN2.set4 d0 d1 d2 d3) hy24 HY2.out HY.out (hO2.far4 (by omega) _ _ _ _) hz4 (by simp) HZ.out (hR2.far4 (by omega) _ _ _ _) (below_set4 hB2 (Nat.le_refl _) _ _ _ _)
            · obtain rfl : i = 64 := by omega
              have hp3 : PowAt w x E 192 wr := hp
              clear hp
              go_wp2_with fail
              obtain ⟨wo2, rfl⟩ : ∃ wo : World, wo = wr := ⟨_, rfl⟩
              rw [rounds_succ]; go_wp2_with fail
              go_loopw [14] (PowIn w x E 192) (fun i _ => 64 - (intOf i).toNat)
              case atStart => exact ⟨0, by omega, rfl, hp3⟩
              case round =>
                obtain ⟨i, hi, rfl, hp⟩ := hrel
                by_cases hlt : i < 64
                · have hlt' : (i : Int) < 64 := by omega
                  have hbt := t3.out i hlt
                  obtain ⟨⟨n0, n1, n2, n3, y, hN, hy4, hy⟩, ⟨o0, o1, o2, o3, z, hO, hz4, hz⟩, hR, hB⟩ := hp
                  have HY := Lib.hid hy; have HZ := Lib.hid hz
                  have l0 := hN.lt; have l3 := hO.lt
                  clear hy hz
                  by_cases hb : e3 / 2 ^ i % 2 = 1
                  · have hbit : (bits .and .u64 ((e3 : Int) / 2 ^ i) 1 == 1) = true := by
                      have := bit_one e3 i u3
                      rw [hb] at this
                      rw [beq_iff_eq]; simpa using this
                    have HC : Hid (true = decide (E / 2 ^ (192 + i) % 2 = 1)) := by rw [hbt]; show true = _; simp [hb]
                    clear hbt hb
                    obtain ⟨⟨x0, x1, x2, x3⟩, ⟨y0, y1, y2, y3⟩⟩ := id hN
                    obtain ⟨⟨p0, p1, p2, p3⟩, ⟨q0, q1, q2, q3⟩⟩ := id hO
                    go_wp2_with fail
                    refine (times_any _ _ _ _ ⟨_, _, _, _, rfl, hz4⟩ ⟨_, _, _, _, rfl, hy4⟩ _).mono ?_
                    rintro e w1 ⟨c0, c1, c2, c3, z2, rfl, hz24, hz2, hb1⟩
                    clear x0 x1 x2 x3 y0 y1 y2 y3 p0 p1 p2 p3 q0 q1 q2 q3
                    have HZ2 := Lib.hid hz2
                    clear hz2
                    have hN1 := hN.below hb1 hN.lt; have hO1 := hO.below hb1 hO.lt; have hR1 := hR.below hb1 hR.lt
                    have hB1 : Below w.heap.size w w1 := hB.trans (hb1.mono (Nat.le_of_lt l0))
                    have l0' := hN1.lt; have l3' := hO1.lt
                    clear hb1 hN hO hR hB l0 l3
                    obtain ⟨⟨x0, x1, x2, x3⟩, ⟨y0, y1, y2, y3⟩⟩ := id (hN1.far4 (B := w.heap.size + 1 + 1 + 1) (by omega) (.int .u64 c0) (.int .u64 c1) (.int .u64 c2) (.int .u64 c3))
                    obtain ⟨⟨p0, p1, p2, p3⟩, ⟨q0, q1, q2, q3⟩⟩ := id hO1
                    go_wp2_with fail
                    refine (times_any _ _ _ _ ⟨_, _, _, _, rfl, hy4⟩ ⟨_, _, _, _, rfl, hy4⟩ _).mono ?_
                    rintro e w2 ⟨d0, d1, d2, d3, y2', rfl, hy24, hy2, hb2⟩
                    clear x0 x1 x2 x3 y0 y1 y2 y3 p0 p1 p2 p3 q0 q1 q2 q3
                    have HY2 := Lib.hid hy2
                    clear hy2
                    have hN2 := (hN1.far4 (B := w.heap.size + 1 + 1 + 1) (by omega) (.int .u64 c0) (.int .u64 c1) (.int .u64 c2) (.int .u64 c3)).below hb2 (by rw [size_set4]; exact l0')
                    have hO2 := (hO1.set4 c0 c1 c2 c3).below hb2 (by rw [size_set4]; exact l3')
                    have hR2 := (hR1.far4 (B := w.heap.size + 1 + 1 + 1) (by omega) (.int .u64 c0) (.int .u64 c1) (.int .u64 c2) (.int .u64 c3)).below hb2 (by rw [size_set4]; exact hR1.lt)
                    have hB2 : Below w.heap.size w w2 := (below_set4 (B := w.heap.size + 1 + 1 + 1) hB1 (by omega) (.int .u64 c0) (.int .u64 c1) (.int .u64 c2) (.int .u64 c3)).trans (hb2.mono (by rw [size_set4]; exact Nat.le_of_lt l0'))
                    clear hb2
                    obtain ⟨⟨x0, x1, x2, x3⟩, ⟨y0, y1, y2, y3⟩⟩ := id hN2
                    go_wp2_with fail
                    refine ⟨⟨i + 1, by omega, by simp, ?_⟩, by simp [intOf]; omega⟩
                    exact pow_done (c := true) HC.out (hN2.set4 d0 d1 d2 d3) hy24 HY2.out HY.out (hO2.far4 (by omega) _ _ _ _) hz24 (by simpa using HZ2.out) HZ.out (hR2.far4 (by omega) _ _ _ _) (below_set4 hB2 (Nat.le_refl _) _ _ _ _)
                  · have hbit : (bits .and .u64 ((e3 : Int) / 2 ^ i) 1 == 1) = false := by
                      have := bit_one e3 i u3
                      have h0 : e3 / 2 ^ i % 2 = 0 := by omega
                      rw [h0] at this
                      rw [beq_eq_false_iff_ne]; intro h; rw [show ((e3 : Int) / 2 ^ i) = ((e3 / 2 ^ i : Nat) : Int) by simp] at h; omega
                    have HC : Hid (false = decide (E / 2 ^ (192 + i) % 2 = 1)) := by rw [hbt]; show false = _; simp; omega
                    clear hbt hb
                    obtain ⟨⟨x0, x1, x2, x3⟩, ⟨y0, y1, y2, y3⟩⟩ := id hN
                    go_wp2_with fail
                    refine (times_any _ _ _ _ ⟨_, _, _, _, rfl, hy4⟩ ⟨_, _, _, _, rfl, hy4⟩ _).mono ?_
                    rintro e w2 ⟨d0, d1, d2, d3, y2', rfl, hy24, hy2, hb2⟩
                    clear x0 x1 x2 x3 y0 y1 y2 y3
                    have HY2 := Lib.hid hy2
                    clear hy2
                    have hN2 := hN.below hb2 hN.lt; have hO2 := hO.below hb2 hO.lt; have hR2 := hR.below hb2 hR.lt
                    have hB2 : Below w.heap.size w w2 := hB.trans (hb2.mono (Nat.le_of_lt l0))
                    clear hb2
                    obtain ⟨⟨x0, x1, x2, x3⟩, ⟨y0, y1, y2, y3⟩⟩ := id hN2
                    go_wp2_with fail
                    refine ⟨⟨i + 1, by omega, by simp, ?_⟩, by simp [intOf]; omega⟩
                    exact pow_done (c := false) HC.out (hN2.set4 d0 d1 d2 d3) hy24 HY2.out HY.out (hO2.far4 (by omega) _ _ _ _) hz4 (by simp) HZ.out (hR2.far4 (by omega) _ _ _ _) (below_set4 hB2 (Nat.le_refl _) _ _ _ _)
                · obtain rfl : i = 64 := by omega
                  have hp4 : PowAt w x E 256 wr := hp
                  clear hp
                  go_wp2_with fail
                  obtain ⟨-, ⟨o0, o1, o2, o3, z, hO, hz4, hz⟩, hR, hB⟩ := hp4
                  rw [hE256.out] at hz
                  have HZ := Lib.hid hz
                  clear hz
                  have l3 := hO.lt
                  obtain ⟨⟨p0, p1, p2, p3⟩, ⟨q0, q1, q2, q3⟩⟩ := id hO
                  obtain ⟨⟨x0, x1, x2, x3⟩, ⟨y0, y1, y2, y3⟩⟩ := id hR
                  rw [rounds_succ]; go_wp2_with fail
                  refine bodyPost_ret (v := .agg #[.int .u64 o0, .int .u64 o1, .int .u64 o2, .int .u64 o3]) (by simp [results, Tryz.results228, go_sem, x0, x1, x2, x3]) rfl ⟨o0, o1, o2, o3, _, rfl, hz4, HZ.out, ?_⟩
                  exact below_set4 hB (by omega) _ _ _ _

theorem exp_math {f0 f1 f2 f3 k z : Int} (hz : Is4 f0 f1 f2 f3 z) (_hk : 0 ≤ k ∧ k ≤ 1) (h : z - k * W256 = Pr - 2) :
    ∃ e0 e1 e2 e3 : Nat, f0 = e0 ∧ f1 = e1 ∧ f2 = e2 ∧ f3 = e3 ∧ e0 < 18446744073709551616 ∧ e1 < 18446744073709551616 ∧ e2 < 18446744073709551616 ∧ e3 < 18446744073709551616 ∧
      e0 + 18446744073709551616 * (e1 + 18446744073709551616 * (e2 + 18446744073709551616 * e3)) = 57896044618658097711785492504343953926634992332820282019728792003956564819947 := by
  have hr := is4_range hz
  obtain ⟨u0, u1, u2, u3, rfl⟩ := hz
  obtain ⟨e0, rfl⟩ := Int.eq_ofNat_of_zero_le u0.1
  obtain ⟨e1, rfl⟩ := Int.eq_ofNat_of_zero_le u1.1
  obtain ⟨e2, rfl⟩ := Int.eq_ofNat_of_zero_le u2.1
  obtain ⟨e3, rfl⟩ := Int.eq_ofNat_of_zero_le u3.1
  unfold U val4 W256 Pr at *
  exact ⟨e0, e1, e2, e3, rfl, rfl, rfl, rfl, by omega, by omega, by omega, by omega, by omega⟩

/-- p - 2 -/
def ExpN : Nat := 57896044618658097711785492504343953926634992332820282019728792003956564819947

set_option maxHeartbeats 1000000 in
theorem inverse_any (va : Value) (x : Int) (hva : Num va x) (w : World) (hP : PrimeAt w) :
    Calls Tryz.prog 213 #[va] w (NumPost (fun z => z % Pr = x ^ ExpN % Pr) w) := by
  obtain ⟨a0, a1, a2, a3, rfl, ha⟩ := hva
  have hlt := hP.lt
  have hPa : PrimeAt ((w.alloc (.cells #[.int .u64 a0, .int .u64 a1, .int .u64 a2, .int .u64 a3] 213)).alloc (.cells #[.int .u64 0, .int .u64 0, .int .u64 0, .int .u64 0] 213)) :=
    hP.below (n := w.heap.size) (by go_grown) hlt
  obtain ⟨g0, g1, g2, g3⟩ := id hPa
  go_enter Tryz.func213, Tryz.ntmps213
  go_wp2_with fail
  refine (diff_any _ _ _ _ num_prime (num_lone 2 (by unfold U; omega)) _).mono ?_
  rintro e w1 ⟨f0, f1, f2, f3, k, z, rfl, hz, hk, ez, hb1⟩
  obtain ⟨e0, e1, e2, e3, rfl, rfl, rfl, rfl, u0, u1, u2, u3, hE⟩ := exp_math hz hk ez
  have hN : Blk w1 w.heap.size a0 a1 a2 a3 := Blk.below (Blk.alloc (Blk.fresh_at _ _ _ _ _ _ _ rfl) _) hb1 (by simp; omega)
  have hR : Blk w1 (w.heap.size + 1) 0 0 0 0 := Blk.below (Blk.fresh_at _ _ _ _ _ _ _ (by simp)) hb1 (by simp)
  have hB1 : Below w.heap.size w w1 := Below.trans (by go_grown) (hb1.mono (by simp; omega))
  have l0 := hN.lt; have l1 := hR.lt
  have HE := Lib.hid hE
  have HU := Lib.hid (And.intro u0 (And.intro u1 (And.intro u2 u3)))
  clear hb1 ez hE g0 g1 g2 g3 hPa hz hk u0 u1 u2 u3
  obtain ⟨⟨x0, x1, x2, x3⟩, ⟨y0, y1, y2, y3⟩⟩ := id hN
  go_wp2_with fail
  refine (power_any _ _ ⟨_, _, _, _, rfl, ha⟩ e0 e1 e2 e3 HU.out.1 HU.out.2.1 HU.out.2.2.1 HU.out.2.2.2 _).mono ?_
  rintro e w2 ⟨c0, c1, c2, c3, y, rfl, hy4, hy, hb2⟩
  rw [HE.out] at hy
  have HY : Hid (y % Pr = x ^ ExpN % Pr) := hy
  have hR2 : Blk w2 (w.heap.size + 1) 0 0 0 0 := (hR.alloc _).below hb2 (by simp; omega)
  have hB2 : Below w.heap.size w w2 := (hB1.alloc (by omega) _).trans (hb2.mono (by simp; omega))
  clear x0 x1 x2 x3 y0 y1 y2 y3 hy hb2 HE
  obtain ⟨⟨x0, x1, x2, x3⟩, ⟨y0, y1, y2, y3⟩⟩ := id hR2
  go_wp2_with fail
  refine bodyPost_ret (v := .agg #[.int .u64 c0, .int .u64 c1, .int .u64 c2, .int .u64 c3]) (by simp [results, Tryz.results213, go_sem, x0, x1, x2, x3]) rfl ⟨c0, c1, c2, c3, _, rfl, hy4, HY.out, ?_⟩
  exact below_set4 hB2 (by omega) _ _ _ _

set_option maxHeartbeats 1000000 in
theorem inv_good (s : ByteArray) (hs : s.size = 32) (w : World) (hP : PrimeAt w) :
    Calls Tryz.prog 193 #[.string s] w (StrOk (leNum s ^ ExpN % Pr) w) := by
  go_enter Tryz.func193, Tryz.ntmps193
  go_wp2_with fail
  refine (read_good s hs _).mono ?_
  rintro e w1 ⟨a, b, c, d, rfl, h4, hb1⟩
  have hlt := hP.lt
  have hs1 := hb1.size
  have hB1 := hb1.alloc hs1 (.cells #[.int .u64 a, .int .u64 b, .int .u64 c, .int .u64 d] 213)
  have hP1 := hP.below hB1 hlt
  have HS := Lib.hid hs
  clear hs hb1
  go_wp2_with fail
  refine (inverse_any _ _ ⟨_, _, _, _, rfl, h4⟩ _ hP1).mono ?_
  rintro e w2 ⟨c0, c1, c2, c3, y, rfl, hy4, hy, hb2⟩
  have HY := Lib.hid hy
  have hB2 := hB1.trans (hb2.mono (by simp; omega))
  have hs2 := hb2.size
  simp at hs2
  clear hy hb2
  go_wp2_with fail
  refine (ltell_any _ _ ⟨_, _, _, _, rfl, hy4⟩ _ (hP.below hB2 hlt)).mono ?_
  rintro e w3 ⟨rfl, hb3⟩
  go_wp2_with fail
  go_ret2
  refine ⟨?_, hB2.trans (hb3.mono (by omega))⟩
  rw [HY.out]
  rfl

end Go.Proofs.YthjlhcmdpeinpaaGreatDoor

/- The contract of the reference's inverse: the power p - 2. -/
namespace Go.Proofs.YthjlhcmdpeinpaaGreatDoor
set_option maxRecDepth 100000
open Go.RowKit
theorem exp_bits : ∀ b : Fin 255, ExpN / 2 ^ b.val % 2 = if b.val = 2 ∨ b.val = 4 then 0 else 1 := by decide +kernel
theorem exp_half (b : Nat) : ExpN / 2 ^ b = 2 * (ExpN / 2 ^ (b + 1)) + ExpN / 2 ^ b % 2 := by
  rw [Nat.pow_succ, ← Nat.div_div_eq_div_mul]; omega
theorem exp_top : ExpN / 2 ^ 255 = 0 := by decide +kernel
theorem pow_dbl (A : Int) (e : Nat) : ((A ^ e % Pr) * (A ^ e % Pr)) % Pr = A ^ (2 * e) % Pr := by
  rw [← Int.mul_emod, ← Int.pow_add, Nat.two_mul]
theorem pow_dbl1 (A : Int) (e : Nat) : ((A ^ (2 * e) % Pr) * A) % Pr = A ^ (2 * e + 1) % Pr := by
  rw [Int.mul_emod, Int.emod_emod, ← Int.mul_emod, ← Int.pow_succ]

def OneRel (w : World) (v : Value) (wr : World) : Prop := ∃ (k g cap : Nat), k ≤ 15 ∧ v = .slice (some ⟨g, 0, none⟩) (k + 1) cap ∧ Ints wr w.heap.size v (1 :: List.replicate k 0) ∧ Below w.heap.size w wr
def InvRel (w : World) (A : Int) (v b : Value) (wr : World) : Prop := ∃ (i : Int) (g cap : Nat) (out : List Int), (-1 ≤ i ∧ i ≤ 254) ∧ b = .int .i64 i ∧ v = .slice (some ⟨g, 0, none⟩) 16 cap ∧ out.length = 16 ∧ Small out ∧ valD out = A ^ (ExpN / 2 ^ (i + 1).toNat) % Pr ∧ Ints wr w.heap.size v out ∧ Below w.heap.size w wr

set_option maxHeartbeats 1000000 in
theorem refInv_any (va : Value) (a : List Int) (hla : a.length = 16) (hsa : Small a) (w : World) (hA : LIntsAt w va a) :
    Calls Tryz.prog 100 #[va] w (RefPost (valD a ^ ExpN % Pr) w) := by
  have HA := Lib.hid hA; have HLA := Lib.hid hla; have HSA := Lib.hid hsa
  obtain ⟨ga, ca, rfl, hga, -⟩ := hA
  clear hsa
  rw [hla] at HA ⊢
  clear hla
  go_enter Tryz.func100, Tryz.ntmps100
  go_wp2_with fail
  go_loopw [3] (OneRel w) (fun v _ => 16 - lenOf v)
  case atStart => exact ⟨0, _, _, by omega, rfl, Ints.lit w _ (Nat.le_refl _) _, by go_grown⟩
  case round =>
    obtain ⟨k, g, cap, hk, rfl, hI, hB⟩ := hrel
    have hsz := hB.size
    by_cases hlt : k < 15
    · have h1 : ((k : Int) + 1 < 16) := by omega
      go_wp2_with (at_builtin; refine append_int rfl _ _ rfl w.heap.size _ (1 :: List.replicate k 0) 0 wr.heap.size rfl ?c0 rfl ?c1 ?c2 ?c3 ?_)
      case c0 => exact hI.alloc _
      case c1 => simp
      case c2 => simp; omega
      case c3 => simp; omega
      intro g' cap' w' hI' hg'
      have hB' := hI.below_grown hB hsz hg'
      clear hI hg' hB
      go_wp2_with fail
      refine ⟨⟨k + 1, g', cap', by omega, by simp, ?_, hB'⟩, by simp [lenOf]; omega⟩
      rw [List.replicate_succ']
      simpa using hI'
    · obtain rfl : k = 15 := by omega
      have hrel0 : InvRel w (valD a) (.slice (some ⟨g, 0, none⟩) 16 cap) (.int .i64 254) wr := by
        refine ⟨254, g, cap, 1 :: List.replicate 15 0, by omega, rfl, rfl, by simp, ?_, ?_, hI, hB⟩
        · intro d hd; simp at hd; omega
        · rw [show ((254 : Int) + 1).toNat = 255 from rfl, exp_top]
          simp only [List.replicate, valD, Int.pow_zero]
          unfold Pr; omega
      have HR := Lib.hid hrel0
      clear hrel0 hI hB
      go_wp2_with fail
      go_loopw [3, 4] (InvRel w (valD a)) (fun _ b _ => (intOf b + 1).toNat)
      case atStart => exact HR.out
      case round =>
        clear HR
        obtain ⟨i, g, cap, out, hi, rfl, rfl, hlen, hsm, hval, hI, hB⟩ := hrel
        obtain ⟨i0, i1⟩ := hi
        have hsz := hB.size
        by_cases h0 : 0 ≤ i
        · obtain ⟨j, rfl⟩ := Int.eq_ofNat_of_zero_le h0
          have hj : j < 255 := by omega
          have hat := hI.at (by rw [hlen]; omega)
          have hm := refMul_any _ _ out out hlen hlen hsm hsm wr hat hat
          rw [show ((j : Int) + 1).toNat = j + 1 by omega] at hval
          rw [hval, pow_dbl] at hm
          have hbit := exp_bits ⟨j, hj⟩
          have hhalf := exp_half j
          have HM := Lib.hid hm
          clear hm hat hI hval hlen hsm
          go_wp2_with fail
          refine HM.out.mono ?_
          rintro e w2 ⟨v2, out2, rfl, l2, s2, e2, hI2, hB2⟩
          have hB2' : Below w.heap.size w w2 := hB.trans (hB2.mono hsz)
          have hsz2 := hB2'.size
          obtain ⟨g2, cap2, rfl, -, -⟩ := World.ownsRow.form hI2 (by omega)
          have hI2' : Ints w2 w.heap.size (.slice (some ⟨g2, 0, none⟩) 16 cap2) out2 := by
            have := World.ownsRow.mono hI2 hsz
            unfold Ints; rw [l2] at this ⊢; exact this
          have HI2 := Lib.hid hI2'
          rw [l2]
          clear HM hB hB2 hI2 hI2'
          by_cases hsp : j = 2 ∨ j = 4
          · have hb2 : ExpN / 2 ^ j % 2 = 0 := by rw [hbit, if_pos hsp]
            have HE : Hid (ExpN / 2 ^ j = 2 * (ExpN / 2 ^ (j + 1))) := by show _ = _; omega
            have q1 : (((j : Int) != 2) && ((j : Int) != 4)) = false := by rcases hsp with rfl | rfl <;> rfl
            clear hbit hhalf hb2
            have HV := Lib.hid e2
            clear e2
            rcases hsp with rfl | rfl
            · go_wp2_with fail
              have hr : InvRel w (valD a) (.slice (some ⟨g2, 0, none⟩) 16 cap2) (.int .i64 1) w2 := by
                refine ⟨1, g2, cap2, out2, by omega, rfl, rfl, l2, s2, ?_, HI2.out, hB2'⟩
                rw [HV.out, ← HE.out]; rfl
              go_roundw
              case rel => first | exact hr | ((repeat apply Exists.intro); exact ⟨hr, rfl⟩)
              case measure => simp [intOf]
            · go_wp2_with fail
              have hr : InvRel w (valD a) (.slice (some ⟨g2, 0, none⟩) 16 cap2) (.int .i64 3) w2 := by
                refine ⟨3, g2, cap2, out2, by omega, rfl, rfl, l2, s2, ?_, HI2.out, hB2'⟩
                rw [HV.out, ← HE.out]; rfl
              go_roundw
              case rel => first | exact hr | ((repeat apply Exists.intro); exact ⟨hr, rfl⟩)
              case measure => simp [intOf]
          · have hb2 : ExpN / 2 ^ j % 2 = 1 := by rw [hbit, if_neg hsp]
            have HE : Hid (ExpN / 2 ^ j = 2 * (ExpN / 2 ^ (j + 1)) + 1) := by show _ = _; omega
            have q1 : ((j : Int) != 2) = true := by rw [bne_iff_ne]; omega
            have q2 : ((j : Int) != 4) = true := by rw [bne_iff_ne]; omega
            have q3 : ((j : Int) == 2) = false := by rw [beq_eq_false_iff_ne]; omega
            have q4 : ((j : Int) == 4) = false := by rw [beq_eq_false_iff_ne]; omega
            have hm := refMul_any _ _ out2 a l2 HLA.out s2 HSA.out w2 (HI2.out.at (by rw [l2]; omega)) (HA.out.below hB2' (Nat.le_refl _))
            rw [e2, pow_dbl1, ← HE.out] at hm
            have HM := Lib.hid hm
            clear hbit hhalf hb2 hm e2 hsp
            go_wp2_with fail
            refine HM.out.mono ?_
            rintro e w3 ⟨v3, out3, rfl, l3, s3, e3, hI3, hB3⟩
            have hB3' : Below w.heap.size w w3 := hB2'.trans (hB3.mono hsz2)
            obtain ⟨g3, cap3, rfl, -, -⟩ := World.ownsRow.form hI3 (by omega)
            have hI3' : Ints w3 w.heap.size (.slice (some ⟨g3, 0, none⟩) 16 cap3) out3 := by
              have := World.ownsRow.mono hI3 hsz2
              unfold Ints; rw [l3] at this ⊢; exact this
            have HI3 := Lib.hid hI3'; have HV3 := Lib.hid e3
            rw [l3]
            clear hI3 hI3' hB3 e3
            go_wp2_with fail
            have hr : InvRel w (valD a) (.slice (some ⟨g3, 0, none⟩) 16 cap3) (.int .i64 ((j : Int) - 1)) w3 := by
              refine ⟨(j : Int) - 1, g3, cap3, out3, by omega, rfl, rfl, l3, s3, ?_, HI3.out, hB3'⟩
              rw [HV3.out, show ((j : Int) - 1 + 1).toNat = j by omega]
            go_roundw
            case rel => first | exact hr | ((repeat apply Exists.intro); exact ⟨hr, rfl⟩)
            case measure => simp [intOf]
        · obtain rfl : i = -1 := by omega
          have hv : valD out = valD a ^ ExpN % Pr := by rw [hval]; simp
          have HV := Lib.hid hv
          clear hval hv
          go_wp2_with fail
          go_ret
          exact ⟨_, out, rfl, hlen, hsm, HV.out, hI, hB⟩
end Go.Proofs.YthjlhcmdpeinpaaGreatDoor
