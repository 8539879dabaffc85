/- The contract of the reference's inverse: the power p - 2. -/
import Derived.Test.YtccjhlipcgpkmaaDoorRefn
import Derived.Test.YtccjhlipcgpkmaaDoorPow
namespace Go.Proofs.YtccjhlipcgpkmaaDoor
open Go.RowKit

theorem exp_bits : ∀ b : Fin 255, ExpN / 2 ^ b.val % 2 = if b.val = 2 ∨ b.val = 4 then 0 else 1 := by decide +kernel
theorem exp_half (b : Nat) : ExpN / 2 ^ b = 2 * (ExpN / 2 ^ (b + 1)) + ExpN / 2 ^ b % 2 := by
  rw [Nat.pow_succ, ← Nat.div_div_eq_div_mul]; omega
theorem exp_top : ExpN / 2 ^ 255 = 0 := by decide +kernel
theorem pow_dbl (A : Int) (e : Nat) : ((A ^ e % Pr) * (A ^ e % Pr)) % Pr = A ^ (2 * e) % Pr := by
  rw [← Int.mul_emod, ← Int.pow_add, Nat.two_mul]
theorem pow_dbl1 (A : Int) (e : Nat) : ((A ^ (2 * e) % Pr) * A) % Pr = A ^ (2 * e + 1) % Pr := by
  rw [Int.mul_emod, Int.emod_emod, ← Int.mul_emod, ← Int.pow_succ]

def OneRel (w : World) (v : Value) (wr : World) : Prop := ∃ (k g cap : Nat), k ≤ 15 ∧ v = .slice (some ⟨g, 0, none⟩) (k + 1) cap ∧ Ints wr w.heap.size v (1 :: List.replicate k 0) ∧ Below w.heap.size w wr
def InvRel (w : World) (A : Int) (v b : Value) (wr : World) : Prop := ∃ (i : Int) (g cap : Nat) (out : List Int), (-1 ≤ i ∧ i ≤ 254) ∧ b = .int .i64 i ∧ v = .slice (some ⟨g, 0, none⟩) 16 cap ∧ out.length = 16 ∧ Small out ∧ valD out = A ^ (ExpN / 2 ^ (i + 1).toNat) % Pr ∧ Ints wr w.heap.size v out ∧ Below w.heap.size w wr

set_option maxHeartbeats 1000000 in
theorem refInv_any (va : Value) (a : List Int) (hla : a.length = 16) (hsa : Small a) (w : World) (hA : IntsAt w va a) :
    Calls Tryd.prog 23 #[va] w (RefPost (valD a ^ ExpN % Pr) w) := by
  have HA := Lib.hid hA; have HLA := Lib.hid hla; have HSA := Lib.hid hsa
  obtain ⟨ga, ca, rfl, hga, -⟩ := hA
  clear hsa
  rw [hla] at HA ⊢
  clear hla
  go_enter Tryd.func23, Tryd.ntmps23
  go_wp2_with fail
  go_loopw [3] (OneRel w) (fun v _ => 16 - lenOf v)
  case atStart => exact ⟨0, _, _, by omega, rfl, Ints.lit w _ (Nat.le_refl _) _, by go_grown⟩
  case round =>
    obtain ⟨k, g, cap, hk, rfl, hI, hB⟩ := hrel
    have hsz := hB.size
    by_cases hlt : k < 15
    · have h1 : ((k : Int) + 1 < 16) := by omega
      go_wp2_with (at_builtin; refine append_int rfl _ _ rfl w.heap.size _ (1 :: List.replicate k 0) 0 wr.heap.size rfl ?c0 rfl ?c1 ?c2 ?c3 ?_)
      case c0 => exact hI.alloc _
      case c1 => simp
      case c2 => simp; omega
      case c3 => simp; omega
      intro g' cap' w' hI' hg'
      have hB' := hI.below_grown hB hsz hg'
      clear hI hg' hB
      go_wp2_with fail
      refine ⟨⟨k + 1, g', cap', by omega, by simp, ?_, hB'⟩, by simp [lenOf]; omega⟩
      rw [List.replicate_succ']
      simpa using hI'
    · obtain rfl : k = 15 := by omega
      have hrel0 : InvRel w (valD a) (.slice (some ⟨g, 0, none⟩) 16 cap) (.int .i64 254) wr := by
        refine ⟨254, g, cap, 1 :: List.replicate 15 0, by omega, rfl, rfl, by simp, ?_, ?_, hI, hB⟩
        · intro d hd; simp at hd; omega
        · rw [show ((254 : Int) + 1).toNat = 255 from rfl, exp_top]
          simp only [List.replicate, valD, Int.pow_zero]
          unfold Pr; omega
      have HR := Lib.hid hrel0
      clear hrel0 hI hB
      go_wp2_with fail
      go_loopw [3, 4] (InvRel w (valD a)) (fun _ b _ => (intOf b + 1).toNat)
      case atStart => exact HR.out
      case round =>
        clear HR
        obtain ⟨i, g, cap, out, hi, rfl, rfl, hlen, hsm, hval, hI, hB⟩ := hrel
        obtain ⟨i0, i1⟩ := hi
        have hsz := hB.size
        by_cases h0 : 0 ≤ i
        · obtain ⟨j, rfl⟩ := Int.eq_ofNat_of_zero_le h0
          have hj : j < 255 := by omega
          have hat := hI.at (by rw [hlen]; omega)
          have hm := refMul_any _ _ out out hlen hlen hsm hsm wr hat hat
          rw [show ((j : Int) + 1).toNat = j + 1 by omega] at hval
          rw [hval, pow_dbl] at hm
          have hbit := exp_bits ⟨j, hj⟩
          have hhalf := exp_half j
          have HM := Lib.hid hm
          clear hm hat hI hval hlen hsm
          go_wp2_with fail
          refine HM.out.mono ?_
          rintro e w2 ⟨v2, out2, rfl, l2, s2, e2, hI2, hB2⟩
          have hB2' : Below w.heap.size w w2 := hB.trans (hB2.mono hsz)
          have hsz2 := hB2'.size
          obtain ⟨g2, cap2, rfl, -, -⟩ := World.ownsRow.form hI2 (by omega)
          have hI2' : Ints w2 w.heap.size (.slice (some ⟨g2, 0, none⟩) 16 cap2) out2 := by
            have := World.ownsRow.mono hI2 hsz
            unfold Ints; rw [l2] at this ⊢; exact this
          have HI2 := Lib.hid hI2'
          rw [l2]
          clear HM hB hB2 hI2 hI2'
          by_cases hsp : j = 2 ∨ j = 4
          · have hb2 : ExpN / 2 ^ j % 2 = 0 := by rw [hbit, if_pos hsp]
            have HE : Hid (ExpN / 2 ^ j = 2 * (ExpN / 2 ^ (j + 1))) := by show _ = _; omega
            have q1 : (((j : Int) != 2) && ((j : Int) != 4)) = false := by rcases hsp with rfl | rfl <;> rfl
            clear hbit hhalf hb2
            have HV := Lib.hid e2
            clear e2
            rcases hsp with rfl | rfl
            · go_wp2_with fail
              have hr : InvRel w (valD a) (.slice (some ⟨g2, 0, none⟩) 16 cap2) (.int .i64 1) w2 := by
                refine ⟨1, g2, cap2, out2, by omega, rfl, rfl, l2, s2, ?_, HI2.out, hB2'⟩
                rw [HV.out, ← HE.out]; rfl
              go_roundw
              case rel => first | exact hr | ((repeat apply Exists.intro); exact ⟨hr, rfl⟩)
              case measure => simp [intOf]
            · go_wp2_with fail
              have hr : InvRel w (valD a) (.slice (some ⟨g2, 0, none⟩) 16 cap2) (.int .i64 3) w2 := by
                refine ⟨3, g2, cap2, out2, by omega, rfl, rfl, l2, s2, ?_, HI2.out, hB2'⟩
                rw [HV.out, ← HE.out]; rfl
              go_roundw
              case rel => first | exact hr | ((repeat apply Exists.intro); exact ⟨hr, rfl⟩)
              case measure => simp [intOf]
          · have hb2 : ExpN / 2 ^ j % 2 = 1 := by rw [hbit, if_neg hsp]
            have HE : Hid (ExpN / 2 ^ j = 2 * (ExpN / 2 ^ (j + 1)) + 1) := by show _ = _; omega
            have q1 : ((j : Int) != 2) = true := by rw [bne_iff_ne]; omega
            have q2 : ((j : Int) != 4) = true := by rw [bne_iff_ne]; omega
            have q3 : ((j : Int) == 2) = false := by rw [beq_eq_false_iff_ne]; omega
            have q4 : ((j : Int) == 4) = false := by rw [beq_eq_false_iff_ne]; omega
            have hm := refMul_any _ _ out2 a l2 HLA.out s2 HSA.out w2 (HI2.out.at (by rw [l2]; omega)) (HA.out.below hB2' (Nat.le_refl _))
            rw [e2, pow_dbl1, ← HE.out] at hm
            have HM := Lib.hid hm
            clear hbit hhalf hb2 hm e2 hsp
            go_wp2_with fail
            refine HM.out.mono ?_
            rintro e w3 ⟨v3, out3, rfl, l3, s3, e3, hI3, hB3⟩
            have hB3' : Below w.heap.size w w3 := hB2'.trans (hB3.mono hsz2)
            obtain ⟨g3, cap3, rfl, -, -⟩ := World.ownsRow.form hI3 (by omega)
            have hI3' : Ints w3 w.heap.size (.slice (some ⟨g3, 0, none⟩) 16 cap3) out3 := by
              have := World.ownsRow.mono hI3 hsz2
              unfold Ints; rw [l3] at this ⊢; exact this
            have HI3 := Lib.hid hI3'; have HV3 := Lib.hid e3
            rw [l3]
            clear hI3 hI3' hB3 e3
            go_wp2_with fail
            have hr : InvRel w (valD a) (.slice (some ⟨g3, 0, none⟩) 16 cap3) (.int .i64 ((j : Int) - 1)) w3 := by
              refine ⟨(j : Int) - 1, g3, cap3, out3, by omega, rfl, rfl, l3, s3, ?_, HI3.out, hB3'⟩
              rw [HV3.out, show ((j : Int) - 1 + 1).toNat = j by omega]
            go_roundw
            case rel => first | exact hr | ((repeat apply Exists.intro); exact ⟨hr, rfl⟩)
            case measure => simp [intOf]
        · obtain rfl : i = -1 := by omega
          have hv : valD out = valD a ^ ExpN % Pr := by rw [hval]; simp
          have HV := Lib.hid hv
          clear hval hv
          go_wp2_with fail
          go_ret
          exact ⟨_, out, rfl, hlen, hsm, HV.out, hI, hB⟩
end Go.Proofs.YtccjhlipcgpkmaaDoor
