/- The reference's Crc. -/
import Derived.Test.YtimijdmigdlhfaaUb
import Derived.Test.YtimijdmigdlhfaaKb
namespace Go.Proofs.Ytimijdmigdlhfaa
open Go.RowKit
set_option maxRecDepth 100000
theorem odd_dec (x : BitVec 32) : ((x.toNat : Int) % 2 == 1) = decide (x.toNat % 2 = 1) := by
  rcases Nat.mod_two_eq_zero_or_one x.toNat with h | h
  · rw [h, show (x.toNat : Int) % 2 = 0 by omega]; rfl
  · rw [h, show (x.toNat : Int) % 2 = 1 by omega]; rfl
set_option maxHeartbeats 2000000 in
theorem rCrc_any (s : ByteArray) (hs : s.size ≤ maxLen) (w : World) :
    Calls Try.prog 12 #[.string s] w fun e w' => e = .returned (.int .u32 ((crc (bl s)).toNat : Int)) ∧ w = w' := by
  have HS := Lib.hid hs
  clear hs
  go_enter Try.func12, Try.ntmps12
  go_wp2_with fail
  go_loopw [3, 4] (CrRel w (bl s)) (fun _ i _ => s.size - (intOf i).toNat)
  case atStart => exact ⟨0, Nat.zero_le _, rfl, rfl, rfl⟩
  case round =>
    obtain ⟨k, hk, rfl, rfl, rfl⟩ := hrel
    rw [bl_length] at hk
    by_cases hlt : k < s.size
    · have h1 : (k : Int) < (s.size : Int) := by omega
      have h1k : (k : Int) < 9223372036854775807 := by have := HS.out; unfold maxLen at this; omega
      have hix := str_index s (k : Int) k rfl hlt
      have hst := take_byte (bl s) k hlt
      obtain ⟨x, ex⟩ : ∃ x, (bl s).getD k 0 = x := ⟨_, rfl⟩
      have hbx : s[k] = x := by rw [← bl_get s k hlt, ex]
      simp only [hbx] at hix
      rw [ex] at hst
      obtain ⟨y, ey⟩ : ∃ y, crcL ((bl s).take k) = y := ⟨_, rfl⟩
      have hnx : crcL ((bl s).take (k + 1)) = crcN 8 (y ^^^ byte32 x) := by rw [hst, crcL_snoc, ey]; rfl
      rw [ey]
      have hx32 := wrap_byte32 x
      have hxor := bits_xor32 y (byte32 x)
      obtain ⟨z, ez⟩ : ∃ z, y ^^^ byte32 x = z := ⟨_, rfl⟩
      rw [ez] at hnx hxor
      have HNX := Lib.hid hnx
      clear hnx hst ex ey ez hbx
      generalize byte32 x = xb at hx32 hxor
      go_wp2_with fail
      clear hx32 hxor hix
      go_loopw [3, 5] (CrIn wr z) (fun _ i _ => 8 - (intOf i).toNat)
      case atStart => exact ⟨0, Nat.zero_le _, rfl, rfl, rfl⟩
      case round =>
        obtain ⟨j, hj, rfl, rfl, rfl⟩ := hrel
        by_cases hj8 : j < 8
        · have h2 : (j : Int) < 8 := by omega
          have ha := odd_dec (crcN j z)
          have hsh := shr_one (crcN j z)
          have hn : crcN (j + 1) z = crc1 (crcN j z) := rfl
          rcases Nat.mod_two_eq_zero_or_one (crcN j z).toNat with h0 | h0
          · rw [crc1_even _ h0] at hn
            rw [h0] at ha
            have hai : ((crcN j z).toNat : Int) % 2 = 0 := by omega
            rw [← hn] at hsh
            have HH := Lib.hid hj8
            clear hn h0 ha
            generalize crcN j z = u at hai hsh ⊢
            generalize hv : crcN (j + 1) z = v at hsh
            have HV := Lib.hid hv
            clear hv
            go_wp2_with fail
            exact ⟨⟨j + 1, HH.out, by simp, by rw [HV.out], rfl⟩, by simp [intOf]; have := HH.out; omega⟩
          · rw [crc1_odd _ h0] at hn
            have hai : ((crcN j z).toNat : Int) % 2 = 1 := by omega
            have hxz := xor_poly (crcN j z >>> 1)
            rw [← hn] at hxz
            have HH := Lib.hid hj8
            clear hn h0 ha
            generalize crcN j z >>> 1 = t at hsh hxz
            generalize crcN j z = u at hai hsh ⊢
            generalize hv : crcN (j + 1) z = v at hxz
            have HV := Lib.hid hv
            clear hv
            go_wp2_with fail
            exact ⟨⟨j + 1, HH.out, by simp, by rw [HV.out], rfl⟩, by simp [intOf]; have := HH.out; omega⟩
        · obtain rfl : j = 8 := by omega
          rw [← HNX.out]
          go_wp2_with fail
          exact ⟨⟨k + 1, by rw [bl_length]; omega, by simp, rfl, rfl⟩, by simp [intOf]; omega⟩
    · obtain rfl : k = s.size := by omega
      have hn : ¬ (s.size : Int) < (s.size : Int) := by omega
      rw [List.take_of_length_le (Nat.le_of_eq (bl_length s))]
      have hx := sub_ones (crcL (bl s))
      have HC := Lib.hid (show ~~~ crcL (bl s) = crc (bl s) from rfl)
      generalize hq : ~~~ crcL (bl s) = q at hx HC
      clear hq
      go_wp2_with fail
      go_ret
      rw [← HC.out]
      exact ⟨rfl, rfl⟩
/-- the law's own alive -/
theorem alive9_any (w : World) :
    Calls Try.prog 13 #[] w fun e w' => e = .returned (.bool true) ∧ Below w.heap.size w w' := by
  have h := Crc_any ⟨#[49, 50, 51, 52, 53, 54, 55, 56, 57]⟩ (by unfold maxLen; decide) w
  rw [show bl ⟨#[49, 50, 51, 52, 53, 54, 55, 56, 57]⟩ = [49, 50, 51, 52, 53, 54, 55, 56, 57] from rfl, crc_alive] at h
  have HC := Lib.hid h
  clear h
  go_enter Try.func13, Try.ntmps13
  go_wp2_with fail
  refine HC.out.mono ?_
  rintro e w1 ⟨rfl, hb⟩
  have HB := Lib.hid hb
  clear hb
  go_wp2_with fail
  go_ret
  exact ⟨rfl, HB.out⟩
end Go.Proofs.Ytimijdmigdlhfaa