/- The package's Crc. -/
import Derived.Test.YtimijdmigdlhfaaUa
import Derived.Test.YtimijdmigdlhfaaOh0
namespace Go.Proofs.Ytimijdmigdlhfaa
open Go.RowKit
set_option maxRecDepth 100000
theorem toNat_byte32 (b : UInt8) : (byte32 b).toNat = b.toNat := by
  unfold byte32
  have := b.toNat_lt
  rw [BitVec.toNat_ofNat]; omega
theorem wrap_byte32 (b : UInt8) : IntKind.u32.wrap (b.toNat : Int) = ((byte32 b).toNat : Int) := by
  rw [wrap32_nat, toNat_byte32]
  have := b.toNat_lt
  omega
theorem and_one (x : BitVec 32) : bits .and .u32 (x.toNat : Int) 1 = ((x.toNat % 2 : Nat) : Int) := by
  have e : (1 : Int) = ((1#32).toNat : Int) := rfl
  rw [e, bits_and32]
  congr 1
  rw [BitVec.toNat_and]
  exact Nat.and_one_is_mod _
theorem shr_one (x : BitVec 32) : (x.toNat : Int) / (2 : Int) = ((x >>> 1).toNat : Int) := by
  rw [BitVec.toNat_ushiftRight, Nat.shiftRight_eq_div_pow]; omega
theorem xor_poly (x : BitVec 32) : bits .xor .u32 (x.toNat : Int) 3988292384 = ((x ^^^ crcPoly).toNat : Int) := by
  have e : (3988292384 : Int) = (crcPoly.toNat : Int) := rfl
  rw [e, bits_xor32]
theorem xor_zero (x : BitVec 32) : bits .xor .u32 (x.toNat : Int) 0 = (x.toNat : Int) := by
  have e : (0 : Int) = ((0#32).toNat : Int) := rfl
  rw [e, bits_xor32, BitVec.xor_zero]
theorem crc1_odd (x : BitVec 32) (h : x.toNat % 2 = 1) : crc1 x = (x >>> 1) ^^^ crcPoly := by unfold crc1; rw [if_pos h]
theorem crc1_even (x : BitVec 32) (h : x.toNat % 2 = 0) : crc1 x = x >>> 1 := by unfold crc1; rw [if_neg (by omega)]
def CrRel (W : World) (l : List UInt8) (c i : Value) (wr : World) : Prop :=
  ∃ k : Nat, k ≤ l.length ∧ i = .int .i64 (k : Int) ∧ c = .int .u32 ((crcL (l.take k)).toNat : Int) ∧ wr = W
def CrIn (W : World) (x : BitVec 32) (c i : Value) (wr : World) : Prop :=
  ∃ k : Nat, k ≤ 8 ∧ i = .int .i64 (k : Int) ∧ c = .int .u32 ((crcN k x).toNat : Int) ∧ wr = W
theorem take_byte (l : List UInt8) (k : Nat) (h : k < l.length) : l.take (k + 1) = l.take k ++ [l.getD k 0] := by
  rw [List.take_succ_eq_append_getElem h]; simp [List.getD, h]
set_option maxHeartbeats 2000000 in
theorem Crc_any (s : ByteArray) (hs : s.size ≤ maxLen) (w : World) :
    Calls Try.prog 11 #[.string s] w fun e w' => e = .returned (.int .u32 ((crc (bl s)).toNat : Int)) ∧ Below w.heap.size w w' := by
  obtain ⟨c1, W, hrun, hwy, hwb, -⟩ := made_of s w
  have HBY := Lib.hid hwy; have HB := Lib.hid hwb; have HS := Lib.hid hs
  clear hwy hwb hs
  go_enter Try.func11, Try.ntmps11
  go_wp2_with fail
  clear hrun
  go_loopw [3, 10] (CrRel W (bl s)) (fun _ i _ => s.size - (intOf i).toNat)
  case atStart => exact ⟨0, Nat.zero_le _, rfl, rfl, rfl⟩
  case round =>
    obtain ⟨k, hk, rfl, rfl, rfl⟩ := hrel
    rw [bl_length] at hk
    by_cases hlt : k < s.size
    · have h1 : (k : Int) < (s.size : Int) := by omega
      have h1k : (k : Int) < 9223372036854775807 := by have := HS.out; unfold maxLen at this; omega
      have hcell := HBY.out.cell k hlt
      have hst := take_byte (bl s) k hlt
      obtain ⟨x, ex⟩ : ∃ x, (bl s).getD k 0 = x := ⟨_, rfl⟩
      rw [ex] at hcell hst
      obtain ⟨y, ey⟩ : ∃ y, crcL ((bl s).take k) = y := ⟨_, rfl⟩
      have hnx : crcL ((bl s).take (k + 1)) = crcN 8 (y ^^^ byte32 x) := by rw [hst, crcL_snoc, ey]; rfl
      rw [ey]
      have hx32 := wrap_byte32 x
      have hxor := bits_xor32 y (byte32 x)
      obtain ⟨z, ez⟩ : ∃ z, y ^^^ byte32 x = z := ⟨_, rfl⟩
      rw [ez] at hnx hxor
      have HNX := Lib.hid hnx
      clear hnx hst ex ey ez
      generalize byte32 x = xb at hx32 hxor
      go_wp2_with fail
      clear hx32 hxor hcell
      go_loopw [3, 18] (CrIn wr z) (fun _ i _ => 8 - (intOf i).toNat)
      case atStart => exact ⟨0, Nat.zero_le _, rfl, rfl, rfl⟩
      case round =>
        obtain ⟨j, hj, rfl, rfl, rfl⟩ := hrel
        by_cases hj8 : j < 8
        · have h2 : (j : Int) < 8 := by omega
          have ha := and_one (crcN j z)
          have hsh := shr_one (crcN j z)
          have hn : crcN (j + 1) z = crc1 (crcN j z) := rfl
          rcases Nat.mod_two_eq_zero_or_one (crcN j z).toNat with h0 | h0
          · rw [crc1_even _ h0] at hn
            rw [h0] at ha
            have hxz := xor_zero (crcN j z >>> 1)
            rw [← hn] at hsh hxz
            have HH := Lib.hid hj8
            clear hn h0
            generalize crcN j z = u at ha hsh ⊢
            generalize hv : crcN (j + 1) z = v at hsh hxz
            have HV := Lib.hid hv
            clear hv
            go_wp2_with fail
            exact ⟨⟨j + 1, HH.out, by simp, by rw [HV.out], rfl⟩, by simp [intOf]; have := HH.out; omega⟩
          · rw [crc1_odd _ h0] at hn
            rw [h0] at ha
            have hxz := xor_poly (crcN j z >>> 1)
            rw [← hn] at hxz
            have HH := Lib.hid hj8
            clear hn h0
            generalize crcN j z >>> 1 = t at hsh hxz
            generalize crcN j z = u at ha hsh ⊢
            generalize hv : crcN (j + 1) z = v at hxz
            have HV := Lib.hid hv
            clear hv
            go_wp2_with fail
            exact ⟨⟨j + 1, HH.out, by simp, by rw [HV.out], rfl⟩, by simp [intOf]; have := HH.out; omega⟩
        · obtain rfl : j = 8 := by omega
          rw [← HNX.out]
          go_wp2_with fail
          exact ⟨⟨k + 1, by rw [bl_length]; omega, by simp, rfl, rfl⟩, by simp [intOf]; omega⟩
    · obtain rfl : k = s.size := by omega
      have hn : ¬ (s.size : Int) < (s.size : Int) := by omega
      rw [List.take_of_length_le (Nat.le_of_eq (bl_length s))]
      have hx := not32 (crcL (bl s))
      have HC := Lib.hid (show ~~~ crcL (bl s) = crc (bl s) from rfl)
      generalize hq : ~~~ crcL (bl s) = q at hx HC
      clear hq
      go_wp2_with fail
      go_ret
      rw [← HC.out]
      exact ⟨rfl, HB.out⟩
end Go.Proofs.Ytimijdmigdlhfaa