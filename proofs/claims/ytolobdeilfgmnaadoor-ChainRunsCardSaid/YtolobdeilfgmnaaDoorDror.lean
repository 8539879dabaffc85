/- The contracts of digest's smallest: ror, wordOf. -/
import Derived.Test.YtolobdeilfgmnaaDoorRows
import Derived.Test.YtolobdeilfgmnaaDoorDspec
import Derived.Test.YtolobdeilfgmnaaDoorKa
import Derived.Deep.RegionWith
import Derived.Deep.QuietTactic
import Derived.BigQuiet
import Derived.Outline
namespace Go.Proofs.YtolobdeilfgmnaaDoor
open Go.RowKit
theorem and31 (n m : Nat) (h0 : 0 < n) (h1 : n + m = 32) : bits .and .u64 (IntKind.u64.wrap (-(n : Int))) 31 = (m : Int) := by
  have e : IntKind.u64.wrap (-(n : Int)) = ((18446744073709551616 - n : Nat) : Int) := by
    rw [IntKind.wrap_u64]; omega
  rw [e]
  show IntKind.u64.wrap (((BitVec.ofInt 64 ((18446744073709551616 - n : Nat) : Int) &&& BitVec.ofInt 64 ((31 : Nat) : Int)).toNat : Nat) : Int) = _
  rw [BitVec.toNat_and, BitVec.ofInt_natCast, BitVec.ofInt_natCast, BitVec.toNat_ofNat, BitVec.toNat_ofNat]
  rw [Nat.mod_eq_of_lt (a := 18446744073709551616 - n) (by omega), Nat.mod_eq_of_lt (a := 31) (by omega)]
  rw [show (18446744073709551616 - n) &&& 31 = (18446744073709551616 - n) % 32 from Nat.and_two_pow_sub_one_eq_mod _ 5]
  rw [IntKind.wrap_u64]
  omega

set_option maxRecDepth 100000 in
set_option maxHeartbeats 400000 in
theorem rotl_any (x : BitVec 32) (n : Nat) (h0 : 0 < n) (h1 : n < 32) (w : World) :
    Calls Tryd.prog 66 #[.int .u32 (x.toNat : Int), .int .i64 (-(n : Int))] w fun e w' => e = .returned (.int .u32 ((rr x n).toNat : Int)) ∧ w = w' := by
  obtain ⟨m, hm⟩ : ∃ m, n + m = 32 := ⟨32 - n, by omega⟩
  have hK := and31 n m h0 hm
  have es : ((32 : Int) - (m : Int)).toNat = n := by omega
  have hm1 : (m : Int) < 32 := by omega
  have hm0 : (0 : Int) < (m : Int) := by omega
  have e1 := shl32 x m
  have e2 := shr32 x n
  have e3 := bits_or32 (x <<< m) (x >>> n)
  have er : ((rr x n).toNat : Int) = ((x <<< m ||| x >>> n).toNat : Int) := by
    unfold rr
    rw [BitVec.or_comm, show 32 - n = m by omega]
  rw [er]
  clear er
  generalize x <<< m = s at e1 e3 ⊢
  generalize x >>> n = t at e2 e3 ⊢
  generalize s ||| t = r at e3 ⊢
  go_enter Tryd.func66, Tryd.ntmps66
  go_wp2
  go_ret
  exact ⟨rfl, rfl⟩

set_option maxRecDepth 100000 in
set_option maxHeartbeats 400000 in
theorem ror_any (x : BitVec 32) (n : Nat) (h0 : 0 < n) (h1 : n < 32) (w : World) :
    Calls Tryd.prog 64 #[.int .u32 (x.toNat : Int), .int .i64 (n : Int)] w fun e w' => e = .returned (.int .u32 ((rr x n).toNat : Int)) ∧ w = w' := by
  have H := Lib.hid (rotl_any x n h0 h1)
  generalize rr x n = r at H ⊢
  go_enter Tryd.func64, Tryd.ntmps64
  go_wp2_with fail
  refine (H.out _).mono ?_
  rintro e w' ⟨rfl, rfl⟩
  go_wp2_with fail
  go_ret
  exact ⟨rfl, rfl⟩


theorem word4_or (a b c d : UInt8) : bits .or .u32 (bits .or .u32 (bits .or .u32 ((a.toNat : Int) * 16777216) ((b.toNat : Int) * 65536)) ((c.toNat : Int) * 256)) (d.toNat : Int) = ((word4 a b c d).toNat : Int) := by
  have ha := a.toNat_lt
  have hb := b.toNat_lt
  have hc := c.toNat_lt
  have hd := d.toNat_lt
  have e1 : bits .or .u32 ((a.toNat : Int) * 16777216) ((b.toNat : Int) * 65536) = (((a.toNat * 256 + b.toNat) * 65536 : Nat) : Int) := by
    have := bits_or_nat (a.toNat * 16777216) (b.toNat * 65536) (by omega) (by omega)
    rw [show ((a.toNat * 16777216 : Nat) : Int) = (a.toNat : Int) * 16777216 by omega, show ((b.toNat * 65536 : Nat) : Int) = (b.toNat : Int) * 65536 by omega] at this
    rw [this]
    have h := or_sum a.toNat (b.toNat * 65536) 24 (by omega)
    rw [show (2 : Nat) ^ 24 = 16777216 from rfl] at h
    rw [h]
    exact congrArg Nat.cast (by omega)
  have e2 : bits .or .u32 (((a.toNat * 256 + b.toNat) * 65536 : Nat) : Int) ((c.toNat : Int) * 256) = (((a.toNat * 65536 + b.toNat * 256 + c.toNat) * 256 : Nat) : Int) := by
    have := bits_or_nat ((a.toNat * 256 + b.toNat) * 65536) (c.toNat * 256) (by omega) (by omega)
    rw [show ((c.toNat * 256 : Nat) : Int) = (c.toNat : Int) * 256 by omega] at this
    rw [this]
    have h := or_sum (a.toNat * 256 + b.toNat) (c.toNat * 256) 16 (by omega)
    rw [show (2 : Nat) ^ 16 = 65536 from rfl] at h
    rw [h]
    exact congrArg Nat.cast (by omega)
  have e3 : bits .or .u32 (((a.toNat * 65536 + b.toNat * 256 + c.toNat) * 256 : Nat) : Int) (d.toNat : Int) = ((word4 a b c d).toNat : Int) := by
    rw [bits_or_nat _ _ (by omega) (by omega)]
    have h := or_sum (a.toNat * 65536 + b.toNat * 256 + c.toNat) d.toNat 8 (by omega)
    rw [show (2 : Nat) ^ 8 = 256 from rfl] at h
    rw [h]
    unfold word4
    rw [BitVec.toNat_ofNat, Nat.mod_eq_of_lt (by omega)]
    exact congrArg Nat.cast (by omega)
  rw [e1, e2, e3]

set_option maxRecDepth 100000 in
set_option maxHeartbeats 400000 in
theorem wordOf_any (s : ByteArray) (h : s.size = 4) (w : World) :
    Calls Tryd.prog 65 #[.string s] w fun e w' => e = .returned (.int .u32 ((word4 s[0] s[1] s[2] s[3]).toNat : Int)) ∧ ∃ n, w' = w.drewN n := by
  have b1 : (0 : Int) < (s.size : Int) := by omega
  have b2 : (1 : Int) < (s.size : Int) := by omega
  have b3 : (2 : Int) < (s.size : Int) := by omega
  have b4 : (3 : Int) < (s.size : Int) := by omega
  have c1 := s[0].toNat_lt
  have c2 := s[1].toNat_lt
  have c3 := s[2].toNat_lt
  have c4 := s[3].toNat_lt
  have g0 : s[0]? = some s[0] := by simp
  go_enter Tryd.func65, Tryd.ntmps65
  go_wp2
  go_quiet (fail)
  go_wp2
  go_ret
  exact ⟨ret_u32 (word4_or _ _ _ _), _, rfl⟩
end Go.Proofs.YtolobdeilfgmnaaDoor