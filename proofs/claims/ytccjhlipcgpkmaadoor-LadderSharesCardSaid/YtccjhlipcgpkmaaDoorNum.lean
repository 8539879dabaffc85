/- Plain mathematics of four words of 64 bits: what sums, differences and choices of them come to. Nothing of the program stands here. -/
import Derived.WalkKit
import Derived.ProofKit
import Derived.Handy
import Derived.Lib.Hide
import Derived.Lib.Mul64
namespace Go.Proofs.YtccjhlipcgpkmaaDoor
open Go.RowKit

/-- a word of 64 bits -/
def U (n : Int) : Prop := 0 ≤ n ∧ n < 18446744073709551616
/-- the number that four words tell, the lowest first -/
def val4 (a b c d : Int) : Int := a + 18446744073709551616 * b + 340282366920938463463374607431768211456 * c + 6277101735386680763835789423207666416102355444464034512896 * d
/-- four words that tell x -/
def Is4 (a b c d x : Int) : Prop := U a ∧ U b ∧ U c ∧ U d ∧ val4 a b c d = x
/-- 2^256 -/
def W256 : Int := 115792089237316195423570985008687907853269984665640564039457584007913129639936
/-- the prime -/
def Pr : Int := 57896044618658097711785492504343953926634992332820282019728792003956564819949
/-- the sum of two words and a carry, by its low word and its carry -/
def AddTo (x y c s d : Int) : Prop := U s ∧ (0 ≤ d ∧ d ≤ 1) ∧ x + y + c = s + d * 18446744073709551616
/-- the difference of two words and a borrow -/
def SubTo (x y c s d : Int) : Prop := U s ∧ (0 ≤ d ∧ d ≤ 1) ∧ x - y - c = s - d * 18446744073709551616
/-- x times y, and a and b: low word, high word -/
def MulTo (x y a b l h : Int) : Prop := U l ∧ U h ∧ x * y + a + b = l + h * 18446744073709551616

theorem is4_range {a b c d x : Int} (h : Is4 a b c d x) : 0 ≤ x ∧ x < W256 := by
  unfold Is4 U val4 at h; unfold W256; omega

theorem sum4 {a0 a1 a2 a3 b0 b1 b2 b3 s0 s1 s2 s3 c0 c1 c2 c3 x y : Int} (ha : Is4 a0 a1 a2 a3 x) (hb : Is4 b0 b1 b2 b3 y)
    (e0 : AddTo a0 b0 0 s0 c0) (e1 : AddTo a1 b1 c0 s1 c1) (e2 : AddTo a2 b2 c1 s2 c2) (e3 : AddTo a3 b3 c2 s3 c3) :
    ∃ z, Is4 s0 s1 s2 s3 z ∧ (0 ≤ c3 ∧ c3 ≤ 1) ∧ z + c3 * W256 = x + y := by
  refine ⟨val4 s0 s1 s2 s3, ⟨e0.1, e1.1, e2.1, e3.1, rfl⟩, e3.2.1, ?_⟩
  obtain ⟨-, -, -, -, rfl⟩ := ha
  obtain ⟨-, -, -, -, rfl⟩ := hb
  have g0 := e0.2.2; have g1 := e1.2.2; have g2 := e2.2.2; have g3 := e3.2.2
  unfold val4 W256; omega

theorem diff4 {a0 a1 a2 a3 b0 b1 b2 b3 s0 s1 s2 s3 c0 c1 c2 c3 x y : Int} (ha : Is4 a0 a1 a2 a3 x) (hb : Is4 b0 b1 b2 b3 y)
    (e0 : SubTo a0 b0 0 s0 c0) (e1 : SubTo a1 b1 c0 s1 c1) (e2 : SubTo a2 b2 c1 s2 c2) (e3 : SubTo a3 b3 c2 s3 c3) :
    ∃ z, Is4 s0 s1 s2 s3 z ∧ (0 ≤ c3 ∧ c3 ≤ 1) ∧ z - c3 * W256 = x - y := by
  refine ⟨val4 s0 s1 s2 s3, ⟨e0.1, e1.1, e2.1, e3.1, rfl⟩, e3.2.1, ?_⟩
  obtain ⟨-, -, -, -, rfl⟩ := ha
  obtain ⟨-, -, -, -, rfl⟩ := hb
  have g0 := e0.2.2; have g1 := e1.2.2; have g2 := e2.2.2; have g3 := e3.2.2
  unfold val4 W256; omega

/-- the mask of ones picks the first, the mask of zeros the second -/
theorem pick_one (a b : Int) (ha : U a) (hb : U b) : bits .or .u64 (bits .and .u64 a (IntKind.u64.wrap (-1))) (bits .andNot .u64 b (IntKind.u64.wrap (-1))) = a := by
  obtain ⟨A, rfl⟩ := Int.eq_ofNat_of_zero_le ha.1
  obtain ⟨B, rfl⟩ := Int.eq_ofNat_of_zero_le hb.1
  have hA : A < 18446744073709551616 := by have := ha.2; omega
  have hB : B < 18446744073709551616 := by have := hb.2; omega
  have e : IntKind.u64.wrap (-1) = ((18446744073709551615 : Nat) : Int) := by rw [IntKind.wrap_u64]; rfl
  rw [e, u64_and_nat A _ hA (by omega), u64_andNot_nat B _ hB (by omega)]
  have m : A &&& 18446744073709551615 = A % 18446744073709551616 := Nat.and_two_pow_sub_one_eq_mod A 64
  have z : B &&& (18446744073709551615 - 18446744073709551615) = 0 := by simp
  rw [m, z, Nat.mod_eq_of_lt hA, u64_or_nat A 0 hA (by omega), Nat.or_zero]
theorem pick_two (a b : Int) (ha : U a) (hb : U b) : bits .or .u64 (bits .and .u64 a 0) (bits .andNot .u64 b 0) = b := by
  obtain ⟨A, rfl⟩ := Int.eq_ofNat_of_zero_le ha.1
  obtain ⟨B, rfl⟩ := Int.eq_ofNat_of_zero_le hb.1
  have hA : A < 18446744073709551616 := by have := ha.2; omega
  have hB : B < 18446744073709551616 := by have := hb.2; omega
  have e : (0 : Int) = ((0 : Nat) : Int) := rfl
  rw [e, u64_and_nat A _ hA (by omega), u64_andNot_nat B _ hB (by omega)]
  have m : B &&& (18446744073709551615 - 0) = B % 18446744073709551616 := Nat.and_two_pow_sub_one_eq_mod B 64
  rw [m, Nat.and_zero, Nat.mod_eq_of_lt hB, u64_or_nat 0 B (by omega) hB, Nat.zero_or]
end Go.Proofs.YtccjhlipcgpkmaaDoor
