/- A number times its power p - 2 leaves 1, if anything is left of it, and else nothing. -/
import Derived.Test.YtccjhlipcgpkmaaDoorPow
import Derived.Test.YtccjhlipcgpkmaaDoorPrime
namespace Go.Proofs.YtccjhlipcgpkmaaDoor
open Go.RowKit

theorem exp_succ : (57896044618658097711785492504343953926634992332820282019728792003956564819949 : Nat) - 1 = ExpN + 1 := by decide +kernel
theorem pr_nat : Pr = ((57896044618658097711785492504343953926634992332820282019728792003956564819949 : Nat) : Int) := rfl

theorem fermat_int (A : Int) (h0 : 0 ≤ A) (hA : A % Pr ≠ 0) : (A * (A ^ ExpN % Pr)) % Pr = 1 := by
  obtain ⟨n, rfl⟩ := Int.eq_ofNat_of_zero_le h0
  have hp := Prime.p57896044618658097711785492504343953926634992332820282019728792003956564819949
  have hs := exp_succ
  rw [pr_nat] at *
  generalize (57896044618658097711785492504343953926634992332820282019728792003956564819949 : Nat) = N at *
  generalize ExpN = E at *
  have hnd : ¬ N ∣ n := fun h => hA (by
    have : n % N = 0 := Nat.mod_eq_zero_of_dvd h
    omega)
  have hf := Prime.fermat hp hnd
  rw [hs, Nat.pow_succ] at hf
  rw [Int.mul_emod, Int.emod_emod, ← Int.mul_emod, Int.mul_comm, ← Int.natCast_pow, ← Int.natCast_mul, ← Int.natCast_emod, hf]
  rfl
theorem fermat_zero (A : Int) (hA : A % Pr = 0) : (A * (A ^ ExpN % Pr)) % Pr = 0 := by
  rw [Int.mul_emod, hA, Int.zero_mul, Int.zero_emod]
end Go.Proofs.YtccjhlipcgpkmaaDoor
