/- The ladder of the program, told over the field: that two keys share a point. -/
import Derived.Test.YtccjhlipcgpkmaaDoorCrv
import Derived.Test.YtccjhlipcgpkmaaDoorLtimes
import Derived.Test.YtccjhlipcgpkmaaDoorFerm
namespace Go.Proofs.YtccjhlipcgpkmaaDoor
open Go.RowKit Curve

/-- the prime, as a natural number -/
def pN : Nat := 57896044618658097711785492504343953926634992332820282019728792003956564819949
theorem pr_pN : Pr = (pN : Int) := rfl
theorem pN_prime : Prime.IsPrime pN := Prime.p57896044618658097711785492504343953926634992332820282019728792003956564819949

/-- the curve's number, its half exponent -/
def cN : Nat := 28692721048178265397853269683490922171210976843790175684556505508326675974058
def hN : Nat := 28948022309329048855892746252171976963317496166410141009864396001978282409974
theorem half_eq : pN - 1 = 2 * hN := by decide +kernel
theorem half_pow : cN ^ hN % pN = pN - 1 := by
  rw [← Prime.pm_eq pN 255 cN hN (by decide +kernel)]
  decide +kernel
theorem pN_big : pN - 1 ≠ 1 ∧ 2 ≤ pN := by decide +kernel

theorem ns_nat (m n : Nat) (h : m * m % pN = cN * (n * n) % pN) : pN ∣ m := by
  by_cases hm : pN ∣ m
  · exact hm
  · exfalso
    have hp := pN_prime
    have he := half_eq
    have hc := half_pow
    have hb := pN_big
    generalize pN = N at *
    generalize hN = H at *
    generalize cN = C at *
    have hn : ¬ N ∣ n := by
      intro hd
      have h0 : C * (n * n) % N = 0 := Nat.mod_eq_zero_of_dvd (Nat.dvd_trans hd (Nat.dvd_trans (Nat.dvd_mul_right n n) (Nat.dvd_mul_left (n * n) C)))
      rw [h0] at h
      rcases Prime.euclid hp (Nat.dvd_of_mod_eq_zero h) with h | h <;> exact hm h
    have f1 := Prime.fermat hp hm
    have f2 := Prime.fermat hp hn
    rw [he, Nat.pow_mul, Nat.pow_two] at f1 f2
    have e : (m * m) ^ H % N = (C * (n * n)) ^ H % N := by rw [Nat.pow_mod, h, ← Nat.pow_mod]
    rw [f1, Nat.mul_pow, Nat.mul_mod, hc, f2, Nat.mul_one, Nat.mod_eq_of_lt (by omega)] at e
    exact hb.1 e.symm

instance : NeZero pN := ⟨by decide +kernel⟩
/-- what is left of a number, as one of the field -/
def phi (x : Int) : Fin pN := ⟨(x % Pr).toNat, by
  have h0 := Int.emod_nonneg x (show Pr ≠ 0 by have := pr_pos; omega)
  have h1 := Int.emod_lt_of_pos x pr_pos
  rw [pr_pN] at *
  omega⟩
theorem phi_val (x : Int) : ((phi x).val : Int) = x % Pr := Int.toNat_of_nonneg (Int.emod_nonneg x (by have := pr_pos; omega))
theorem fin_ext {a b : Fin pN} (h : (a.val : Int) = b.val) : a = b := Fin.ext (by omega)
theorem phi_ext {x y : Int} : phi x = phi y ↔ x % Pr = y % Pr := by
  constructor
  · intro h
    rw [← phi_val, ← phi_val, h]
  · intro h
    exact fin_ext (by rw [phi_val, phi_val, h])
theorem phi_mod (x : Int) : phi (x % Pr) = phi x := phi_ext.2 (Int.emod_emod x Pr)
theorem phi_add (x y : Int) : phi (x + y) = phi x + phi y := by
  refine fin_ext ?_
  rw [phi_val, Fin.val_add, Int.natCast_emod, Int.natCast_add, phi_val, phi_val, ← pr_pN, ← Int.add_emod]
theorem phi_mul (x y : Int) : phi (x * y) = phi x * phi y := by
  refine fin_ext ?_
  rw [phi_val, Fin.val_mul, Int.natCast_emod, Int.natCast_mul, phi_val, phi_val, ← pr_pN, ← Int.mul_emod]
theorem phi_sub (x y : Int) : phi (x - y) = phi x - phi y := by
  have h := phi_add (x - y) y
  rw [Int.sub_add_cancel] at h
  rw [h]
  generalize phi (x - y) = a
  generalize phi y = b
  grind
theorem phi_one : phi 1 = 1 := Fin.ext (by decide +kernel)
theorem phi_zero : phi 0 = 0 := Fin.ext (by decide +kernel)
theorem phi_two : phi 2 = 2 := Fin.ext (by decide +kernel)
theorem phi_self (a : Fin pN) : phi (a.val : Int) = a := by
  refine fin_ext ?_
  rw [phi_val, pr_pN]
  exact Int.emod_eq_of_lt (by omega) (by have := a.isLt; omega)

/-- one over a number of the field: its power p - 2 -/
def invA (a : Fin pN) : Fin pN := phi ((a.val : Int) ^ ExpN % Pr)
theorem pow_mod_left (x : Int) : ∀ n : Nat, (x % Pr) ^ n % Pr = x ^ n % Pr
  | 0 => by simp
  | n + 1 => by rw [Int.pow_succ, Int.pow_succ, Int.mul_emod, pow_mod_left x n, Int.emod_emod, ← Int.mul_emod]
theorem invA_phi (x : Int) : invA (phi x) = phi (x ^ ExpN % Pr) := by
  unfold invA
  rw [phi_val, pow_mod_left]
theorem invA_mul (x : Int) (h0 : 0 ≤ x) (h : phi x ≠ 0) : phi x * invA (phi x) = 1 := by
  have hx : x % Pr ≠ 0 := fun e => h (by rw [← phi_zero]; exact phi_ext.2 (by rw [e]; rfl))
  have hf := fermat_int x h0 hx
  rw [invA_phi, ← phi_mul, ← phi_one]
  refine phi_ext.2 ?_
  rw [hf]
  rfl
theorem exp_ne : ExpN ≠ 0 := by decide +kernel
theorem invA_zero : invA 0 = 0 := by
  rw [← phi_zero, invA_phi, Int.zero_pow exp_ne]
  rfl
theorem phi_ne {x : Int} (h : x % Pr ≠ 0) : phi x ≠ 0 := fun e => h (by
  have := (phi_ext (x := x) (y := 0)).1 (by rw [e, phi_zero])
  rw [this]
  rfl)

/-- the field and the curve -/
def crv : Crv pN where
  inv := invA
  c := phi (cN : Int)
  k := phi 121665
  hinv := fun a ha => by
    have h := invA_mul (a.val : Int) (by omega)
    rw [phi_self] at h
    exact h ha
  inv0 := invA_zero
  two := by rw [← phi_two]; exact phi_ne (by decide +kernel)
  hc := phi_ne (by decide +kernel)
  hns := fun a b h => by
    rw [← phi_self a, ← phi_self b] at h
    rw [← phi_self a]
    generalize a.val = m at *
    generalize b.val = n at *
    rw [← phi_mul, ← phi_mul, ← phi_mul] at h
    have h1 := phi_ext.1 h
    rw [pr_pN] at h1
    have h2 : m * m % pN = cN * (n * n) % pN := by exact_mod_cast h1
    have h3 := ns_nat m n h2
    rw [← phi_zero]
    refine phi_ext.2 ?_
    rw [pr_pN]
    have h4 : m % pN = 0 := Nat.mod_eq_zero_of_dvd h3
    have h5 : ((m % pN : Nat) : Int) = 0 := by rw [h4]; rfl
    rw [Int.natCast_emod] at h5
    rw [h5]
    rfl
  hk := phi_ne (by decide +kernel)
  hkc := by
    rw [← phi_one, ← phi_mul, ← phi_add]
    exact phi_ext.2 (by decide +kernel)
end Go.Proofs.YtccjhlipcgpkmaaDoor
