/- The contract of the reference's difference of digits. -/
import Derived.Test.YtccjhlipcgpkmaaDoorRefh
namespace Go.Proofs.YtccjhlipcgpkmaaDoor
open Go.RowKit

def SubInv (a b : List Int) (k : Nat) (out : List Int) (borrow : Int) : Prop := out.length = k ∧ (∀ d ∈ out, 0 ≤ d ∧ d ≤ 131070) ∧ (0 ≤ borrow ∧ borrow ≤ 1) ∧
  valD out = valD (a.take k) + valD (primeDigits.take k) - valD (b.take k) + borrow * 65536 ^ k ∧ (borrow = 1 → valD (primeDigits.take k) < valD (b.take k))
theorem sub_step {a b : List Int} {k : Nat} {out : List Int} {borrow d r : Int} (hka : k < a.length) (hkb : k < b.length) (hkp : k < primeDigits.length) (hsa : Small a) (hsb : Small b) (h : SubInv a b k out borrow)
    (hr : 0 ≤ r ∧ r ≤ 1) (hd : d = a[k] + primeDigits[k] - b[k] - borrow + 65536 * r) (hn : r = 1 ↔ a[k] + primeDigits[k] - b[k] - borrow < 0) : SubInv a b (k + 1) (out ++ [d]) r := by
  obtain ⟨e1, e2, e3, e4, e5⟩ := h
  have ha := hsa _ (List.getElem_mem hka)
  have hb := hsb _ (List.getElem_mem hkb)
  have hp := prime_small_digits _ (List.getElem_mem hkp)
  have r1 := valD_range (primeDigits.take k) (small_take prime_small_digits k)
  have r2 := valD_range (b.take k) (small_take hsb k)
  rw [List.length_take, Nat.min_eq_left (by omega)] at r1 r2
  have hw : (0 : Int) < 65536 ^ k := Int.pow_pos (by omega)
  refine ⟨by simp [e1], ?_, hr, ?_, ?_⟩
  · intro x hx
    rcases List.mem_append.1 hx with hx | hx
    · exact e2 x hx
    · simp at hx; subst hx
      rcases (show r = 1 ∨ r = 0 by omega) with h1 | h1
      · have := hn.1 h1; omega
      · have : ¬ (a[k] + primeDigits[k] - b[k] - borrow < 0) := fun h => by have := hn.2 h; omega
        omega
  · rw [List.take_succ_eq_append_getElem hka, List.take_succ_eq_append_getElem hkb, List.take_succ_eq_append_getElem hkp, valD_snoc, valD_snoc, valD_snoc, valD_snoc, List.length_take, List.length_take, List.length_take, Nat.min_eq_left (by omega), Nat.min_eq_left (by omega), Nat.min_eq_left (by omega), e1, e4, Int.pow_succ, hd]
    generalize (65536 : Int) ^ k = p at *
    grind
  · intro h1
    have hlt := hn.1 h1
    rw [List.take_succ_eq_append_getElem hkb, List.take_succ_eq_append_getElem hkp, valD_snoc, valD_snoc, List.length_take, List.length_take, Nat.min_eq_left (by omega), Nat.min_eq_left (by omega)]
    generalize primeDigits[k] = y at *
    generalize b[k] = z at *
    generalize a[k] = x at *
    generalize valD (primeDigits.take k) = P at *
    generalize valD (b.take k) = B at *
    generalize (65536 : Int) ^ k = p at *
    rcases (show borrow = 1 ∨ borrow = 0 by omega) with hb1 | hb1
    · have h2 := e5 hb1
      have h3 : y * p ≤ z * p := Int.mul_le_mul_of_nonneg_right (by omega) (by omega)
      omega
    · have h3 : (y + 1) * p ≤ z * p := Int.mul_le_mul_of_nonneg_right (by omega) (by omega)
      rw [Int.add_mul, Int.one_mul] at h3
      omega
theorem sub_done {a b out : List Int} {borrow : Int} (ha : a.length = 16) (hb : b.length = 16) (hlt : valD b < Pr) (h : SubInv a b 16 out borrow) : valD out % Pr = (valD a - valD b) % Pr := by
  obtain ⟨e1, e2, e3, e4, e5⟩ := h
  rw [List.take_of_length_le (show a.length ≤ 16 by omega), List.take_of_length_le (show b.length ≤ 16 by omega), List.take_of_length_le (show primeDigits.length ≤ 16 from Nat.le_refl _), valD_prime] at e4
  rw [List.take_of_length_le (show b.length ≤ 16 by omega), List.take_of_length_le (show primeDigits.length ≤ 16 from Nat.le_refl _), valD_prime] at e5
  have hb0 : borrow = 0 := by
    rcases (show borrow = 1 ∨ borrow = 0 by omega) with h | h
    · have := e5 h; omega
    · exact h
  subst hb0
  have : valD out = (valD a - valD b) + Pr * 1 := by omega
  rw [this, Int.add_mul_emod_self_left]
def SubRel (w : World) (a b : List Int) (v o i : Value) (wr : World) : Prop := ∃ (k g cap : Nat) (out : List Int) (borrow : Int), k ≤ 16 ∧ i = .int .i64 k ∧ o = .int .i64 borrow ∧ v = .slice (some ⟨g, 0, none⟩) k cap ∧ SubInv a b k out borrow ∧ Ints wr w.heap.size v out ∧ Below w.heap.size w wr
end Go.Proofs.YtccjhlipcgpkmaaDoor
