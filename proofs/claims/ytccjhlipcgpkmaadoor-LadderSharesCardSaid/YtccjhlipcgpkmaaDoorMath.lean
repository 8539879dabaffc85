/- Plain mathematics of a product of four words by four, done word by word into eight words; and of its folding. Nothing of the program stands here. -/
import Derived.Test.YtccjhlipcgpkmaaDoorNum
namespace Go.Proofs.YtccjhlipcgpkmaaDoor
open Go.RowKit

/-- 2^64 -/
def R : Int := 18446744073709551616
/-- eight words, as a function of their place, and what they tell -/
def V8 (o : Nat → Int) : Int := o 0 + R ^ 1 * o 1 + R ^ 2 * o 2 + R ^ 3 * o 3 + R ^ 4 * o 4 + R ^ 5 * o 5 + R ^ 6 * o 6 + R ^ 7 * o 7
def upd (o : Nat → Int) (m : Nat) (v : Int) : Nat → Int := fun x => if x = m then v else o x
theorem upd_same (o : Nat → Int) (m : Nat) (v : Int) : upd o m v m = v := by simp [upd]
theorem upd_other (o : Nat → Int) {m x : Nat} (v : Int) (h : x ≠ m) : upd o m v x = o x := by simp [upd, h]
theorem V8_upd (o : Nat → Int) (m : Nat) (hm : m < 8) (v : Int) : V8 (upd o m v) = V8 o + (v - o m) * R ^ m := by
  have key : ∀ x y z : Int, x * y + (z - y) * x = x * z := fun x y z => by grind
  have : m = 0 ∨ m = 1 ∨ m = 2 ∨ m = 3 ∨ m = 4 ∨ m = 5 ∨ m = 6 ∨ m = 7 := by omega
  rcases this with rfl | rfl | rfl | rfl | rfl | rfl | rfl | rfl <;> simp only [V8, upd] <;> simp <;> grind

/-- the first k of four words -/
def part4 (b : Nat → Int) : Nat → Int
  | 0 => 0
  | k + 1 => part4 b k + b k * R ^ k

/-- what an inner loop keeps: row i, behind k steps -/
def RowInv (o0 : Nat → Int) (x : Int) (b : Nat → Int) (i k : Nat) (o : Nat → Int) (c : Int) : Prop :=
  (∀ m, m < 8 → U (o m)) ∧ U c ∧ V8 o + c * R ^ (i + k) = V8 o0 + x * part4 b k * R ^ i ∧ ∀ m, i + 4 ≤ m → o m = o0 m

theorem rowInv_start (o0 : Nat → Int) (x : Int) (b : Nat → Int) (i : Nat) (h : ∀ m, m < 8 → U (o0 m)) : RowInv o0 x b i 0 o0 0 :=
  ⟨h, by unfold U; omega, by simp [part4], fun _ _ => rfl⟩

theorem rowInv_step {o0 : Nat → Int} {x : Int} {b : Nat → Int} {i k : Nat} {o : Nat → Int} {c l h : Int} (hr : RowInv o0 x b i k o c) (hk : k < 4) (hi : i < 4)
    (m : MulTo x (b k) (o (i + k)) c l h) : RowInv o0 x b i (k + 1) (upd o (i + k) l) h := by
  obtain ⟨r1, r2, r3, r4⟩ := hr
  obtain ⟨m1, m2, m3⟩ := m
  refine ⟨fun q hq => ?_, m2, ?_, fun q hq => ?_⟩
  · by_cases e : q = i + k
    · subst e; rw [upd_same]; exact m1
    · rw [upd_other _ _ e]; exact r1 q hq
  · rw [V8_upd _ _ (by omega)]
    have m3' : x * b k + o (i + k) + c = l + h * R := m3
    have e1 : R ^ (i + (k + 1)) = R ^ (i + k) * R := by rw [← Nat.add_assoc, Int.pow_succ]
    have e2 : R ^ (i + k) = R ^ i * R ^ k := Int.pow_add _ _ _
    rw [e1]
    simp only [part4]
    rw [e2] at r3 ⊢
    generalize R ^ i = p at *
    generalize R ^ k = q at *
    generalize V8 o = v at *
    generalize V8 o0 = v0 at *
    generalize part4 b k = s at *
    grind
  · rw [upd_other _ _ (by omega)]; exact r4 q hq

/-- what the outer loop keeps: behind i rows -/
def ColInv (a : Nat → Int) (y : Int) (i : Nat) (o : Nat → Int) : Prop :=
  (∀ m, m < 8 → U (o m)) ∧ V8 o = part4 a i * y ∧ ∀ m, i + 4 ≤ m → o m = 0

theorem colInv_start (a : Nat → Int) (y : Int) : ColInv a y 0 (fun _ => 0) :=
  ⟨fun _ _ => by show U 0; unfold U; omega, by simp [V8, part4], fun _ _ => rfl⟩

theorem colInv_step {a b : Nat → Int} {y : Int} {i : Nat} {o0 o : Nat → Int} {c : Int} (h : ColInv a y i o0) (hi : i < 4) (hy : part4 b 4 = y)
    (hr : RowInv o0 (a i) b i 4 o c) : ColInv a y (i + 1) (upd o (i + 4) c) := by
  obtain ⟨r1, r2, r3, r4⟩ := hr
  obtain ⟨h1, h2, h3⟩ := h
  refine ⟨fun q hq => ?_, ?_, fun q hq => ?_⟩
  · by_cases e : q = i + 4
    · subst e; rw [upd_same]; exact r2
    · rw [upd_other _ _ e]; exact r1 q hq
  · rw [V8_upd _ _ (by omega), r4 _ (Nat.le_refl _), h3 _ (Nat.le_refl _)]
    simp only [part4]
    rw [h2, hy] at r3
    generalize R ^ (i + 4) = p at *
    generalize R ^ i = q at *
    generalize V8 o = v at *
    generalize part4 a i = s at *
    grind
  · rw [upd_other _ _ (by omega), r4 q (by omega)]; exact h3 q (by omega)

/-- four words as a function of their place -/
def four (a b c d : Int) : Nat → Int
  | 0 => a
  | 1 => b
  | 2 => c
  | 3 => d
  | _ => 0
theorem part4_four (a b c d : Int) : part4 (four a b c d) 4 = val4 a b c d := by
  simp only [part4, four, val4, R]; omega
theorem four_U {a b c d x : Int} (h : Is4 a b c d x) (m : Nat) (hm : m < 4) : U (four a b c d m) := by
  obtain ⟨h0, h1, h2, h3, -⟩ := h
  have : m = 0 ∨ m = 1 ∨ m = 2 ∨ m = 3 := by omega
  rcases this with rfl | rfl | rfl | rfl <;> assumption

/-- eight words that tell x -/
def Is8 (a b c d e f g h x : Int) : Prop := (U a ∧ U b ∧ U c ∧ U d) ∧ (U e ∧ U f ∧ U g ∧ U h) ∧ val4 a b c d + val4 e f g h * W256 = x
theorem is8_of_col {a : Nat → Int} {y : Int} {o : Nat → Int} (h : ColInv a y 4 o) : Is8 (o 0) (o 1) (o 2) (o 3) (o 4) (o 5) (o 6) (o 7) (part4 a 4 * y) := by
  obtain ⟨h1, h2, -⟩ := h
  refine ⟨⟨h1 0 (by omega), h1 1 (by omega), h1 2 (by omega), h1 3 (by omega)⟩, ⟨h1 4 (by omega), h1 5 (by omega), h1 6 (by omega), h1 7 (by omega)⟩, ?_⟩
  rw [← h2]
  simp only [V8, val4, W256, R]
  omega
end Go.Proofs.YtccjhlipcgpkmaaDoor
