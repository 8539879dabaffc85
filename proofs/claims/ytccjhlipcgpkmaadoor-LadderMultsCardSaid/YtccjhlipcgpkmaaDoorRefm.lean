/- Plain mathematics of the reference's product of digits. -/
import Derived.Test.YtccjhlipcgpkmaaDoorRefh
namespace Go.Proofs.YtccjhlipcgpkmaaDoor
open Go.RowKit

def sumN (f : Nat → Int) : Nat → Int
  | 0 => 0
  | n + 1 => sumN f n + f n
theorem sumN_mul (c : Int) (f : Nat → Int) : ∀ n, c * sumN f n = sumN (fun i => c * f i) n
  | 0 => by simp [sumN]
  | n + 1 => by simp only [sumN]; rw [Int.mul_add, sumN_mul c f n]
theorem sumN_add (f g : Nat → Int) : ∀ n, sumN f n + sumN g n = sumN (fun i => f i + g i) n
  | 0 => by simp [sumN]
  | n + 1 => by simp only [sumN]; rw [← sumN_add f g n]; omega
theorem sumN_zero : ∀ n, sumN (fun _ => 0) n = 0
  | 0 => rfl
  | n + 1 => by simp [sumN, sumN_zero n]
theorem sumN_swap (c : Nat → Nat → Int) (n : Nat) : ∀ m, sumN (fun i => sumN (fun j => c i j) m) n = sumN (fun j => sumN (fun i => c i j) n) m
  | 0 => by simp only [sumN]; exact sumN_zero n
  | m + 1 => by simp only [sumN]; rw [← sumN_swap c n m, sumN_add]
theorem sumN_congr {f g : Nat → Int} : ∀ n, (∀ i, i < n → f i = g i) → sumN f n = sumN g n
  | 0, _ => rfl
  | n + 1, h => by simp only [sumN]; rw [sumN_congr n fun i hi => h i (by omega), h n (by omega)]

/-- what digit j of the first number puts to digit i of the product -/
def mulTerm (a b : Nat → Int) (i j : Nat) : Int := if j ≤ i then a j * b (i - j) else 38 * a j * b (16 + i - j)
def mulDig (a b : Nat → Int) (i : Nat) : Int := sumN (mulTerm a b i) 16
def valF (b : Nat → Int) : Int := sumN (fun k => 65536 ^ k * b k) 16
def hiPart (b : Nat → Int) (j : Nat) : Int := sumN (fun k => if 16 ≤ k + j then 65536 ^ (k + j - 16) * b k else 0) 16
theorem mulRow0 (a b : Nat → Int) : sumN (fun i => 65536 ^ i * mulTerm a b i 0) 16 = a 0 * (65536 ^ 0 * valF b - 2 * Pr * hiPart b 0) := by
  simp only [sumN, mulTerm, valF, hiPart, Pr, Nat.reduceLeDiff, Nat.reduceSub, Nat.reduceAdd, Nat.zero_le, Nat.le_refl, if_true, if_false, Nat.sub_zero, Nat.sub_self, Nat.add_zero, Nat.le_zero_eq, Nat.add_one_ne_zero]
  generalize a 0 = x
  generalize b 0 = b0; generalize b 1 = b1; generalize b 2 = b2; generalize b 3 = b3; generalize b 4 = b4; generalize b 5 = b5; generalize b 6 = b6; generalize b 7 = b7
  generalize b 8 = b8; generalize b 9 = b9; generalize b 10 = b10; generalize b 11 = b11; generalize b 12 = b12; generalize b 13 = b13; generalize b 14 = b14; generalize b 15 = b15
  grind
theorem mulRow1 (a b : Nat → Int) : sumN (fun i => 65536 ^ i * mulTerm a b i 1) 16 = a 1 * (65536 ^ 1 * valF b - 2 * Pr * hiPart b 1) := by
  simp only [sumN, mulTerm, valF, hiPart, Pr, Nat.reduceLeDiff, Nat.reduceSub, Nat.reduceAdd, Nat.le_refl, if_true, if_false, Nat.sub_self, Nat.add_zero, Nat.zero_add, Nat.le_zero_eq, Nat.add_one_ne_zero]
  generalize a 1 = x
  generalize b 0 = b0; generalize b 1 = b1; generalize b 2 = b2; generalize b 3 = b3; generalize b 4 = b4; generalize b 5 = b5; generalize b 6 = b6; generalize b 7 = b7
  generalize b 8 = b8; generalize b 9 = b9; generalize b 10 = b10; generalize b 11 = b11; generalize b 12 = b12; generalize b 13 = b13; generalize b 14 = b14; generalize b 15 = b15
  grind
theorem mulRow2 (a b : Nat → Int) : sumN (fun i => 65536 ^ i * mulTerm a b i 2) 16 = a 2 * (65536 ^ 2 * valF b - 2 * Pr * hiPart b 2) := by
  simp only [sumN, mulTerm, valF, hiPart, Pr, Nat.reduceLeDiff, Nat.reduceSub, Nat.reduceAdd, Nat.le_refl, if_true, if_false, Nat.sub_self, Nat.add_zero, Nat.zero_add, Nat.le_zero_eq, Nat.add_one_ne_zero]
  generalize a 2 = x
  generalize b 0 = b0; generalize b 1 = b1; generalize b 2 = b2; generalize b 3 = b3; generalize b 4 = b4; generalize b 5 = b5; generalize b 6 = b6; generalize b 7 = b7
  generalize b 8 = b8; generalize b 9 = b9; generalize b 10 = b10; generalize b 11 = b11; generalize b 12 = b12; generalize b 13 = b13; generalize b 14 = b14; generalize b 15 = b15
  grind
theorem mulRow3 (a b : Nat → Int) : sumN (fun i => 65536 ^ i * mulTerm a b i 3) 16 = a 3 * (65536 ^ 3 * valF b - 2 * Pr * hiPart b 3) := by
  simp only [sumN, mulTerm, valF, hiPart, Pr, Nat.reduceLeDiff, Nat.reduceSub, Nat.reduceAdd, Nat.le_refl, if_true, if_false, Nat.sub_self, Nat.add_zero, Nat.zero_add, Nat.le_zero_eq, Nat.add_one_ne_zero]
  generalize a 3 = x
  generalize b 0 = b0; generalize b 1 = b1; generalize b 2 = b2; generalize b 3 = b3; generalize b 4 = b4; generalize b 5 = b5; generalize b 6 = b6; generalize b 7 = b7
  generalize b 8 = b8; generalize b 9 = b9; generalize b 10 = b10; generalize b 11 = b11; generalize b 12 = b12; generalize b 13 = b13; generalize b 14 = b14; generalize b 15 = b15
  grind
theorem mulRow4 (a b : Nat → Int) : sumN (fun i => 65536 ^ i * mulTerm a b i 4) 16 = a 4 * (65536 ^ 4 * valF b - 2 * Pr * hiPart b 4) := by
  simp only [sumN, mulTerm, valF, hiPart, Pr, Nat.reduceLeDiff, Nat.reduceSub, Nat.reduceAdd, Nat.le_refl, if_true, if_false, Nat.sub_self, Nat.add_zero, Nat.zero_add, Nat.le_zero_eq, Nat.add_one_ne_zero]
  generalize a 4 = x
  generalize b 0 = b0; generalize b 1 = b1; generalize b 2 = b2; generalize b 3 = b3; generalize b 4 = b4; generalize b 5 = b5; generalize b 6 = b6; generalize b 7 = b7
  generalize b 8 = b8; generalize b 9 = b9; generalize b 10 = b10; generalize b 11 = b11; generalize b 12 = b12; generalize b 13 = b13; generalize b 14 = b14; generalize b 15 = b15
  grind
theorem mulRow5 (a b : Nat → Int) : sumN (fun i => 65536 ^ i * mulTerm a b i 5) 16 = a 5 * (65536 ^ 5 * valF b - 2 * Pr * hiPart b 5) := by
  simp only [sumN, mulTerm, valF, hiPart, Pr, Nat.reduceLeDiff, Nat.reduceSub, Nat.reduceAdd, Nat.le_refl, if_true, if_false, Nat.sub_self, Nat.add_zero, Nat.zero_add, Nat.le_zero_eq, Nat.add_one_ne_zero]
  generalize a 5 = x
  generalize b 0 = b0; generalize b 1 = b1; generalize b 2 = b2; generalize b 3 = b3; generalize b 4 = b4; generalize b 5 = b5; generalize b 6 = b6; generalize b 7 = b7
  generalize b 8 = b8; generalize b 9 = b9; generalize b 10 = b10; generalize b 11 = b11; generalize b 12 = b12; generalize b 13 = b13; generalize b 14 = b14; generalize b 15 = b15
  grind
theorem mulRow6 (a b : Nat → Int) : sumN (fun i => 65536 ^ i * mulTerm a b i 6) 16 = a 6 * (65536 ^ 6 * valF b - 2 * Pr * hiPart b 6) := by
  simp only [sumN, mulTerm, valF, hiPart, Pr, Nat.reduceLeDiff, Nat.reduceSub, Nat.reduceAdd, Nat.le_refl, if_true, if_false, Nat.sub_self, Nat.add_zero, Nat.zero_add, Nat.le_zero_eq, Nat.add_one_ne_zero]
  generalize a 6 = x
  generalize b 0 = b0; generalize b 1 = b1; generalize b 2 = b2; generalize b 3 = b3; generalize b 4 = b4; generalize b 5 = b5; generalize b 6 = b6; generalize b 7 = b7
  generalize b 8 = b8; generalize b 9 = b9; generalize b 10 = b10; generalize b 11 = b11; generalize b 12 = b12; generalize b 13 = b13; generalize b 14 = b14; generalize b 15 = b15
  grind
theorem mulRow7 (a b : Nat → Int) : sumN (fun i => 65536 ^ i * mulTerm a b i 7) 16 = a 7 * (65536 ^ 7 * valF b - 2 * Pr * hiPart b 7) := by
  simp only [sumN, mulTerm, valF, hiPart, Pr, Nat.reduceLeDiff, Nat.reduceSub, Nat.reduceAdd, Nat.le_refl, if_true, if_false, Nat.sub_self, Nat.add_zero, Nat.zero_add, Nat.le_zero_eq, Nat.add_one_ne_zero]
  generalize a 7 = x
  generalize b 0 = b0; generalize b 1 = b1; generalize b 2 = b2; generalize b 3 = b3; generalize b 4 = b4; generalize b 5 = b5; generalize b 6 = b6; generalize b 7 = b7
  generalize b 8 = b8; generalize b 9 = b9; generalize b 10 = b10; generalize b 11 = b11; generalize b 12 = b12; generalize b 13 = b13; generalize b 14 = b14; generalize b 15 = b15
  grind
theorem mulRow8 (a b : Nat → Int) : sumN (fun i => 65536 ^ i * mulTerm a b i 8) 16 = a 8 * (65536 ^ 8 * valF b - 2 * Pr * hiPart b 8) := by
  simp only [sumN, mulTerm, valF, hiPart, Pr, Nat.reduceLeDiff, Nat.reduceSub, Nat.reduceAdd, Nat.le_refl, if_true, if_false, Nat.sub_self, Nat.add_zero, Nat.zero_add, Nat.le_zero_eq, Nat.add_one_ne_zero]
  generalize a 8 = x
  generalize b 0 = b0; generalize b 1 = b1; generalize b 2 = b2; generalize b 3 = b3; generalize b 4 = b4; generalize b 5 = b5; generalize b 6 = b6; generalize b 7 = b7
  generalize b 8 = b8; generalize b 9 = b9; generalize b 10 = b10; generalize b 11 = b11; generalize b 12 = b12; generalize b 13 = b13; generalize b 14 = b14; generalize b 15 = b15
  grind
theorem mulRow9 (a b : Nat → Int) : sumN (fun i => 65536 ^ i * mulTerm a b i 9) 16 = a 9 * (65536 ^ 9 * valF b - 2 * Pr * hiPart b 9) := by
  simp only [sumN, mulTerm, valF, hiPart, Pr, Nat.reduceLeDiff, Nat.reduceSub, Nat.reduceAdd, Nat.le_refl, if_true, if_false, Nat.sub_self, Nat.add_zero, Nat.zero_add, Nat.le_zero_eq, Nat.add_one_ne_zero]
  generalize a 9 = x
  generalize b 0 = b0; generalize b 1 = b1; generalize b 2 = b2; generalize b 3 = b3; generalize b 4 = b4; generalize b 5 = b5; generalize b 6 = b6; generalize b 7 = b7
  generalize b 8 = b8; generalize b 9 = b9; generalize b 10 = b10; generalize b 11 = b11; generalize b 12 = b12; generalize b 13 = b13; generalize b 14 = b14; generalize b 15 = b15
  grind
theorem mulRow10 (a b : Nat → Int) : sumN (fun i => 65536 ^ i * mulTerm a b i 10) 16 = a 10 * (65536 ^ 10 * valF b - 2 * Pr * hiPart b 10) := by
  simp only [sumN, mulTerm, valF, hiPart, Pr, Nat.reduceLeDiff, Nat.reduceSub, Nat.reduceAdd, Nat.le_refl, if_true, if_false, Nat.sub_self, Nat.add_zero, Nat.zero_add, Nat.le_zero_eq, Nat.add_one_ne_zero]
  generalize a 10 = x
  generalize b 0 = b0; generalize b 1 = b1; generalize b 2 = b2; generalize b 3 = b3; generalize b 4 = b4; generalize b 5 = b5; generalize b 6 = b6; generalize b 7 = b7
  generalize b 8 = b8; generalize b 9 = b9; generalize b 10 = b10; generalize b 11 = b11; generalize b 12 = b12; generalize b 13 = b13; generalize b 14 = b14; generalize b 15 = b15
  grind
theorem mulRow11 (a b : Nat → Int) : sumN (fun i => 65536 ^ i * mulTerm a b i 11) 16 = a 11 * (65536 ^ 11 * valF b - 2 * Pr * hiPart b 11) := by
  simp only [sumN, mulTerm, valF, hiPart, Pr, Nat.reduceLeDiff, Nat.reduceSub, Nat.reduceAdd, Nat.le_refl, if_true, if_false, Nat.sub_self, Nat.add_zero, Nat.zero_add, Nat.le_zero_eq, Nat.add_one_ne_zero]
  generalize a 11 = x
  generalize b 0 = b0; generalize b 1 = b1; generalize b 2 = b2; generalize b 3 = b3; generalize b 4 = b4; generalize b 5 = b5; generalize b 6 = b6; generalize b 7 = b7
  generalize b 8 = b8; generalize b 9 = b9; generalize b 10 = b10; generalize b 11 = b11; generalize b 12 = b12; generalize b 13 = b13; generalize b 14 = b14; generalize b 15 = b15
  grind
theorem mulRow12 (a b : Nat → Int) : sumN (fun i => 65536 ^ i * mulTerm a b i 12) 16 = a 12 * (65536 ^ 12 * valF b - 2 * Pr * hiPart b 12) := by
  simp only [sumN, mulTerm, valF, hiPart, Pr, Nat.reduceLeDiff, Nat.reduceSub, Nat.reduceAdd, Nat.le_refl, if_true, if_false, Nat.sub_self, Nat.add_zero, Nat.zero_add, Nat.le_zero_eq, Nat.add_one_ne_zero]
  generalize a 12 = x
  generalize b 0 = b0; generalize b 1 = b1; generalize b 2 = b2; generalize b 3 = b3; generalize b 4 = b4; generalize b 5 = b5; generalize b 6 = b6; generalize b 7 = b7
  generalize b 8 = b8; generalize b 9 = b9; generalize b 10 = b10; generalize b 11 = b11; generalize b 12 = b12; generalize b 13 = b13; generalize b 14 = b14; generalize b 15 = b15
  grind
theorem mulRow13 (a b : Nat → Int) : sumN (fun i => 65536 ^ i * mulTerm a b i 13) 16 = a 13 * (65536 ^ 13 * valF b - 2 * Pr * hiPart b 13) := by
  simp only [sumN, mulTerm, valF, hiPart, Pr, Nat.reduceLeDiff, Nat.reduceSub, Nat.reduceAdd, Nat.le_refl, if_true, if_false, Nat.sub_self, Nat.add_zero, Nat.zero_add, Nat.le_zero_eq, Nat.add_one_ne_zero]
  generalize a 13 = x
  generalize b 0 = b0; generalize b 1 = b1; generalize b 2 = b2; generalize b 3 = b3; generalize b 4 = b4; generalize b 5 = b5; generalize b 6 = b6; generalize b 7 = b7
  generalize b 8 = b8; generalize b 9 = b9; generalize b 10 = b10; generalize b 11 = b11; generalize b 12 = b12; generalize b 13 = b13; generalize b 14 = b14; generalize b 15 = b15
  grind
theorem mulRow14 (a b : Nat → Int) : sumN (fun i => 65536 ^ i * mulTerm a b i 14) 16 = a 14 * (65536 ^ 14 * valF b - 2 * Pr * hiPart b 14) := by
  simp only [sumN, mulTerm, valF, hiPart, Pr, Nat.reduceLeDiff, Nat.reduceSub, Nat.reduceAdd, Nat.le_refl, if_true, if_false, Nat.sub_self, Nat.add_zero, Nat.zero_add, Nat.le_zero_eq, Nat.add_one_ne_zero]
  generalize a 14 = x
  generalize b 0 = b0; generalize b 1 = b1; generalize b 2 = b2; generalize b 3 = b3; generalize b 4 = b4; generalize b 5 = b5; generalize b 6 = b6; generalize b 7 = b7
  generalize b 8 = b8; generalize b 9 = b9; generalize b 10 = b10; generalize b 11 = b11; generalize b 12 = b12; generalize b 13 = b13; generalize b 14 = b14; generalize b 15 = b15
  grind
theorem mulRow15 (a b : Nat → Int) : sumN (fun i => 65536 ^ i * mulTerm a b i 15) 16 = a 15 * (65536 ^ 15 * valF b - 2 * Pr * hiPart b 15) := by
  simp only [sumN, mulTerm, valF, hiPart, Pr, Nat.reduceLeDiff, Nat.reduceSub, Nat.reduceAdd, Nat.le_refl, if_true, if_false, Nat.sub_self, Nat.add_zero, Nat.zero_add, Nat.le_zero_eq, Nat.add_one_ne_zero]
  generalize a 15 = x
  generalize b 0 = b0; generalize b 1 = b1; generalize b 2 = b2; generalize b 3 = b3; generalize b 4 = b4; generalize b 5 = b5; generalize b 6 = b6; generalize b 7 = b7
  generalize b 8 = b8; generalize b 9 = b9; generalize b 10 = b10; generalize b 11 = b11; generalize b 12 = b12; generalize b 13 = b13; generalize b 14 = b14; generalize b 15 = b15
  grind
theorem mulRow (a b : Nat → Int) (j : Nat) (hj : j < 16) : sumN (fun i => 65536 ^ i * mulTerm a b i j) 16 = a j * (65536 ^ j * valF b - 2 * Pr * hiPart b j) := by
  have : j = 0 ∨ j = 1 ∨ j = 2 ∨ j = 3 ∨ j = 4 ∨ j = 5 ∨ j = 6 ∨ j = 7 ∨ j = 8 ∨ j = 9 ∨ j = 10 ∨ j = 11 ∨ j = 12 ∨ j = 13 ∨ j = 14 ∨ j = 15 := by omega
  rcases this with rfl | rfl | rfl | rfl | rfl | rfl | rfl | rfl | rfl | rfl | rfl | rfl | rfl | rfl | rfl | rfl
  · exact mulRow0 a b
  · exact mulRow1 a b
  · exact mulRow2 a b
  · exact mulRow3 a b
  · exact mulRow4 a b
  · exact mulRow5 a b
  · exact mulRow6 a b
  · exact mulRow7 a b
  · exact mulRow8 a b
  · exact mulRow9 a b
  · exact mulRow10 a b
  · exact mulRow11 a b
  · exact mulRow12 a b
  · exact mulRow13 a b
  · exact mulRow14 a b
  · exact mulRow15 a b
theorem sum_split (a h : Nat → Int) (V M : Int) : ∀ n, sumN (fun j => a j * (65536 ^ j * V - M * h j)) n = sumN (fun j => 65536 ^ j * a j) n * V - M * sumN (fun j => a j * h j) n
  | 0 => by simp [sumN]
  | n + 1 => by
    simp only [sumN]
    rw [sum_split a h V M n]
    generalize sumN (fun j => 65536 ^ j * a j) n = p
    generalize sumN (fun j => a j * h j) n = q
    generalize (65536 : Int) ^ n = r
    grind
theorem mul_total (a b : Nat → Int) : sumN (fun i => 65536 ^ i * mulDig a b i) 16 = valF a * valF b - 2 * Pr * sumN (fun j => a j * hiPart b j) 16 := by
  have e1 : sumN (fun i => 65536 ^ i * mulDig a b i) 16 = sumN (fun i => sumN (fun j => 65536 ^ i * mulTerm a b i j) 16) 16 :=
    sumN_congr 16 fun i _ => by unfold mulDig; exact sumN_mul _ _ _
  rw [e1, sumN_swap, sumN_congr 16 (mulRow a b), sum_split]
  rfl
theorem valD_range_map (f : Nat → Int) : ∀ n, valD ((List.range n).map f) = sumN (fun i => 65536 ^ i * f i) n
  | 0 => rfl
  | n + 1 => by
    rw [List.range_succ, List.map_append, List.map_cons, List.map_nil, valD_snoc, valD_range_map f n, List.length_map, List.length_range]
    simp only [sumN]
    rw [Int.mul_comm]
theorem list_map (a : List Int) (h : a.length = 16) : a = (List.range 16).map fun j => a.getD j 0 := by
  apply List.ext_getElem
  · simp [h]
  · intro i h1 h2
    simp [List.getD, h1]
theorem valD_F (a : List Int) (h : a.length = 16) : valD a = valF fun j => a.getD j 0 := by
  have := valD_range_map (fun j => a.getD j 0) 16
  rw [← list_map a h] at this
  exact this
theorem mul_mod (a b : List Int) (ha : a.length = 16) (hb : b.length = 16) :
    valD ((List.range 16).map (mulDig (fun j => a.getD j 0) (fun j => b.getD j 0))) % Pr = (valD a * valD b) % Pr := by
  rw [valD_range_map, mul_total, valD_F a ha, valD_F b hb]
  generalize valF (fun j => a.getD j 0) * valF (fun j => b.getD j 0) = x
  generalize sumN _ 16 = y
  have : x = (x - 2 * Pr * y) + Pr * (2 * y) := by grind
  rw [this, Int.add_mul_emod_self_left]
  congr 1
  grind
theorem mulTerm_bound (a b : Nat → Int) (ha : ∀ j, 0 ≤ a j ∧ a j < 65536) (hb : ∀ j, 0 ≤ b j ∧ b j < 65536) (i j : Nat) : 0 ≤ mulTerm a b i j ∧ mulTerm a b i j ≤ 163203776550 := by
  unfold mulTerm
  have key : ∀ x y : Int, 0 ≤ x → x < 65536 → 0 ≤ y → y < 65536 → 0 ≤ x * y ∧ x * y ≤ 4294836225 := fun x y h1 h2 h3 h4 => by
    refine ⟨Int.mul_nonneg h1 h3, ?_⟩
    have := Int.mul_le_mul (show x ≤ 65535 by omega) (show y ≤ 65535 by omega) h3 (by omega : (0 : Int) ≤ 65535)
    simpa using this
  split
  · have := key _ _ (ha j).1 (ha j).2 (hb (i - j)).1 (hb (i - j)).2
    omega
  · have := key _ _ (ha j).1 (ha j).2 (hb (16 + i - j)).1 (hb (16 + i - j)).2
    rw [Int.mul_assoc]
    omega
theorem sumN_bound (f : Nat → Int) (M : Int) (h : ∀ j, 0 ≤ f j ∧ f j ≤ M) : ∀ n : Nat, 0 ≤ sumN f n ∧ sumN f n ≤ (n : Int) * M
  | 0 => by simp [sumN]
  | n + 1 => by
    have ih := sumN_bound f M h n
    have := h n
    simp only [sumN]
    have e : ((n + 1 : Nat) : Int) * M = (n : Int) * M + M := by rw [Int.natCast_add, Int.add_mul]; simp
    rw [e]
    omega
end Go.Proofs.YtccjhlipcgpkmaaDoor
