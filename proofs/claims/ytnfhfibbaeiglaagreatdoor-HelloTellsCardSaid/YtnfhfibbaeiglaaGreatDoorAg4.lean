/- The texts Refm, Refn, Leafb, one behind the other. -/
import Derived.Test.YtnfhfibbaeiglaaGreatDoorAg3
import Derived.Test.YtnfhfibbaeiglaaGreatDoorAg1
/- Plain mathematics of the reference's product of digits. -/
namespace Go.Proofs.YtnfhfibbaeiglaaGreatDoor
set_option maxRecDepth 100000
open Go.RowKit
def sumNR (f : Nat → Int) : Nat → Int
  | 0 => 0
  | n + 1 => sumNR f n + f n
theorem sumN_mul (c : Int) (f : Nat → Int) : ∀ n, c * sumNR f n = sumNR (fun i => c * f i) n
  | 0 => by simp [sumNR]
  | n + 1 => by simp only [sumNR]; rw [Int.mul_add, sumN_mul c f n]
theorem sumN_add (f g : Nat → Int) : ∀ n, sumNR f n + sumNR g n = sumNR (fun i => f i + g i) n
  | 0 => by simp [sumNR]
  | n + 1 => by simp only [sumNR]; rw [← sumN_add f g n]; omega
theorem sumN_zero : ∀ n, sumNR (fun _ => 0) n = 0
  | 0 => rfl
  | n + 1 => by simp [sumNR, sumN_zero n]
theorem sumN_swap (c : Nat → Nat → Int) (n : Nat) : ∀ m, sumNR (fun i => sumNR (fun j => c i j) m) n = sumNR (fun j => sumNR (fun i => c i j) n) m
  | 0 => by simp only [sumNR]; exact sumN_zero n
  | m + 1 => by simp only [sumNR]; rw [← sumN_swap c n m, sumN_add]
theorem sumN_congr {f g : Nat → Int} : ∀ n, (∀ i, i < n → f i = g i) → sumNR f n = sumNR g n
  | 0, _ => rfl
  | n + 1, h => by simp only [sumNR]; rw [sumN_congr n fun i hi => h i (by omega), h n (by omega)]

/-- what digit j of the first number puts to digit i of the product -/
def mulTerm (a b : Nat → Int) (i j : Nat) : Int := if j ≤ i then a j * b (i - j) else 38 * a j * b (16 + i - j)
def mulDig (a b : Nat → Int) (i : Nat) : Int := sumNR (mulTerm a b i) 16
def valF (b : Nat → Int) : Int := sumNR (fun k => 65536 ^ k * b k) 16
def hiPart (b : Nat → Int) (j : Nat) : Int := sumNR (fun k => if 16 ≤ k + j then 65536 ^ (k + j - 16) * b k else 0) 16
theorem mulRow0 (a b : Nat → Int) : sumNR (fun i => 65536 ^ i * mulTerm a b i 0) 16 = a 0 * (65536 ^ 0 * valF b - 2 * Pr * hiPart b 0) := by
  simp only [sumNR, mulTerm, valF, hiPart, Pr, Nat.reduceLeDiff, Nat.reduceSub, Nat.reduceAdd, Nat.zero_le, Nat.le_refl, if_true, if_false, Nat.sub_zero, Nat.sub_self, Nat.add_zero, Nat.le_zero_eq, Nat.add_one_ne_zero]
  generalize a 0 = x
  generalize b 0 = b0; generalize b 1 = b1; generalize b 2 = b2; generalize b 3 = b3; generalize b 4 = b4; generalize b 5 = b5; generalize b 6 = b6; generalize b 7 = b7
  generalize b 8 = b8; generalize b 9 = b9; generalize b 10 = b10; generalize b 11 = b11; generalize b 12 = b12; generalize b 13 = b13; generalize b 14 = b14; generalize b 15 = b15
  grind
theorem mulRow1 (a b : Nat → Int) : sumNR (fun i => 65536 ^ i * mulTerm a b i 1) 16 = a 1 * (65536 ^ 1 * valF b - 2 * Pr * hiPart b 1) := by
  simp only [sumNR, mulTerm, valF, hiPart, Pr, Nat.reduceLeDiff, Nat.reduceSub, Nat.reduceAdd, Nat.le_refl, if_true, if_false, Nat.sub_self, Nat.add_zero, Nat.zero_add, Nat.le_zero_eq, Nat.add_one_ne_zero]
  generalize a 1 = x
  generalize b 0 = b0; generalize b 1 = b1; generalize b 2 = b2; generalize b 3 = b3; generalize b 4 = b4; generalize b 5 = b5; generalize b 6 = b6; generalize b 7 = b7
  generalize b 8 = b8; generalize b 9 = b9; generalize b 10 = b10; generalize b 11 = b11; generalize b 12 = b12; generalize b 13 = b13; generalize b 14 = b14; generalize b 15 = b15
  grind
theorem mulRow2 (a b : Nat → Int) : sumNR (fun i => 65536 ^ i * mulTerm a b i 2) 16 = a 2 * (65536 ^ 2 * valF b - 2 * Pr * hiPart b 2) := by
  simp only [sumNR, mulTerm, valF, hiPart, Pr, Nat.reduceLeDiff, Nat.reduceSub, Nat.reduceAdd, Nat.le_refl, if_true, if_false, Nat.sub_self, Nat.add_zero, Nat.zero_add, Nat.le_zero_eq, Nat.add_one_ne_zero]
  generalize a 2 = x
  generalize b 0 = b0; generalize b 1 = b1; generalize b 2 = b2; generalize b 3 = b3; generalize b 4 = b4; generalize b 5 = b5; generalize b 6 = b6; generalize b 7 = b7
  generalize b 8 = b8; generalize b 9 = b9; generalize b 10 = b10; generalize b 11 = b11; generalize b 12 = b12; generalize b 13 = b13; generalize b 14 = b14; generalize b 15 = b15
  grind
theorem mulRow3 (a b : Nat → Int) : sumNR (fun i => 65536 ^ i * mulTerm a b i 3) 16 = a 3 * (65536 ^ 3 * valF b - 2 * Pr * hiPart b 3) := by
  simp only [sumNR, mulTerm, valF, hiPart, Pr, Nat.reduceLeDiff, Nat.reduceSub, Nat.reduceAdd, Nat.le_refl, if_true, if_false, Nat.sub_self, Nat.add_zero, Nat.zero_add, Nat.le_zero_eq, Nat.add_one_ne_zero]
  generalize a 3 = x
  generalize b 0 = b0; generalize b 1 = b1; generalize b 2 = b2; generalize b 3 = b3; generalize b 4 = b4; generalize b 5 = b5; generalize b 6 = b6; generalize b 7 = b7
  generalize b 8 = b8; generalize b 9 = b9; generalize b 10 = b10; generalize b 11 = b11; generalize b 12 = b12; generalize b 13 = b13; generalize b 14 = b14; generalize b 15 = b15
  grind
theorem mulRow4 (a b : Nat → Int) : sumNR (fun i => 65536 ^ i * mulTerm a b i 4) 16 = a 4 * (65536 ^ 4 * valF b - 2 * Pr * hiPart b 4) := by
  simp only [sumNR, mulTerm, valF, hiPart, Pr, Nat.reduceLeDiff, Nat.reduceSub, Nat.reduceAdd, Nat.le_refl, if_true, if_false, Nat.sub_self, Nat.add_zero, Nat.zero_add, Nat.le_zero_eq, Nat.add_one_ne_zero]
  generalize a 4 = x
  generalize b 0 = b0; generalize b 1 = b1; generalize b 2 = b2; generalize b 3 = b3; generalize b 4 = b4; generalize b 5 = b5; generalize b 6 = b6; generalize b 7 = b7
  generalize b 8 = b8; generalize b 9 = b9; generalize b 10 = b10; generalize b 11 = b11; generalize b 12 = b12; generalize b 13 = b13; generalize b 14 = b14; generalize b 15 = b15
  grind
theorem mulRow5 (a b : Nat → Int) : sumNR (fun i => 65536 ^ i * mulTerm a b i 5) 16 = a 5 * (65536 ^ 5 * valF b - 2 * Pr * hiPart b 5) := by
  simp only [sumNR, mulTerm, valF, hiPart, Pr, Nat.reduceLeDiff, Nat.reduceSub, Nat.reduceAdd, Nat.le_refl, if_true, if_false, Nat.sub_self, Nat.add_zero, Nat.zero_add, Nat.le_zero_eq, Nat.add_one_ne_zero]
  generalize a 5 = x
  generalize b 0 = b0; generalize b 1 = b1; generalize b 2 = b2; generalize b 3 = b3; generalize b 4 = b4; generalize b 5 = b5; generalize b 6 = b6; generalize b 7 = b7
  generalize b 8 = b8; generalize b 9 = b9; generalize b 10 = b10; generalize b 11 = b11; generalize b 12 = b12; generalize b 13 = b13; generalize b 14 = b14; generalize b 15 = b15
  grind
theorem mulRow6 (a b : Nat → Int) : sumNR (fun i => 65536 ^ i * mulTerm a b i 6) 16 = a 6 * (65536 ^ 6 * valF b - 2 * Pr * hiPart b 6) := by
  simp only [sumNR, mulTerm, valF, hiPart, Pr, Nat.reduceLeDiff, Nat.reduceSub, Nat.reduceAdd, Nat.le_refl, if_true, if_false, Nat.sub_self, Nat.add_zero, Nat.zero_add, Nat.le_zero_eq, Nat.add_one_ne_zero]
  generalize a 6 = x
  generalize b 0 = b0; generalize b 1 = b1; generalize b 2 = b2; generalize b 3 = b3; generalize b 4 = b4; generalize b 5 = b5; generalize b 6 = b6; generalize b 7 = b7
  generalize b 8 = b8; generalize b 9 = b9; generalize b 10 = b10; generalize b 11 = b11; generalize b 12 = b12; generalize b 13 = b13; generalize b 14 = b14; generalize b 15 = b15
  grind
theorem mulRow7 (a b : Nat → Int) : sumNR (fun i => 65536 ^ i * mulTerm a b i 7) 16 = a 7 * (65536 ^ 7 * valF b - 2 * Pr * hiPart b 7) := by
  simp only [sumNR, mulTerm, valF, hiPart, Pr, Nat.reduceLeDiff, Nat.reduceSub, Nat.reduceAdd, Nat.le_refl, if_true, if_false, Nat.sub_self, Nat.add_zero, Nat.zero_add, Nat.le_zero_eq, Nat.add_one_ne_zero]
  generalize a 7 = x
  generalize b 0 = b0; generalize b 1 = b1; generalize b 2 = b2; generalize b 3 = b3; generalize b 4 = b4; generalize b 5 = b5; generalize b 6 = b6; generalize b 7 = b7
  generalize b 8 = b8; generalize b 9 = b9; generalize b 10 = b10; generalize b 11 = b11; generalize b 12 = b12; generalize b 13 = b13; generalize b 14 = b14; generalize b 15 = b15
  grind
theorem mulRow8 (a b : Nat → Int) : sumNR (fun i => 65536 ^ i * mulTerm a b i 8) 16 = a 8 * (65536 ^ 8 * valF b - 2 * Pr * hiPart b 8) := by
  simp only [sumNR, mulTerm, valF, hiPart, Pr, Nat.reduceLeDiff, Nat.reduceSub, Nat.reduceAdd, Nat.le_refl, if_true, if_false, Nat.sub_self, Nat.add_zero, Nat.zero_add, Nat.le_zero_eq, Nat.add_one_ne_zero]
  generalize a 8 = x
  generalize b 0 = b0; generalize b 1 = b1; generalize b 2 = b2; generalize b 3 = b3; generalize b 4 = b4; generalize b 5 = b5; generalize b 6 = b6; generalize b 7 = b7
  generalize b 8 = b8; generalize b 9 = b9; generalize b 10 = b10; generalize b 11 = b11; generalize b 12 = b12; generalize b 13 = b13; generalize b 14 = b14; generalize b 15 = b15
  grind
theorem mulRow9 (a b : Nat → Int) : sumNR (fun i => 65536 ^ i * mulTerm a b i 9) 16 = a 9 * (65536 ^ 9 * valF b - 2 * Pr * hiPart b 9) := by
  simp only [sumNR, mulTerm, valF, hiPart, Pr, Nat.reduceLeDiff, Nat.reduceSub, Nat.reduceAdd, Nat.le_refl, if_true, if_false, Nat.sub_self, Nat.add_zero, Nat.zero_add, Nat.le_zero_eq, Nat.add_one_ne_zero]
  generalize a 9 = x
  generalize b 0 = b0; generalize b 1 = b1; generalize b 2 = b2; generalize b 3 = b3; generalize b 4 = b4; generalize b 5 = b5; generalize b 6 = b6; generalize b 7 = b7
  generalize b 8 = b8; generalize b 9 = b9; generalize b 10 = b10; generalize b 11 = b11; generalize b 12 = b12; generalize b 13 = b13; generalize b 14 = b14; generalize b 15 = b15
  grind
theorem mulRow10 (a b : Nat → Int) : sumNR (fun i => 65536 ^ i * mulTerm a b i 10) 16 = a 10 * (65536 ^ 10 * valF b - 2 * Pr * hiPart b 10) := by
  simp only [sumNR, mulTerm, valF, hiPart, Pr, Nat.reduceLeDiff, Nat.reduceSub, Nat.reduceAdd, Nat.le_refl, if_true, if_false, Nat.sub_self, Nat.add_zero, Nat.zero_add, Nat.le_zero_eq, Nat.add_one_ne_zero]
  generalize a 10 = x
  generalize b 0 = b0; generalize b 1 = b1; generalize b 2 = b2; generalize b 3 = b3; generalize b 4 = b4; generalize b 5 = b5; generalize b 6 = b6; generalize b 7 = b7
  generalize b 8 = b8; generalize b 9 = b9; generalize b 10 = b10; generalize b 11 = b11; generalize b 12 = b12; generalize b 13 = b13; generalize b 14 = b14; generalize b 15 = b15
  grind
theorem mulRow11 (a b : Nat → Int) : sumNR (fun i => 65536 ^ i * mulTerm a b i 11) 16 = a 11 * (65536 ^ 11 * valF b - 2 * Pr * hiPart b 11) := by
  simp only [sumNR, mulTerm, valF, hiPart, Pr, Nat.reduceLeDiff, Nat.reduceSub, Nat.reduceAdd, Nat.le_refl, if_true, if_false, Nat.sub_self, Nat.add_zero, Nat.zero_add, Nat.le_zero_eq, Nat.add_one_ne_zero]
  generalize a 11 = x
  generalize b 0 = b0; generalize b 1 = b1; generalize b 2 = b2; generalize b 3 = b3; generalize b 4 = b4; generalize b 5 = b5; generalize b 6 = b6; generalize b 7 = b7
  generalize b 8 = b8; generalize b 9 = b9; generalize b 10 = b10; generalize b 11 = b11; generalize b 12 = b12; generalize b 13 = b13; generalize b 14 = b14; generalize b 15 = b15
  grind
theorem mulRow12 (a b : Nat → Int) : sumNR (fun i => 65536 ^ i * mulTerm a b i 12) 16 = a 12 * (65536 ^ 12 * valF b - 2 * Pr * hiPart b 12) := by
  simp only [sumNR, mulTerm, valF, hiPart, Pr, Nat.reduceLeDiff, Nat.reduceSub, Nat.reduceAdd, Nat.le_refl, if_true, if_false, Nat.sub_self, Nat.add_zero, Nat.zero_add, Nat.le_zero_eq, Nat.add_one_ne_zero]
  generalize a 12 = x
  generalize b 0 = b0; generalize b 1 = b1; generalize b 2 = b2; generalize b 3 = b3; generalize b 4 = b4; generalize b 5 = b5; generalize b 6 = b6; generalize b 7 = b7
  generalize b 8 = b8; generalize b 9 = b9; generalize b 10 = b10; generalize b 11 = b11; generalize b 12 = b12; generalize b 13 = b13; generalize b 14 = b14; generalize b 15 = b15
  grind
theorem mulRow13 (a b : Nat → Int) : sumNR (fun i => 65536 ^ i * mulTerm a b i 13) 16 = a 13 * (65536 ^ 13 * valF b - 2 * Pr * hiPart b 13) := by
  simp only [sumNR, mulTerm, valF, hiPart, Pr, Nat.reduceLeDiff, Nat.reduceSub, Nat.reduceAdd, Nat.le_refl, if_true, if_false, Nat.sub_self, Nat.add_zero, Nat.zero_add, Nat.le_zero_eq, Nat.add_one_ne_zero]
  generalize a 13 = x
  generalize b 0 = b0; generalize b 1 = b1; generalize b 2 = b2; generalize b 3 = b3; generalize b 4 = b4; generalize b 5 = b5; generalize b 6 = b6; generalize b 7 = b7
  generalize b 8 = b8; generalize b 9 = b9; generalize b 10 = b10; generalize b 11 = b11; generalize b 12 = b12; generalize b 13 = b13; generalize b 14 = b14; generalize b 15 = b15
  grind
theorem mulRow14 (a b : Nat → Int) : sumNR (fun i => 65536 ^ i * mulTerm a b i 14) 16 = a 14 * (65536 ^ 14 * valF b - 2 * Pr * hiPart b 14) := by
  simp only [sumNR, mulTerm, valF, hiPart, Pr, Nat.reduceLeDiff, Nat.reduceSub, Nat.reduceAdd, Nat.le_refl, if_true, if_false, Nat.sub_self, Nat.add_zero, Nat.zero_add, Nat.le_zero_eq, Nat.add_one_ne_zero]
  generalize a 14 = x
  generalize b 0 = b0; generalize b 1 = b1; generalize b 2 = b2; generalize b 3 = b3; generalize b 4 = b4; generalize b 5 = b5; generalize b 6 = b6; generalize b 7 = b7
  generalize b 8 = b8; generalize b 9 = b9; generalize b 10 = b10; generalize b 11 = b11; generalize b 12 = b12; generalize b 13 = b13; generalize b 14 = b14; generalize b 15 = b15
  grind
theorem mulRow15 (a b : Nat → Int) : sumNR (fun i => 65536 ^ i * mulTerm a b i 15) 16 = a 15 * (65536 ^ 15 * valF b - 2 * Pr * hiPart b 15) := by
  simp only [sumNR, mulTerm, valF, hiPart, Pr, Nat.reduceLeDiff, Nat.reduceSub, Nat.reduceAdd, Nat.le_refl, if_true, if_false, Nat.sub_self, Nat.add_zero, Nat.zero_add, Nat.le_zero_eq, Nat.add_one_ne_zero]
  generalize a 15 = x
  generalize b 0 = b0; generalize b 1 = b1; generalize b 2 = b2; generalize b 3 = b3; generalize b 4 = b4; generalize b 5 = b5; generalize b 6 = b6; generalize b 7 = b7
  generalize b 8 = b8; generalize b 9 = b9; generalize b 10 = b10; generalize b 11 = b11; generalize b 12 = b12; generalize b 13 = b13; generalize b 14 = b14; generalize b 15 = b15
  grind
theorem mulRow (a b : Nat → Int) (j : Nat) (hj : j < 16) : sumNR (fun i => 65536 ^ i * mulTerm a b i j) 16 = a j * (65536 ^ j * valF b - 2 * Pr * hiPart b j) := by
  have : j = 0 ∨ j = 1 ∨ j = 2 ∨ j = 3 ∨ j = 4 ∨ j = 5 ∨ j = 6 ∨ j = 7 ∨ j = 8 ∨ j = 9 ∨ j = 10 ∨ j = 11 ∨ j = 12 ∨ j = 13 ∨ j = 14 ∨ j = 15 := by omega
  rcases this with rfl | rfl | rfl | rfl | rfl | rfl | rfl | rfl | rfl | rfl | rfl | rfl | rfl | rfl | rfl | rfl
  · exact mulRow0 a b
  · exact mulRow1 a b
  · exact mulRow2 a b
  · exact mulRow3 a b
  · exact mulRow4 a b
  · exact mulRow5 a b
  · exact mulRow6 a b
  · exact mulRow7 a b
  · exact mulRow8 a b
  · exact mulRow9 a b
  · exact mulRow10 a b
  · exact mulRow11 a b
  · exact mulRow12 a b
  · exact mulRow13 a b
  · exact mulRow14 a b
  · exact mulRow15 a b
theorem sum_split (a h : Nat → Int) (V M : Int) : ∀ n, sumNR (fun j => a j * (65536 ^ j * V - M * h j)) n = sumNR (fun j => 65536 ^ j * a j) n * V - M * sumNR (fun j => a j * h j) n
  | 0 => by simp [sumNR]
  | n + 1 => by
    simp only [sumNR]
    rw [sum_split a h V M n]
    generalize sumNR (fun j => 65536 ^ j * a j) n = p
    generalize sumNR (fun j => a j * h j) n = q
    generalize (65536 : Int) ^ n = r
    grind
theorem mul_total (a b : Nat → Int) : sumNR (fun i => 65536 ^ i * mulDig a b i) 16 = valF a * valF b - 2 * Pr * sumNR (fun j => a j * hiPart b j) 16 := by
  have e1 : sumNR (fun i => 65536 ^ i * mulDig a b i) 16 = sumNR (fun i => sumNR (fun j => 65536 ^ i * mulTerm a b i j) 16) 16 :=
    sumN_congr 16 fun i _ => by unfold mulDig; exact sumN_mul _ _ _
  rw [e1, sumN_swap, sumN_congr 16 (mulRow a b), sum_split]
  rfl
theorem valD_range_map (f : Nat → Int) : ∀ n, valD ((List.range n).map f) = sumNR (fun i => 65536 ^ i * f i) n
  | 0 => rfl
  | n + 1 => by
    rw [List.range_succ, List.map_append, List.map_cons, List.map_nil, valD_snoc, valD_range_map f n, List.length_map, List.length_range]
    simp only [sumNR]
    rw [Int.mul_comm]
theorem list_map (a : List Int) (h : a.length = 16) : a = (List.range 16).map fun j => a.getD j 0 := by
  apply List.ext_getElem
  · simp [h]
  · intro i h1 h2
    simp [List.getD, h1]
theorem valD_F (a : List Int) (h : a.length = 16) : valD a = valF fun j => a.getD j 0 := by
  have := valD_range_map (fun j => a.getD j 0) 16
  rw [← list_map a h] at this
  exact this
theorem mul_mod (a b : List Int) (ha : a.length = 16) (hb : b.length = 16) :
    valD ((List.range 16).map (mulDig (fun j => a.getD j 0) (fun j => b.getD j 0))) % Pr = (valD a * valD b) % Pr := by
  rw [valD_range_map, mul_total, valD_F a ha, valD_F b hb]
  generalize valF (fun j => a.getD j 0) * valF (fun j => b.getD j 0) = x
  generalize sumNR _ 16 = y
  have : x = (x - 2 * Pr * y) + Pr * (2 * y) := by grind
  rw [this, Int.add_mul_emod_self_left]
  congr 1
  grind
theorem mulTerm_bound (a b : Nat → Int) (ha : ∀ j, 0 ≤ a j ∧ a j < 65536) (hb : ∀ j, 0 ≤ b j ∧ b j < 65536) (i j : Nat) : 0 ≤ mulTerm a b i j ∧ mulTerm a b i j ≤ 163203776550 := by
  unfold mulTerm
  have key : ∀ x y : Int, 0 ≤ x → x < 65536 → 0 ≤ y → y < 65536 → 0 ≤ x * y ∧ x * y ≤ 4294836225 := fun x y h1 h2 h3 h4 => by
    refine ⟨Int.mul_nonneg h1 h3, ?_⟩
    have := Int.mul_le_mul (show x ≤ 65535 by omega) (show y ≤ 65535 by omega) h3 (by omega : (0 : Int) ≤ 65535)
    simpa using this
  split
  · have := key _ _ (ha j).1 (ha j).2 (hb (i - j)).1 (hb (i - j)).2
    omega
  · have := key _ _ (ha j).1 (ha j).2 (hb (16 + i - j)).1 (hb (16 + i - j)).2
    rw [Int.mul_assoc]
    omega
theorem sumN_bound (f : Nat → Int) (M : Int) (h : ∀ j, 0 ≤ f j ∧ f j ≤ M) : ∀ n : Nat, 0 ≤ sumNR f n ∧ sumNR f n ≤ (n : Int) * M
  | 0 => by simp [sumNR]
  | n + 1 => by
    have ih := sumN_bound f M h n
    have := h n
    simp only [sumNR]
    have e : ((n + 1 : Nat) : Int) * M = (n : Int) * M + M := by rw [Int.natCast_add, Int.add_mul]; simp
    rw [e]
    omega
end Go.Proofs.YtnfhfibbaeiglaaGreatDoor

/- The contract of the reference's product of digits. -/
namespace Go.Proofs.YtnfhfibbaeiglaaGreatDoor
set_option maxRecDepth 100000
open Go.RowKit
def mulOut (a b : List Int) (k : Nat) : List Int := (List.range k).map (mulDig (fun j => a.getD j 0) (fun j => b.getD j 0))
theorem mulOut_length (a b : List Int) (k : Nat) : (mulOut a b k).length = k := by simp [mulOut]
theorem mulOut_succ (a b : List Int) (k : Nat) : mulOut a b (k + 1) = mulOut a b k ++ [mulDig (fun j => a.getD j 0) (fun j => b.getD j 0) k] := by simp [mulOut, List.range_succ]
theorem getD_small {a : List Int} (h : Small a) (j : Nat) : 0 ≤ a.getD j 0 ∧ a.getD j 0 < 65536 := by
  rw [List.getD_eq_getElem?_getD]
  rcases Nat.lt_or_ge j a.length with hj | hj
  · rw [List.getElem?_eq_getElem hj]; exact h _ (List.getElem_mem hj)
  · rw [List.getElem?_eq_none hj]; simp
def MulOuter (w : World) (a b : List Int) (v i : Value) (wr : World) : Prop := ∃ k g cap : Nat, k ≤ 16 ∧ i = .int .i64 k ∧ v = .slice (some ⟨g, 0, none⟩) k cap ∧ Ints wr w.heap.size v (mulOut a b k) ∧ Below w.heap.size w wr
def MulInner (wo : World) (a b : List Int) (i : Nat) (n j : Value) (wr : World) : Prop := ∃ k q : Nat, k ≤ 16 ∧ j = .int .i64 k ∧ n = .int .i64 (sumNR (mulTerm (fun j => a.getD j 0) (fun j => b.getD j 0) i) k) ∧ wr = wo.drewN q

set_option maxHeartbeats 1000000 in
theorem refMul_any (va vb : Value) (a b : List Int) (hla : a.length = 16) (hlb : b.length = 16) (hsa : Small a) (hsb : Small b) (w : World) (hA : LIntsAt w va a) (hB : LIntsAt w vb b) :
    Calls Tryz.prog 27 #[va, vb] w (RefPost ((valD a * valD b) % Pr) w) := by
  obtain ⟨ga, ca, rfl, hga, hca⟩ := hA
  obtain ⟨gb, cb, rfl, hgb, hcb⟩ := hB
  have HCA := Lib.hid hca; have HCB := Lib.hid hcb; have HLA := Lib.hid hla; have HLB := Lib.hid hlb; have HSA := Lib.hid hsa; have HSB := Lib.hid hsb
  clear hca hcb hsa hsb
  rw [hla, hlb]
  clear hla hlb
  go_enter Tryz.func27, Tryz.ntmps27
  go_wp2_with fail
  go_loopw [5, 6] (MulOuter w a b) (fun _ i _ => 16 - (intOf i).toNat)
  case atStart => exact ⟨0, _, _, by omega, rfl, rfl, Ints.empty w _ (Nat.le_refl _), by go_grown⟩
  case round =>
    obtain ⟨k, g, cap, hk, rfl, rfl, hI, hBl⟩ := hrel
    have hsz := hBl.size
    have HI := Lib.hid hI
    clear hI
    by_cases hlt : k < 16
    · have h1 : (k : Int) < 16 := by omega
      go_wp2_with fail
      obtain ⟨wo, rfl⟩ : ∃ wo : World, wo = wr := ⟨_, rfl⟩
      go_loopw [7, 8] (MulInner wo a b k) (fun _ j _ => 16 - (intOf j).toNat)
      case atStart => exact ⟨0, 0, by omega, rfl, rfl, rfl⟩
      case round =>
        obtain ⟨j, q, hj, rfl, rfl, rfl⟩ := hrel
        have hs0 := sumN_bound _ _ (mulTerm_bound _ _ (getD_small HSA.out) (getD_small HSB.out) k) j
        by_cases hjl : j < 16
        · have hj1 : (j : Int) < 16 := by omega
          have hda := getD_small HSA.out j
          have hca : wo.cell? ⟨ga, j, none⟩ = some (.int .i64 (a.getD j 0)) := by
            rw [hBl.cell (p := ⟨ga, j, none⟩) hga]; exact HCA.out j (by rw [HLA.out]; exact hjl)
          by_cases hle : j ≤ k
          · have hle' : (j : Int) ≤ (k : Int) := by omega
            have hdb := getD_small HSB.out (k - j)
            have hcb : wo.cell? ⟨gb, k - j, none⟩ = some (.int .i64 (b.getD (k - j) 0)) := by
                rw [hBl.cell (p := ⟨gb, k - j, none⟩) hgb]; exact HCB.out (k - j) (by rw [HLB.out]; omega)
            have ht : sumNR (mulTerm (fun j => a.getD j 0) (fun j => b.getD j 0) k) (j + 1) = sumNR (mulTerm (fun j => a.getD j 0) (fun j => b.getD j 0) k) j + a.getD j 0 * b.getD (k - j) 0 := by
              show _ + mulTerm _ _ k j = _
              unfold mulTerm; rw [if_pos hle]
            have hs1 := sumN_bound _ _ (mulTerm_bound _ _ (getD_small HSA.out) (getD_small HSB.out) k) (j + 1)
            rw [ht] at hs1
            have HTT := Lib.hid ht
            clear ht
            generalize sumNR (mulTerm (fun j => a.getD j 0) (fun j => b.getD j 0) k) j = S at *
            generalize a.getD j 0 = x at *
            generalize b.getD (k - j) 0 = y at *
            have hxy : 0 ≤ x * y := Int.mul_nonneg hda.1 hdb.1
            have w1 : IntKind.i64.wrap (x * y) = x * y := IntWalk.i64_in _ (by omega)
            have w2 : IntKind.i64.wrap (S + x * y) = S + x * y := IntWalk.i64_in _ (by omega)
            have e1 : IntKind.i64.wrap ((k : Int) - (j : Int)) = (k : Int) - (j : Int) := IntWalk.i64_in _ (by omega)
            have e2 : ((k : Int) - (j : Int)).toNat = k - j := by omega
            have e3 : (0 : Int) ≤ (k : Int) - (j : Int) := by omega
            have e4 : (k : Int) - (j : Int) < 16 := by omega
            clear hs0 hs1
            go_wp2_with fail
            go_quiet (fail)
            go_wp2_with fail
            exact ⟨⟨j + 1, _, by omega, by simp, by rw [HTT.out], rfl⟩, by simp [intOf]; omega⟩
          · have hle' : (k : Int) < (j : Int) := by omega
            have hle2 : ¬ (j : Int) ≤ (k : Int) := by omega
            have hdb := getD_small HSB.out (16 + k - j)
            have hcb : wo.cell? ⟨gb, 16 + k - j, none⟩ = some (.int .i64 (b.getD (16 + k - j) 0)) := by
              rw [hBl.cell (p := ⟨gb, 16 + k - j, none⟩) hgb]; exact HCB.out (16 + k - j) (by rw [HLB.out]; omega)
            have ht : sumNR (mulTerm (fun j => a.getD j 0) (fun j => b.getD j 0) k) (j + 1) = sumNR (mulTerm (fun j => a.getD j 0) (fun j => b.getD j 0) k) j + 38 * a.getD j 0 * b.getD (16 + k - j) 0 := by
              show _ + mulTerm _ _ k j = _
              unfold mulTerm; rw [if_neg hle]
            have hs1 := sumN_bound _ _ (mulTerm_bound _ _ (getD_small HSA.out) (getD_small HSB.out) k) (j + 1)
            rw [ht] at hs1
            have HTT := Lib.hid ht
            clear ht
            generalize sumNR (mulTerm (fun j => a.getD j 0) (fun j => b.getD j 0) k) j = S at *
            generalize a.getD j 0 = x at *
            generalize b.getD (16 + k - j) 0 = y at *
            have hxy : 0 ≤ 38 * x * y := Int.mul_nonneg (by omega) hdb.1
            have w0 : IntKind.i64.wrap (38 * x) = 38 * x := IntWalk.i64_in _ (by omega)
            have w1 : IntKind.i64.wrap (38 * x * y) = 38 * x * y := IntWalk.i64_in _ (by omega)
            have w2 : IntKind.i64.wrap (S + 38 * x * y) = S + 38 * x * y := IntWalk.i64_in _ (by omega)
            have e0 : IntKind.i64.wrap (16 + (k : Int)) = 16 + (k : Int) := IntWalk.i64_in _ (by omega)
            have e1 : IntKind.i64.wrap (16 + (k : Int) - (j : Int)) = 16 + (k : Int) - (j : Int) := IntWalk.i64_in _ (by omega)
            have e2 : (16 + (k : Int) - (j : Int)).toNat = 16 + k - j := by omega
            have e3 : (0 : Int) ≤ 16 + (k : Int) - (j : Int) := by omega
            have e4 : 16 + (k : Int) - (j : Int) < 16 := by omega
            clear hs0 hs1
            go_wp2_with fail
            go_quiet (fail)
            go_wp2_with fail
            exact ⟨⟨j + 1, _, by omega, by simp, by rw [HTT.out], rfl⟩, by simp [intOf]; omega⟩
        · obtain rfl : j = 16 := by omega
          have hsum : sumNR (mulTerm (fun j => a.getD j 0) (fun j => b.getD j 0) k) 16 = mulDig (fun j => a.getD j 0) (fun j => b.getD j 0) k := rfl
          rw [hsum]
          have HMS := Lib.hid (mulOut_succ a b k)
          generalize mulDig (fun j => a.getD j 0) (fun j => b.getD j 0) k = D at *
          have HML := Lib.hid (mulOut_length a b k)
          obtain ⟨L, hL⟩ : ∃ L, L = mulOut a b k := ⟨_, rfl⟩
          rw [← hL] at HI HML HMS
          clear hL hs0 hsum
          go_wp2_with (at_builtin; refine append_int rfl _ _ rfl w.heap.size _ L D wo.heap.size rfl ?c0 rfl ?c1 ?c2 ?c3 ?_)
          case c0 => exact Ints.alloc (w := wo.drewN _) HI.out _
          case c1 => exact World.cell?_alloc_new (wo.drewN _) _ _ 0
          case c2 => rw [HML.out]; omega
          case c3 => simp; omega
          intro g' cap' w' hI' hg'
          have hB' := Ints.below_grown (wr := wo.drewN _) HI.out (below_quiet hBl _) hsz hg'
          clear hg' hBl
          have HI' := Lib.hid hI'
          clear hI'
          go_wp2_with fail
          refine ⟨⟨k + 1, g', cap', by omega, by simp, by rw [HML.out], ?_, hB'⟩, by simp [intOf]; omega⟩
          rw [HMS.out]
          exact HI'.out
    · obtain rfl : k = 16 := by omega
      have hleft := left_ref_any _ _ (mulOut_length a b 16) (fun d hd => by
        obtain ⟨i, hi, rfl⟩ := List.mem_map.1 hd
        have := sumN_bound _ _ (mulTerm_bound _ _ (getD_small HSA.out) (getD_small HSB.out) i) 16
        unfold mulDig
        omega) wr (HI.out.at (by rw [mulOut_length]; omega))
      have hval : valD (mulOut a b 16) % Pr = (valD a * valD b) % Pr := mul_mod a b HLA.out HLB.out
      rw [hval] at hleft
      have HLF := Lib.hid hleft
      clear hleft hval
      go_wp2_with fail
      refine HLF.out.mono ?_
      rintro e w2 ⟨v2, out, rfl, l2, s2, e2, i2, b2⟩
      go_wp2_with fail
      go_ret
      exact ⟨v2, out, rfl, l2, s2, e2, World.ownsRow.mono i2 hsz, hBl.trans (b2.mono hsz)⟩
end Go.Proofs.YtnfhfibbaeiglaaGreatDoor

/- The contracts of package limb: choose, multiplyAdd. -/
namespace Go.Proofs.YtnfhfibbaeiglaaGreatDoor
set_option maxRecDepth 100000
open Go.RowKit
set_option maxHeartbeats 1000000 in
theorem choose_one (va vb : Value) (x y : Int) (hva : Num va x) (hvb : Num vb y) (w : World) :
    Calls Tryz.prog 98 #[.int .u64 1, va, vb] w (NumPost (· = x) w) := by
  obtain ⟨a0, a1, a2, a3, rfl, ha⟩ := hva
  obtain ⟨b0, b1, b2, b3, rfl, hb⟩ := hvb
  have p0 := pick_one a0 b0 ha.1 hb.1
  have p1 := pick_one a1 b1 ha.2.1 hb.2.1
  have p2 := pick_one a2 b2 ha.2.2.1 hb.2.2.1
  have p3 := pick_one a3 b3 ha.2.2.2.1 hb.2.2.2.1
  go_enter Tryz.func98, Tryz.ntmps98
  go_wp2
  refine wp_loop_rounds 5 ?_
  rw [rounds_succ]; go_wp2; go_region; go_wp2
  rw [rounds_succ]; go_wp2; go_region; go_wp2
  rw [rounds_succ]; go_wp2; go_region; go_wp2
  rw [rounds_succ]; go_wp2; go_region; go_wp2
  rw [rounds_succ]; go_wp2
  refine bodyPost_ret (v := .agg #[.int .u64 a0, .int .u64 a1, .int .u64 a2, .int .u64 a3]) (by simp [results, Tryz.results98, go_sem]) rfl ⟨a0, a1, a2, a3, x, rfl, ha, rfl, ?_⟩
  go_grown
set_option maxHeartbeats 1000000 in
theorem choose_two (va vb : Value) (x y : Int) (hva : Num va x) (hvb : Num vb y) (w : World) :
    Calls Tryz.prog 98 #[.int .u64 0, va, vb] w (NumPost (· = y) w) := by
  obtain ⟨a0, a1, a2, a3, rfl, ha⟩ := hva
  obtain ⟨b0, b1, b2, b3, rfl, hb⟩ := hvb
  have p0 := pick_two a0 b0 ha.1 hb.1
  have p1 := pick_two a1 b1 ha.2.1 hb.2.1
  have p2 := pick_two a2 b2 ha.2.2.1 hb.2.2.1
  have p3 := pick_two a3 b3 ha.2.2.2.1 hb.2.2.2.1
  go_enter Tryz.func98, Tryz.ntmps98
  go_wp2
  refine wp_loop_rounds 5 ?_
  rw [rounds_succ]; go_wp2; go_region; go_wp2
  rw [rounds_succ]; go_wp2; go_region; go_wp2
  rw [rounds_succ]; go_wp2; go_region; go_wp2
  rw [rounds_succ]; go_wp2; go_region; go_wp2
  rw [rounds_succ]; go_wp2
  refine bodyPost_ret (v := .agg #[.int .u64 b0, .int .u64 b1, .int .u64 b2, .int .u64 b3]) (by simp [results, Tryz.results98, go_sem]) rfl ⟨b0, b1, b2, b3, y, rfl, hb, rfl, ?_⟩
  go_grown
set_option maxHeartbeats 1000000 in
theorem mul64_any (x y : Int) (hx : U x) (hy : U y) (w : World) :
    Calls Tryz.prog 111 #[.int .u64 x, .int .u64 y] w fun e w' => e = .returned (.tuple #[.int .u64 (x * y / 18446744073709551616), .int .u64 (x * y % 18446744073709551616)]) ∧ w = w' := by
  have hm := mul64_arith x y hx.1 hx.2 hy.1 hy.2
  have HM := Lib.hid hm
  clear hm
  go_enter Tryz.func111, Tryz.ntmps111
  go_wp2
  simp only [and_low32 x hx.1 hx.2, and_low32 y hy.1 hy.2, IntKind.wrap_u64]
  rw [and_low32 _ (by omega) (by omega), HM.out]
  go_ret2
  exact ⟨rfl, rfl⟩

set_option maxHeartbeats 1000000 in
theorem mad_ex (x y a b : Int) (hx : U x) (hy : U y) (ha : U a) (hb : U b) : ∃ l h, MulTo x y a b l h ∧ ∀ w : World,
    Calls Tryz.prog 108 #[.int .u64 x, .int .u64 y, .int .u64 a, .int .u64 b] w fun e w' => e = .returned (.tuple #[.int .u64 l, .int .u64 h]) ∧ w = w' := by
  have hxy : 0 ≤ x * y ∧ x * y ≤ 340282366920938463426481119284349108225 := by
    refine ⟨Int.mul_nonneg hx.1 hy.1, ?_⟩
    have := Int.mul_le_mul (show x ≤ 18446744073709551615 by have := hx.2; omega) (show y ≤ 18446744073709551615 by have := hy.2; omega) hy.1 (by omega : (0 : Int) ≤ 18446744073709551615)
    simpa using this
  have hl : U (x * y % 18446744073709551616) := by unfold U; omega
  obtain ⟨s1, c1, e1, r1⟩ := add64_ex (x * y % 18446744073709551616) a 0 hl ha (by omega)
  obtain ⟨s2, c2, e2, r2⟩ := add64_ex s1 b 0 e1.1 hb (by omega)
  have hh : x * y / 18446744073709551616 + c1 + c2 < 18446744073709551616 := by
    have g1 := e1.2.2; have g2 := e2.2.2; have u1 := e1.1; have u2 := e2.1; unfold U at *; omega
  have hh0 : 0 ≤ x * y / 18446744073709551616 := by omega
  refine ⟨s2, x * y / 18446744073709551616 + c1 + c2, ⟨e2.1, ?_, ?_⟩, fun w => ?_⟩
  · have g1 := e1.2.1; have g2 := e2.2.1; unfold U; omega
  · have g1 := e1.2.2; have g2 := e2.2.2; omega
  have w1 : IntKind.u64.wrap (x * y / 18446744073709551616 + c1) = x * y / 18446744073709551616 + c1 := by
    have g1 := e1.2.1; have g2 := e2.2.1; rw [IntKind.wrap_u64]; omega
  have w2 : IntKind.u64.wrap (x * y / 18446744073709551616 + c1 + c2) = x * y / 18446744073709551616 + c1 + c2 := by
    have g1 := e1.2.1; have g2 := e2.2.1; rw [IntKind.wrap_u64]; omega
  have m := mul64_any x y hx hy w
  clear e1 e2 hh hh0 hxy hl
  generalize x * y / 18446744073709551616 = hi at *
  generalize x * y % 18446744073709551616 = lo at *
  have M := Lib.hid m
  clear m
  go_enter Tryz.func108, Tryz.ntmps108
  go_wp2_with (go_at_call 111; refine (M.out).mono ?_; rintro e w' ⟨rfl, rfl⟩)
  go_ret2
  exact ⟨rfl, rfl⟩
end Go.Proofs.YtnfhfibbaeiglaaGreatDoor
