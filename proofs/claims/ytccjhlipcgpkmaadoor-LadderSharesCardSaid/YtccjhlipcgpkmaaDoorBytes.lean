/- A number's bytes, the lowest first. Nothing of the program stands here. -/
import Derived.Test.YtccjhlipcgpkmaaDoorNum
import Derived.Laws.BytesArg
namespace Go.Proofs.YtccjhlipcgpkmaaDoor
open Go.RowKit

/-- the n lowest bytes of x, as numbers -/
def bytesLE : Nat → Int → List Int
  | 0, _ => []
  | n + 1, x => x % 256 :: bytesLE n (x / 256)
theorem bytesLE_length (n : Nat) : ∀ x, (bytesLE n x).length = n := by
  induction n with
  | zero => intro x; rfl
  | succ n ih => intro x; simp [bytesLE, ih]
/-- the text that tells x by 32 bytes -/
def leStr (x : Int) : ByteArray := strOfNums (bytesLE 32 x)
theorem leStr_size (x : Int) : (leStr x).size = 32 := by unfold leStr; rw [strOfNums_size, bytesLE_length]
def tell8 (c : Int) : List Int := [c % 256, c / 256 % 256, c / 65536 % 256, c / 16777216 % 256, c / 4294967296 % 256, c / 1099511627776 % 256, c / 281474976710656 % 256, c / 72057594037927936 % 256]
theorem bytesLE_word (n : Nat) (c y : Int) (hc : U c) : bytesLE (n + 8) (c + 18446744073709551616 * y) = tell8 c ++ bytesLE n y := by
  unfold U at hc
  simp only [bytesLE, tell8, List.cons_append, List.nil_append]
  have e0 : (c + 18446744073709551616 * y) % 256 = c % 256 := by omega
  have d1 : (c + 18446744073709551616 * y) / 256 = c / 256 + 72057594037927936 * y := by omega
  rw [e0, d1]
  have e1 : (c / 256 + 72057594037927936 * y) % 256 = c / 256 % 256 := by omega
  have d2 : (c / 256 + 72057594037927936 * y) / 256 = c / 65536 + 281474976710656 * y := by omega
  rw [e1, d2]
  have e2 : (c / 65536 + 281474976710656 * y) % 256 = c / 65536 % 256 := by omega
  have d3 : (c / 65536 + 281474976710656 * y) / 256 = c / 16777216 + 1099511627776 * y := by omega
  rw [e2, d3]
  have e3 : (c / 16777216 + 1099511627776 * y) % 256 = c / 16777216 % 256 := by omega
  have d4 : (c / 16777216 + 1099511627776 * y) / 256 = c / 4294967296 + 4294967296 * y := by omega
  rw [e3, d4]
  have e4 : (c / 4294967296 + 4294967296 * y) % 256 = c / 4294967296 % 256 := by omega
  have d5 : (c / 4294967296 + 4294967296 * y) / 256 = c / 1099511627776 + 16777216 * y := by omega
  rw [e4, d5]
  have e5 : (c / 1099511627776 + 16777216 * y) % 256 = c / 1099511627776 % 256 := by omega
  have d6 : (c / 1099511627776 + 16777216 * y) / 256 = c / 281474976710656 + 65536 * y := by omega
  rw [e5, d6]
  have e6 : (c / 281474976710656 + 65536 * y) % 256 = c / 281474976710656 % 256 := by omega
  have d7 : (c / 281474976710656 + 65536 * y) / 256 = c / 72057594037927936 + 256 * y := by omega
  rw [e6, d7]
  have e7 : (c / 72057594037927936 + 256 * y) % 256 = c / 72057594037927936 % 256 := by omega
  have d8 : (c / 72057594037927936 + 256 * y) / 256 = y := by omega
  rw [e7, d8]
def tell32 (a b c d : Int) : List Int := [a % 256, a / 256 % 256, a / 65536 % 256, a / 16777216 % 256, a / 4294967296 % 256, a / 1099511627776 % 256, a / 281474976710656 % 256, a / 72057594037927936 % 256,
  b % 256, b / 256 % 256, b / 65536 % 256, b / 16777216 % 256, b / 4294967296 % 256, b / 1099511627776 % 256, b / 281474976710656 % 256, b / 72057594037927936 % 256,
  c % 256, c / 256 % 256, c / 65536 % 256, c / 16777216 % 256, c / 4294967296 % 256, c / 1099511627776 % 256, c / 281474976710656 % 256, c / 72057594037927936 % 256,
  d % 256, d / 256 % 256, d / 65536 % 256, d / 16777216 % 256, d / 4294967296 % 256, d / 1099511627776 % 256, d / 281474976710656 % 256, d / 72057594037927936 % 256]
theorem tell32_eq {a b c d x : Int} (h : Is4 a b c d x) : tell32 a b c d = bytesLE 32 x := by
  obtain ⟨ha, hb, hc, hd, rfl⟩ := h
  have e : val4 a b c d = a + 18446744073709551616 * (b + 18446744073709551616 * (c + 18446744073709551616 * (d + 18446744073709551616 * 0))) := by unfold val4; omega
  rw [e, show (32 : Nat) = 24 + 8 from rfl, bytesLE_word _ _ _ ha, show (24 : Nat) = 16 + 8 from rfl, bytesLE_word _ _ _ hb, show (16 : Nat) = 8 + 8 from rfl, bytesLE_word _ _ _ hc, show (8 : Nat) = 0 + 8 from rfl, bytesLE_word _ _ _ hd]
  rfl
end Go.Proofs.YtccjhlipcgpkmaaDoor
