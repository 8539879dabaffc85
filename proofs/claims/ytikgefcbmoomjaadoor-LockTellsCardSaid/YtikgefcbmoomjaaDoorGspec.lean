/- ChaCha20 by the document's words, over lists of bytes and of words. Nothing of the program stands here. -/
import Derived.Test.YtikgefcbmoomjaaDoorZa
namespace Go.Proofs.YtikgefcbmoomjaaDoor
open Go.RowKit
set_option maxRecDepth 100000
/-- turned left -/
def rl (x : BitVec 32) (n : Nat) : BitVec 32 := x <<< n ||| x >>> (32 - n)
/-- four words -/
structure Q4 where
  a : BitVec 32
  b : BitVec 32
  c : BitVec 32
  d : BitVec 32
def qA (n : Nat) (q : Q4) : Q4 := ⟨q.a + q.b, q.b, q.c, rl (q.d ^^^ (q.a + q.b)) n⟩
def qB (n : Nat) (q : Q4) : Q4 := ⟨q.a, rl (q.b ^^^ (q.c + q.d)) n, q.c + q.d, q.d⟩
/-- mixed -/
def qtr (q : Q4) : Q4 := qB 7 (qA 8 (qB 12 (qA 16 q)))
/-- a word of four bytes, the lowest first -/
def wordLE (a b c d : UInt8) : BitVec 32 := BitVec.ofNat 32 (a.toNat + 256 * b.toNat + 65536 * c.toNat + 16777216 * d.toNat)
theorem wordLE_toNat (a b c d : UInt8) : (wordLE a b c d).toNat = a.toNat + 256 * b.toNat + 65536 * c.toNat + 16777216 * d.toNat := by
  have ha := a.toNat_lt
  have hb := b.toNat_lt
  have hc := c.toNat_lt
  have hd := d.toNat_lt
  unfold wordLE
  rw [BitVec.toNat_ofNat, Nat.mod_eq_of_lt (by omega)]
def leW (b : List UInt8) (t : Nat) : BitVec 32 := wordLE (b.getD (4 * t) 0) (b.getD (4 * t + 1) 0) (b.getD (4 * t + 2) 0) (b.getD (4 * t + 3) 0)
def leWs (b : List UInt8) : Nat → List (BitVec 32)
  | 0 => []
  | n + 1 => leWs b n ++ [leW b n]
theorem leWs_length (b : List UInt8) (n : Nat) : (leWs b n).length = n := by
  induction n with
  | zero => rfl
  | succ n ih => simp [leWs, ih]
/-- a block's words at first -/
def firstC (k : List UInt8) (n : BitVec 32) (nc : List UInt8) : List (BitVec 32) := [1634760805, 857760878, 2036477234, 1797285236] ++ leWs k 8 ++ [n] ++ leWs nc 3
theorem firstC_length (k : List UInt8) (n : BitVec 32) (nc : List UInt8) : (firstC k n nc).length = 16 := by
  simp [firstC, leWs_length]
/-- four of some words mixed -/
def mixC (l : List (BitVec 32)) (a b c d : Nat) : List (BitVec 32) :=
  (((l.set a (qtr ⟨l.getD a 0, l.getD b 0, l.getD c 0, l.getD d 0⟩).a).set b (qtr ⟨l.getD a 0, l.getD b 0, l.getD c 0, l.getD d 0⟩).b).set c (qtr ⟨l.getD a 0, l.getD b 0, l.getD c 0, l.getD d 0⟩).c).set d (qtr ⟨l.getD a 0, l.getD b 0, l.getD c 0, l.getD d 0⟩).d
theorem mixC_length (l : List (BitVec 32)) (a b c d : Nat) : (mixC l a b c d).length = l.length := by simp [mixC]
def roundC (l : List (BitVec 32)) : List (BitVec 32) :=
  mixC (mixC (mixC (mixC (mixC (mixC (mixC (mixC l 0 4 8 12) 1 5 9 13) 2 6 10 14) 3 7 11 15) 0 5 10 15) 1 6 11 12) 2 7 8 13) 3 4 9 14
theorem roundC_length (l : List (BitVec 32)) : (roundC l).length = l.length := by simp [roundC, mixC_length]
def roundsC (l : List (BitVec 32)) : Nat → List (BitVec 32)
  | 0 => l
  | n + 1 => roundC (roundsC l n)
theorem roundsC_length (l : List (BitVec 32)) (n : Nat) : (roundsC l n).length = l.length := by
  induction n with
  | zero => rfl
  | succ n ih => rw [roundsC, roundC_length, ih]
def le4 (x : BitVec 32) : List UInt8 := [UInt8.ofNat x.toNat, UInt8.ofNat (x.toNat / 256), UInt8.ofNat (x.toNat / 65536), UInt8.ofNat (x.toNat / 16777216)]
def sumC (f l : List (BitVec 32)) : Nat → List UInt8
  | 0 => []
  | n + 1 => sumC f l n ++ le4 (f.getD n 0 + l.getD n 0)
theorem sumC_length (f l : List (BitVec 32)) (n : Nat) : (sumC f l n).length = 4 * n := by
  induction n with
  | zero => rfl
  | succ n ih => rw [sumC, List.length_append, ih]; simp [le4]; omega
/-- a block -/
def blockC (k : List UInt8) (n : BitVec 32) (nc : List UInt8) : List UInt8 := sumC (firstC k n nc) (roundsC (firstC k n nc) 10) 16
theorem blockC_length (k : List UInt8) (n : BitVec 32) (nc : List UInt8) : (blockC k n nc).length = 64 := sumC_length _ _ 16
/-- the first so many blocks -/
def blocksC (k nc : List UInt8) : Nat → List UInt8
  | 0 => []
  | n + 1 => blocksC k nc n ++ blockC k (BitVec.ofNat 32 (n + 1)) nc
theorem blocksC_length (k nc : List UInt8) (n : Nat) : (blocksC k nc n).length = 64 * n := by
  induction n with
  | zero => rfl
  | succ n ih => rw [blocksC, List.length_append, ih, blockC_length]; omega
theorem blocksC_pre (k nc : List UInt8) (m n : Nat) (h : m ≤ n) : ∃ t, blocksC k nc n = blocksC k nc m ++ t := by
  induction h with
  | refl => exact ⟨[], by simp⟩
  | @step n _ ih =>
    obtain ⟨t, ht⟩ := ih
    have e : blocksC k nc (n + 1) = blocksC k nc n ++ blockC k (BitVec.ofNat 32 (n + 1)) nc := rfl
    exact ⟨t ++ blockC k (BitVec.ofNat 32 (n + 1)) nc, by rw [e, ht, List.append_assoc]⟩
/-- a stream -/
def streamC (k nc : List UInt8) (m : Nat) : List UInt8 := (blocksC k nc ((m + 63) / 64)).take m
theorem streamC_length (k nc : List UInt8) (m : Nat) : (streamC k nc m).length = m := by
  unfold streamC
  rw [List.length_take, blocksC_length]; omega
/-- whatever more blocks there are -/
theorem streamC_of (k nc : List UInt8) (m n : Nat) (h : m ≤ 64 * n) : (blocksC k nc n).take m = streamC k nc m := by
  obtain ⟨t, ht⟩ := blocksC_pre k nc ((m + 63) / 64) n (by omega)
  unfold streamC
  rw [ht, List.take_append_of_le_length (by rw [blocksC_length]; omega)]
/-- a text's bytes, each xor another's -/
def xorB (s t : List UInt8) : List UInt8 := List.zipWith (fun a b => a ^^^ b) s t
theorem xorB_length (s t : List UInt8) (h : s.length ≤ t.length) : (xorB s t).length = s.length := by
  unfold xorB
  rw [List.length_zipWith, Nat.min_eq_left h]
theorem xorB_twice (s t : List UInt8) (h : s.length = t.length) : xorB (xorB s t) t = s := by
  unfold xorB
  refine List.ext_getElem (by rw [List.length_zipWith, List.length_zipWith]; omega) fun i h1 h2 => ?_
  rw [List.getElem_zipWith, List.getElem_zipWith, UInt8.xor_assoc, UInt8.xor_self, UInt8.xor_zero]
/-- a text xor a stream -/
def xorC (k nc s : List UInt8) : List UInt8 := xorB s (streamC k nc s.length)
theorem xorC_length (k nc s : List UInt8) : (xorC k nc s).length = s.length := xorB_length _ _ (by rw [streamC_length]; exact Nat.le_refl _)
/-- twice is as it was -/
theorem xorC_twice (k nc s : List UInt8) : xorC k nc (xorC k nc s) = s := by
  have e : xorC k nc (xorC k nc s) = xorB (xorC k nc s) (streamC k nc (xorC k nc s).length) := rfl
  rw [e, xorC_length]
  exact xorB_twice _ _ (by rw [streamC_length])
end Go.Proofs.YtikgefcbmoomjaaDoor