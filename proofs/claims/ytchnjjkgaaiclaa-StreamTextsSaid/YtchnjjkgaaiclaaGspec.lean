/- ChaCha20 by the document's words, over lists of bytes and of words. Nothing of the program stands here. -/
import Derived.Test.YtchnjjkgaaiclaaKa
namespace Go.Proofs.Ytchnjjkgaaiclaa
open Go.RowKit
set_option maxRecDepth 100000

/-- turned left -/
def rl (x : BitVec 32) (n : Nat) : BitVec 32 := x <<< n ||| x >>> (32 - n)
theorem rl_bit (x : BitVec 32) (n i : Nat) (hn : 0 < n) (h32 : n < 32) (hi : i < 32) : (rl x n).getLsbD i = if i < n then x.getLsbD (32 - n + i) else x.getLsbD (i - n) := by
  unfold rl
  rw [BitVec.getLsbD_or, BitVec.getLsbD_shiftLeft, BitVec.getLsbD_ushiftRight]
  by_cases h : i < n
  · simp [h]
  · have h2 : x.getLsbD (32 - n + i) = false := BitVec.getLsbD_of_ge _ _ (by omega)
    simp [h, hi, h2]
theorem rl_inj (x y : BitVec 32) (n : Nat) (hn : 0 < n) (h32 : n < 32) (h : rl x n = rl y n) : x = y := by
  refine BitVec.eq_of_getLsbD_eq fun j hj => ?_
  by_cases hjn : j + n < 32
  · have := congrArg (fun z => z.getLsbD (j + n)) h
    change (rl x n).getLsbD _ = (rl y n).getLsbD _ at this
    rw [rl_bit x n (j + n) hn h32 hjn, rl_bit y n (j + n) hn h32 hjn, if_neg (by omega), if_neg (by omega), Nat.add_sub_cancel] at this
    exact this
  · have hi : j + n - 32 < 32 := by omega
    have := congrArg (fun z => z.getLsbD (j + n - 32)) h
    change (rl x n).getLsbD _ = (rl y n).getLsbD _ at this
    rw [rl_bit x n _ hn h32 hi, rl_bit y n _ hn h32 hi, if_pos (by omega), if_pos (by omega), show 32 - n + (j + n - 32) = j by omega] at this
    exact this

/-- four words -/
structure Q4 where
  a : BitVec 32
  b : BitVec 32
  c : BitVec 32
  d : BitVec 32
def qA (n : Nat) (q : Q4) : Q4 := ⟨q.a + q.b, q.b, q.c, rl (q.d ^^^ (q.a + q.b)) n⟩
def qB (n : Nat) (q : Q4) : Q4 := ⟨q.a, rl (q.b ^^^ (q.c + q.d)) n, q.c + q.d, q.d⟩
/-- mixed -/
def qtr (q : Q4) : Q4 := qB 7 (qA 8 (qB 12 (qA 16 q)))
theorem xor_right_inj (x y z : BitVec 32) (h : x ^^^ z = y ^^^ z) : x = y := by
  have h2 : (x ^^^ z) ^^^ z = (y ^^^ z) ^^^ z := by rw [h]
  rw [BitVec.xor_assoc, BitVec.xor_assoc, BitVec.xor_self, BitVec.xor_zero, BitVec.xor_zero] at h2
  exact h2
theorem add_right_inj32 (x y z : BitVec 32) (h : x + z = y + z) : x = y := by
  have h2 : (x + z) - z = (y + z) - z := by rw [h]
  rw [BitVec.add_sub_cancel, BitVec.add_sub_cancel] at h2
  exact h2
theorem qA_inj (n : Nat) (hn : 0 < n) (h32 : n < 32) (q r : Q4) (h : qA n q = qA n r) : q = r := by
  obtain ⟨a, b, c, d⟩ := q
  obtain ⟨a', b', c', d'⟩ := r
  unfold qA at h
  simp only [Q4.mk.injEq] at h
  obtain ⟨h1, rfl, rfl, h4⟩ := h
  rw [h1] at h4
  obtain rfl := add_right_inj32 _ _ _ h1
  obtain rfl := xor_right_inj _ _ _ (rl_inj _ _ n hn h32 h4)
  rfl
theorem qB_inj (n : Nat) (hn : 0 < n) (h32 : n < 32) (q r : Q4) (h : qB n q = qB n r) : q = r := by
  obtain ⟨a, b, c, d⟩ := q
  obtain ⟨a', b', c', d'⟩ := r
  unfold qB at h
  simp only [Q4.mk.injEq] at h
  obtain ⟨rfl, h2, h3, rfl⟩ := h
  rw [h3] at h2
  obtain rfl := add_right_inj32 _ _ _ h3
  obtain rfl := xor_right_inj _ _ _ (rl_inj _ _ n hn h32 h2)
  rfl
/-- no two sets of four words are mixed to one -/
theorem qtr_inj (q r : Q4) (h : qtr q = qtr r) : q = r := by
  unfold qtr at h
  exact qA_inj 16 (by omega) (by omega) _ _ (qB_inj 12 (by omega) (by omega) _ _ (qA_inj 8 (by omega) (by omega) _ _ (qB_inj 7 (by omega) (by omega) _ _ h)))
theorem xor_same (a m : BitVec 32) : a ^^^ m = a ↔ m = 0 := by
  constructor
  · intro h
    have h2 : a ^^^ (a ^^^ m) = a ^^^ a := by rw [h]
    rw [← BitVec.xor_assoc, BitVec.xor_self, BitVec.zero_xor] at h2
    exact h2
  · rintro rfl; exact BitVec.xor_zero
/-- the law's own question: a word of the four turned -/
theorem qtr_turn (a b c d m : BitVec 32) : qtr ⟨a ^^^ m, b, c, d⟩ = qtr ⟨a, b, c, d⟩ ↔ m = 0 := by
  constructor
  · intro h
    have := qtr_inj _ _ h
    simp only [Q4.mk.injEq, and_true] at this
    exact (xor_same a m).1 this
  · rintro rfl; rw [(xor_same a 0).2 rfl]

/-- a word of four bytes, the lowest first -/
def wordLE (a b c d : UInt8) : BitVec 32 := BitVec.ofNat 32 (a.toNat + 256 * b.toNat + 65536 * c.toNat + 16777216 * d.toNat)
theorem wordLE_toNat (a b c d : UInt8) : (wordLE a b c d).toNat = a.toNat + 256 * b.toNat + 65536 * c.toNat + 16777216 * d.toNat := by
  have ha := a.toNat_lt
  have hb := b.toNat_lt
  have hc := c.toNat_lt
  have hd := d.toNat_lt
  unfold wordLE
  rw [BitVec.toNat_ofNat, Nat.mod_eq_of_lt (by omega)]
def leW (b : List UInt8) (t : Nat) : BitVec 32 := wordLE (b.getD (4 * t) 0) (b.getD (4 * t + 1) 0) (b.getD (4 * t + 2) 0) (b.getD (4 * t + 3) 0)
def leWs (b : List UInt8) : Nat → List (BitVec 32)
  | 0 => []
  | n + 1 => leWs b n ++ [leW b n]
theorem leWs_length (b : List UInt8) (n : Nat) : (leWs b n).length = n := by
  induction n with
  | zero => rfl
  | succ n ih => simp [leWs, ih]
/-- a block's words at first -/
def firstC (k : List UInt8) (n : BitVec 32) (nc : List UInt8) : List (BitVec 32) := [1634760805, 857760878, 2036477234, 1797285236] ++ leWs k 8 ++ [n] ++ leWs nc 3
theorem firstC_length (k : List UInt8) (n : BitVec 32) (nc : List UInt8) : (firstC k n nc).length = 16 := by
  simp [firstC, leWs_length]
/-- four of some words mixed -/
def mixC (l : List (BitVec 32)) (a b c d : Nat) : List (BitVec 32) :=
  (((l.set a (qtr ⟨l.getD a 0, l.getD b 0, l.getD c 0, l.getD d 0⟩).a).set b (qtr ⟨l.getD a 0, l.getD b 0, l.getD c 0, l.getD d 0⟩).b).set c (qtr ⟨l.getD a 0, l.getD b 0, l.getD c 0, l.getD d 0⟩).c).set d (qtr ⟨l.getD a 0, l.getD b 0, l.getD c 0, l.getD d 0⟩).d
theorem mixC_length (l : List (BitVec 32)) (a b c d : Nat) : (mixC l a b c d).length = l.length := by simp [mixC]
def roundC (l : List (BitVec 32)) : List (BitVec 32) :=
  mixC (mixC (mixC (mixC (mixC (mixC (mixC (mixC l 0 4 8 12) 1 5 9 13) 2 6 10 14) 3 7 11 15) 0 5 10 15) 1 6 11 12) 2 7 8 13) 3 4 9 14
theorem roundC_length (l : List (BitVec 32)) : (roundC l).length = l.length := by simp [roundC, mixC_length]
def roundsC (l : List (BitVec 32)) : Nat → List (BitVec 32)
  | 0 => l
  | n + 1 => roundC (roundsC l n)
theorem roundsC_length (l : List (BitVec 32)) (n : Nat) : (roundsC l n).length = l.length := by
  induction n with
  | zero => rfl
  | succ n ih => rw [roundsC, roundC_length, ih]
def le4 (x : BitVec 32) : List UInt8 := [UInt8.ofNat x.toNat, UInt8.ofNat (x.toNat / 256), UInt8.ofNat (x.toNat / 65536), UInt8.ofNat (x.toNat / 16777216)]
def sumC (f l : List (BitVec 32)) : Nat → List UInt8
  | 0 => []
  | n + 1 => sumC f l n ++ le4 (f.getD n 0 + l.getD n 0)
theorem sumC_length (f l : List (BitVec 32)) (n : Nat) : (sumC f l n).length = 4 * n := by
  induction n with
  | zero => rfl
  | succ n ih => rw [sumC, List.length_append, ih]; simp [le4]; omega
/-- a block -/
def blockC (k : List UInt8) (n : BitVec 32) (nc : List UInt8) : List UInt8 := sumC (firstC k n nc) (roundsC (firstC k n nc) 10) 16
theorem blockC_length (k : List UInt8) (n : BitVec 32) (nc : List UInt8) : (blockC k n nc).length = 64 := sumC_length _ _ 16
/-- the first so many blocks -/
def blocksC (k nc : List UInt8) : Nat → List UInt8
  | 0 => []
  | n + 1 => blocksC k nc n ++ blockC k (BitVec.ofNat 32 (n + 1)) nc
theorem blocksC_length (k nc : List UInt8) (n : Nat) : (blocksC k nc n).length = 64 * n := by
  induction n with
  | zero => rfl
  | succ n ih => rw [blocksC, List.length_append, ih, blockC_length]; omega
theorem blocksC_pre (k nc : List UInt8) (m n : Nat) (h : m ≤ n) : ∃ t, blocksC k nc n = blocksC k nc m ++ t := by
  induction h with
  | refl => exact ⟨[], by simp⟩
  | @step n _ ih =>
    obtain ⟨t, ht⟩ := ih
    have e : blocksC k nc (n + 1) = blocksC k nc n ++ blockC k (BitVec.ofNat 32 (n + 1)) nc := rfl
    exact ⟨t ++ blockC k (BitVec.ofNat 32 (n + 1)) nc, by rw [e, ht, List.append_assoc]⟩
/-- a stream -/
def streamC (k nc : List UInt8) (m : Nat) : List UInt8 := (blocksC k nc ((m + 63) / 64)).take m
theorem streamC_length (k nc : List UInt8) (m : Nat) : (streamC k nc m).length = m := by
  unfold streamC
  rw [List.length_take, blocksC_length]; omega
/-- whatever more blocks there are -/
theorem streamC_of (k nc : List UInt8) (m n : Nat) (h : m ≤ 64 * n) : (blocksC k nc n).take m = streamC k nc m := by
  obtain ⟨t, ht⟩ := blocksC_pre k nc ((m + 63) / 64) n (by omega)
  unfold streamC
  rw [ht, List.take_append_of_le_length (by rw [blocksC_length]; omega)]
theorem streamC_take (k nc : List UInt8) (a b : Nat) (h : a ≤ b) : (streamC k nc b).take a = streamC k nc a := by
  have e : streamC k nc b = (blocksC k nc ((b + 63) / 64)).take b := rfl
  rw [e, List.take_take, Nat.min_eq_left h]
  exact streamC_of k nc a _ (by omega)
theorem streamC_64 (k nc : List UInt8) (m : Nat) (h : 64 ≤ m) : (streamC k nc m).take 64 = blockC k 1 nc := by
  rw [streamC_take k nc 64 m h]
  unfold streamC
  rw [show (64 + 63) / 64 = 1 from rfl, List.take_of_length_le (by rw [blocksC_length]; omega)]
  rfl
/-- a text's bytes, each xor another's -/
def xorB (s t : List UInt8) : List UInt8 := List.zipWith (fun a b => a ^^^ b) s t
theorem xorB_length (s t : List UInt8) (h : s.length ≤ t.length) : (xorB s t).length = s.length := by
  unfold xorB
  rw [List.length_zipWith, Nat.min_eq_left h]
theorem xorB_twice (s t : List UInt8) (h : s.length = t.length) : xorB (xorB s t) t = s := by
  unfold xorB
  refine List.ext_getElem (by rw [List.length_zipWith, List.length_zipWith]; omega) fun i h1 h2 => ?_
  rw [List.getElem_zipWith, List.getElem_zipWith, UInt8.xor_assoc, UInt8.xor_self, UInt8.xor_zero]
/-- a text xor a stream -/
def xorC (k nc s : List UInt8) : List UInt8 := xorB s (streamC k nc s.length)
theorem xorC_length (k nc s : List UInt8) : (xorC k nc s).length = s.length := xorB_length _ _ (by rw [streamC_length]; exact Nat.le_refl _)
/-- twice is as it was -/
theorem xorC_twice (k nc s : List UInt8) : xorC k nc (xorC k nc s) = s := by
  have e : xorC k nc (xorC k nc s) = xorB (xorC k nc s) (streamC k nc (xorC k nc s).length) := rfl
  rw [e, xorC_length]
  exact xorB_twice _ _ (by rw [streamC_length])
/-- the chapter's example -/
theorem quarter_example : qtr ⟨0x11111111, 0x01020304, 0x9b8d6f43, 0x01234567⟩ = ⟨0xea2a92f4, 0xcb1cf8ce, 0x4581472e, 0x5881c4bb⟩ := by kernel_rfl
end Go.Proofs.Ytchnjjkgaaiclaa
