/- SHA-256 by the document's words, over lists of bytes and of words. Nothing of the program stands here. -/
import Derived.Test.YtdbjjbhlgheamaaDoorDblk
namespace Go.Proofs.YtdbjjbhlgheamaaDoor
open Go.RowKit

/-- four bytes' word, the highest first -/
def word4 (a b c d : UInt8) : BitVec 32 := BitVec.ofNat 32 (a.toNat * 16777216 + b.toNat * 65536 + c.toNat * 256 + d.toNat)
/-- a block's word, by its place -/
def wdAt (b : List UInt8) (t : Nat) : BitVec 32 := word4 (b.getD (4 * t) 0) (b.getD (4 * t + 1) 0) (b.getD (4 * t + 2) 0) (b.getD (4 * t + 3) 0)
def firstW (b : List UInt8) : Nat → List (BitVec 32)
  | 0 => []
  | n + 1 => firstW b n ++ [wdAt b n]
theorem firstW_length (b : List UInt8) (n : Nat) : (firstW b n).length = n := by
  induction n with
  | zero => rfl
  | succ n ih => simp [firstW, ih]
def near (x : BitVec 32) : BitVec 32 := rr x 17 ^^^ rr x 19 ^^^ x >>> 10
def far (x : BitVec 32) : BitVec 32 := rr x 7 ^^^ rr x 18 ^^^ x >>> 3
/-- the word that follows the words so far -/
def nextW (r : List (BitVec 32)) : BitVec 32 := near (r.getD (r.length - 2) 0) + r.getD (r.length - 7) 0 + far (r.getD (r.length - 15) 0) + r.getD (r.length - 16) 0
def extW : Nat → List (BitVec 32) → List (BitVec 32)
  | 0, l => l
  | n + 1, l => extW n l ++ [nextW (extW n l)]
theorem extW_length (n : Nat) (l : List (BitVec 32)) : (extW n l).length = l.length + n := by
  induction n with
  | zero => rfl
  | succ n ih => simp [extW, ih]; omega
/-- all 64 words of a block -/
def sched (b : List UInt8) : List (BitVec 32) := extW 48 (firstW b 16)
theorem sched_length (b : List UInt8) : (sched b).length = 64 := by unfold sched; rw [extW_length, firstW_length]

/-- the 8 words of a sum on its way -/
structure S8 where
  a : BitVec 32
  b : BitVec 32
  c : BitVec 32
  d : BitVec 32
  e : BitVec 32
  f : BitVec 32
  g : BitVec 32
  h : BitVec 32
def S8.l (s : S8) : List (BitVec 32) := [s.a, s.b, s.c, s.d, s.e, s.f, s.g, s.h]
theorem S8.l_length (s : S8) : s.l.length = 8 := rfl
theorem S8.inj {s t : S8} (h : s.l = t.l) : s = t := by
  cases s; cases t
  simp only [S8.l, List.cons.injEq, and_true] at h
  obtain ⟨rfl, rfl, rfl, rfl, rfl, rfl, rfl, rfl⟩ := h
  rfl
theorem S8.of_list (l : List (BitVec 32)) (h : l.length = 8) : ∃ s : S8, s.l = l := by
  rcases l with _ | ⟨a, _ | ⟨b, _ | ⟨c, _ | ⟨d, _ | ⟨e, _ | ⟨f, _ | ⟨g, _ | ⟨i, _ | l⟩⟩⟩⟩⟩⟩⟩⟩ <;> simp at h
  exact ⟨⟨a, b, c, d, e, f, g, i⟩, rfl⟩
def bigE (e : BitVec 32) : BitVec 32 := rr e 6 ^^^ rr e 11 ^^^ rr e 25
def chE (e f g : BitVec 32) : BitVec 32 := (e &&& f) ^^^ (~~~e &&& g)
def bigA (a : BitVec 32) : BitVec 32 := rr a 2 ^^^ rr a 13 ^^^ rr a 22
def majA (a b c : BitVec 32) : BitVec 32 := (a &&& b) ^^^ (a &&& c) ^^^ (b &&& c)
def t1Of (k x : BitVec 32) (s : S8) : BitVec 32 := s.h + bigE s.e + chE s.e s.f s.g + k + x
def t2Of (s : S8) : BitVec 32 := bigA s.a + majA s.a s.b s.c
def stepS (k x : BitVec 32) (s : S8) : S8 := ⟨t1Of k x s + t2Of s, s.a, s.b, s.c, s.d + t1Of k x s, s.e, s.f, s.g⟩
def runS (ks ws : List (BitVec 32)) (s : S8) : Nat → S8
  | 0 => s
  | n + 1 => stepS (ks.getD n 0) (ws.getD n 0) (runS ks ws s n)
def addS (s t : S8) : S8 := ⟨s.a + t.a, s.b + t.b, s.c + t.c, s.d + t.d, s.e + t.e, s.f + t.f, s.g + t.g, s.h + t.h⟩
def keysL : List (BitVec 32) := [
  0x428a2f98, 0x71374491, 0xb5c0fbcf, 0xe9b5dba5, 0x3956c25b, 0x59f111f1, 0x923f82a4, 0xab1c5ed5,
  0xd807aa98, 0x12835b01, 0x243185be, 0x550c7dc3, 0x72be5d74, 0x80deb1fe, 0x9bdc06a7, 0xc19bf174,
  0xe49b69c1, 0xefbe4786, 0x0fc19dc6, 0x240ca1cc, 0x2de92c6f, 0x4a7484aa, 0x5cb0a9dc, 0x76f988da,
  0x983e5152, 0xa831c66d, 0xb00327c8, 0xbf597fc7, 0xc6e00bf3, 0xd5a79147, 0x06ca6351, 0x14292967,
  0x27b70a85, 0x2e1b2138, 0x4d2c6dfc, 0x53380d13, 0x650a7354, 0x766a0abb, 0x81c2c92e, 0x92722c85,
  0xa2bfe8a1, 0xa81a664b, 0xc24b8b70, 0xc76c51a3, 0xd192e819, 0xd6990624, 0xf40e3585, 0x106aa070,
  0x19a4c116, 0x1e376c08, 0x2748774c, 0x34b0bcb5, 0x391c0cb3, 0x4ed8aa4a, 0x5b9cca4f, 0x682e6ff3,
  0x748f82ee, 0x78a5636f, 0x84c87814, 0x8cc70208, 0x90befffa, 0xa4506ceb, 0xbef9a3f7, 0xc67178f2]
theorem keysL_length : keysL.length = 64 := rfl
def firstS : S8 := ⟨0x6a09e667, 0xbb67ae85, 0x3c6ef372, 0xa54ff53a, 0x510e527f, 0x9b05688c, 0x1f83d9ab, 0x5be0cd19⟩
/-- the words mixed with a block -/
def mixS (s : S8) (b : List UInt8) : S8 := addS s (runS keysL (sched b) s 64)
/-- with the first n blocks of a text -/
def mixN : Nat → S8 → List UInt8 → S8
  | 0, s, _ => s
  | n + 1, s, b => mixN n (mixS s (b.take 64)) (b.drop 64)
/-- with every whole block -/
def mixAll (s : S8) (b : List UInt8) : S8 := mixN (b.length / 64) s b
/-- what is left -/
def restOf (b : List UInt8) : List UInt8 := b.drop (64 * (b.length / 64))
theorem mixAll_step (s : S8) (b : List UInt8) (h : 64 ≤ b.length) : mixAll s b = mixAll (mixS s (b.take 64)) (b.drop 64) := by
  unfold mixAll
  rw [show b.length / 64 = (b.drop 64).length / 64 + 1 by simp; omega]
  rfl
theorem mixAll_end (s : S8) (b : List UInt8) (h : b.length < 64) : mixAll s b = s := by
  unfold mixAll
  rw [show b.length / 64 = 0 by omega]
  rfl
theorem restOf_step (b : List UInt8) (h : 64 ≤ b.length) : restOf b = restOf (b.drop 64) := by
  unfold restOf
  rw [List.drop_drop, List.length_drop]
  congr 1
  omega
theorem restOf_end (b : List UInt8) (h : b.length < 64) : restOf b = b := by
  unfold restOf
  rw [show b.length / 64 = 0 by omega]
  rfl
theorem restOf_length (b : List UInt8) : (restOf b).length = b.length % 64 := by
  unfold restOf
  rw [List.length_drop]; omega
end Go.Proofs.YtdbjjbhlgheamaaDoor
