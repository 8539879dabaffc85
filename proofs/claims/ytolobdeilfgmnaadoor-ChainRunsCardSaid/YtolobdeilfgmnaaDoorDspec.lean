/- SHA-256 by the document's words, over lists of bytes and of words. Nothing of the program stands here. -/
import Derived.Test.YtolobdeilfgmnaaDoorDblk
namespace Go.Proofs.YtolobdeilfgmnaaDoor
open Go.RowKit
/-- four bytes' word, the highest first -/
def word4 (a b c d : UInt8) : BitVec 32 := BitVec.ofNat 32 (a.toNat * 16777216 + b.toNat * 65536 + c.toNat * 256 + d.toNat)
/-- a block's word, by its place -/
def wdAt (b : List UInt8) (t : Nat) : BitVec 32 := word4 (b.getD (4 * t) 0) (b.getD (4 * t + 1) 0) (b.getD (4 * t + 2) 0) (b.getD (4 * t + 3) 0)
def firstW (b : List UInt8) : Nat → List (BitVec 32)
  | 0 => []
  | n + 1 => firstW b n ++ [wdAt b n]
theorem firstW_length (b : List UInt8) (n : Nat) : (firstW b n).length = n := by
  induction n with
  | zero => rfl
  | succ n ih => simp [firstW, ih]
def near (x : BitVec 32) : BitVec 32 := rr x 17 ^^^ rr x 19 ^^^ x >>> 10
def far (x : BitVec 32) : BitVec 32 := rr x 7 ^^^ rr x 18 ^^^ x >>> 3
/-- the word that follows the words so far -/
def nextW (r : List (BitVec 32)) : BitVec 32 := near (r.getD (r.length - 2) 0) + r.getD (r.length - 7) 0 + far (r.getD (r.length - 15) 0) + r.getD (r.length - 16) 0
def extW : Nat → List (BitVec 32) → List (BitVec 32)
  | 0, l => l
  | n + 1, l => extW n l ++ [nextW (extW n l)]
theorem extW_length (n : Nat) (l : List (BitVec 32)) : (extW n l).length = l.length + n := by
  induction n with
  | zero => rfl
  | succ n ih => simp [extW, ih]; omega
/-- all 64 words of a block -/
def sched (b : List UInt8) : List (BitVec 32) := extW 48 (firstW b 16)
theorem sched_length (b : List UInt8) : (sched b).length = 64 := by unfold sched; rw [extW_length, firstW_length]

/-- the 8 words of a sum on its way -/
structure S8 where
  a : BitVec 32
  b : BitVec 32
  c : BitVec 32
  d : BitVec 32
  e : BitVec 32
  f : BitVec 32
  g : BitVec 32
  h : BitVec 32
def S8.l (s : S8) : List (BitVec 32) := [s.a, s.b, s.c, s.d, s.e, s.f, s.g, s.h]
theorem S8.l_length (s : S8) : s.l.length = 8 := rfl
theorem S8.inj {s t : S8} (h : s.l = t.l) : s = t := by
  cases s; cases t
  simp only [S8.l, List.cons.injEq, and_true] at h
  obtain ⟨rfl, rfl, rfl, rfl, rfl, rfl, rfl, rfl⟩ := h
  rfl
theorem S8.of_list (l : List (BitVec 32)) (h : l.length = 8) : ∃ s : S8, s.l = l := by
  rcases l with _ | ⟨a, _ | ⟨b, _ | ⟨c, _ | ⟨d, _ | ⟨e, _ | ⟨f, _ | ⟨g, _ | ⟨i, _ | l⟩⟩⟩⟩⟩⟩⟩⟩ <;> simp at h
  exact ⟨⟨a, b, c, d, e, f, g, i⟩, rfl⟩
def bigE (e : BitVec 32) : BitVec 32 := rr e 6 ^^^ rr e 11 ^^^ rr e 25
def chE (e f g : BitVec 32) : BitVec 32 := (e &&& f) ^^^ (~~~e &&& g)
def bigA (a : BitVec 32) : BitVec 32 := rr a 2 ^^^ rr a 13 ^^^ rr a 22
def majA (a b c : BitVec 32) : BitVec 32 := (a &&& b) ^^^ (a &&& c) ^^^ (b &&& c)
def t1Of (k x : BitVec 32) (s : S8) : BitVec 32 := s.h + bigE s.e + chE s.e s.f s.g + k + x
def t2Of (s : S8) : BitVec 32 := bigA s.a + majA s.a s.b s.c
def stepS (k x : BitVec 32) (s : S8) : S8 := ⟨t1Of k x s + t2Of s, s.a, s.b, s.c, s.d + t1Of k x s, s.e, s.f, s.g⟩
def runS (ks ws : List (BitVec 32)) (s : S8) : Nat → S8
  | 0 => s
  | n + 1 => stepS (ks.getD n 0) (ws.getD n 0) (runS ks ws s n)
def addS (s t : S8) : S8 := ⟨s.a + t.a, s.b + t.b, s.c + t.c, s.d + t.d, s.e + t.e, s.f + t.f, s.g + t.g, s.h + t.h⟩
def keysL : List (BitVec 32) := [
  1116352408, 1899447441, 3049323471, 3921009573, 961987163, 1508970993, 2453635748, 2870763221,
  3624381080, 310598401, 607225278, 1426881987, 1925078388, 2162078206, 2614888103, 3248222580,
  3835390401, 4022224774, 264347078, 604807628, 770255983, 1249150122, 1555081692, 1996064986,
  2554220882, 2821834349, 2952996808, 3210313671, 3336571891, 3584528711, 113926993, 338241895,
  666307205, 773529912, 1294757372, 1396182291, 1695183700, 1986661051, 2177026350, 2456956037,
  2730485921, 2820302411, 3259730800, 3345764771, 3516065817, 3600352804, 4094571909, 275423344,
  430227734, 506948616, 659060556, 883997877, 958139571, 1322822218, 1537002063, 1747873779,
  1955562222, 2024104815, 2227730452, 2361852424, 2428436474, 2756734187, 3204031479, 3329325298]
theorem keysL_length : keysL.length = 64 := rfl
def firstS : S8 := ⟨1779033703, 3144134277, 1013904242, 2773480762, 1359893119, 2600822924, 528734635, 1541459225⟩
/-- the words mixed with a block -/
def mixS (s : S8) (b : List UInt8) : S8 := addS s (runS keysL (sched b) s 64)
/-- with the first n blocks of a text -/
def mixN : Nat → S8 → List UInt8 → S8
  | 0, s, _ => s
  | n + 1, s, b => mixN n (mixS s (b.take 64)) (b.drop 64)
/-- with every whole block -/
def mixAll (s : S8) (b : List UInt8) : S8 := mixN (b.length / 64) s b
/-- what is left -/
def restOf (b : List UInt8) : List UInt8 := b.drop (64 * (b.length / 64))
theorem mixAll_step (s : S8) (b : List UInt8) (h : 64 ≤ b.length) : mixAll s b = mixAll (mixS s (b.take 64)) (b.drop 64) := by
  unfold mixAll
  rw [show b.length / 64 = (b.drop 64).length / 64 + 1 by simp; omega]
  rfl
theorem mixAll_end (s : S8) (b : List UInt8) (h : b.length < 64) : mixAll s b = s := by
  unfold mixAll
  rw [show b.length / 64 = 0 by omega]
  rfl
theorem restOf_step (b : List UInt8) (h : 64 ≤ b.length) : restOf b = restOf (b.drop 64) := by
  unfold restOf
  rw [List.drop_drop, List.length_drop]
  congr 1
  omega
theorem restOf_end (b : List UInt8) (h : b.length < 64) : restOf b = b := by
  unfold restOf
  rw [show b.length / 64 = 0 by omega]
  rfl
theorem restOf_length (b : List UInt8) : (restOf b).length = b.length % 64 := by
  unfold restOf
  rw [List.length_drop]; omega
end Go.Proofs.YtolobdeilfgmnaaDoor