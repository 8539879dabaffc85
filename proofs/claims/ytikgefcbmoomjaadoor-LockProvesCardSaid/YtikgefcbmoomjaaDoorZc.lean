/- The texts Dspec, Dror, one behind the other. -/
import Derived.Test.YtikgefcbmoomjaaDoorZa
import Derived.Test.YtikgefcbmoomjaaDoorRows
import Derived.Deep.RegionWith
import Derived.Deep.QuietTactic
import Derived.BigQuiet
import Derived.Outline
/- SHA-256 by the document's words, over lists of bytes and of words. Nothing of the program stands here. -/
namespace Go.Proofs.YtikgefcbmoomjaaDoor
open Go.RowKit
/-- four bytes' word, the highest first -/
def word4 (a b c d : UInt8) : BitVec 32 := BitVec.ofNat 32 (a.toNat * 16777216 + b.toNat * 65536 + c.toNat * 256 + d.toNat)
/-- a block's word, by its place -/
def wdAt (b : List UInt8) (t : Nat) : BitVec 32 := word4 (b.getD (4 * t) 0) (b.getD (4 * t + 1) 0) (b.getD (4 * t + 2) 0) (b.getD (4 * t + 3) 0)
def firstW (b : List UInt8) : Nat → List (BitVec 32)
  | 0 => []
  | n + 1 => firstW b n ++ [wdAt b n]
theorem firstW_length (b : List UInt8) (n : Nat) : (firstW b n).length = n := by
  induction n with
  | zero => rfl
  | succ n ih => simp [firstW, ih]
def near (x : BitVec 32) : BitVec 32 := rr x 17 ^^^ rr x 19 ^^^ x >>> 10
def far (x : BitVec 32) : BitVec 32 := rr x 7 ^^^ rr x 18 ^^^ x >>> 3
/-- the word that follows the words so far -/
def nextW (r : List (BitVec 32)) : BitVec 32 := near (r.getD (r.length - 2) 0) + r.getD (r.length - 7) 0 + far (r.getD (r.length - 15) 0) + r.getD (r.length - 16) 0
def extW : Nat → List (BitVec 32) → List (BitVec 32)
  | 0, l => l
  | n + 1, l => extW n l ++ [nextW (extW n l)]
theorem extW_length (n : Nat) (l : List (BitVec 32)) : (extW n l).length = l.length + n := by
  induction n with
  | zero => rfl
  | succ n ih => simp [extW, ih]; omega
/-- all 64 words of a block -/
def sched (b : List UInt8) : List (BitVec 32) := extW 48 (firstW b 16)
theorem sched_length (b : List UInt8) : (sched b).length = 64 := by unfold sched; rw [extW_length, firstW_length]

/-- the 8 words of a sum on its way -/
structure S8 where
  a : BitVec 32
  b : BitVec 32
  c : BitVec 32
  d : BitVec 32
  e : BitVec 32
  f : BitVec 32
  g : BitVec 32
  h : BitVec 32
def S8.l (s : S8) : List (BitVec 32) := [s.a, s.b, s.c, s.d, s.e, s.f, s.g, s.h]
theorem S8.l_length (s : S8) : s.l.length = 8 := rfl
theorem S8.inj {s t : S8} (h : s.l = t.l) : s = t := by
  cases s; cases t
  simp only [S8.l, List.cons.injEq, and_true] at h
  obtain ⟨rfl, rfl, rfl, rfl, rfl, rfl, rfl, rfl⟩ := h
  rfl
def bigE (e : BitVec 32) : BitVec 32 := rr e 6 ^^^ rr e 11 ^^^ rr e 25
def chE (e f g : BitVec 32) : BitVec 32 := (e &&& f) ^^^ (~~~e &&& g)
def bigA (a : BitVec 32) : BitVec 32 := rr a 2 ^^^ rr a 13 ^^^ rr a 22
def majA (a b c : BitVec 32) : BitVec 32 := (a &&& b) ^^^ (a &&& c) ^^^ (b &&& c)
def t1Of (k x : BitVec 32) (s : S8) : BitVec 32 := s.h + bigE s.e + chE s.e s.f s.g + k + x
def t2Of (s : S8) : BitVec 32 := bigA s.a + majA s.a s.b s.c
def stepS (k x : BitVec 32) (s : S8) : S8 := ⟨t1Of k x s + t2Of s, s.a, s.b, s.c, s.d + t1Of k x s, s.e, s.f, s.g⟩
def runS (ks ws : List (BitVec 32)) (s : S8) : Nat → S8
  | 0 => s
  | n + 1 => stepS (ks.getD n 0) (ws.getD n 0) (runS ks ws s n)
def addS (s t : S8) : S8 := ⟨s.a + t.a, s.b + t.b, s.c + t.c, s.d + t.d, s.e + t.e, s.f + t.f, s.g + t.g, s.h + t.h⟩
def keysL : List (BitVec 32) := [
  1116352408, 1899447441, 3049323471, 3921009573, 961987163, 1508970993, 2453635748, 2870763221,
  3624381080, 310598401, 607225278, 1426881987, 1925078388, 2162078206, 2614888103, 3248222580,
  3835390401, 4022224774, 264347078, 604807628, 770255983, 1249150122, 1555081692, 1996064986,
  2554220882, 2821834349, 2952996808, 3210313671, 3336571891, 3584528711, 113926993, 338241895,
  666307205, 773529912, 1294757372, 1396182291, 1695183700, 1986661051, 2177026350, 2456956037,
  2730485921, 2820302411, 3259730800, 3345764771, 3516065817, 3600352804, 4094571909, 275423344,
  430227734, 506948616, 659060556, 883997877, 958139571, 1322822218, 1537002063, 1747873779,
  1955562222, 2024104815, 2227730452, 2361852424, 2428436474, 2756734187, 3204031479, 3329325298]
theorem keysL_length : keysL.length = 64 := rfl
def firstS : S8 := ⟨1779033703, 3144134277, 1013904242, 2773480762, 1359893119, 2600822924, 528734635, 1541459225⟩
/-- the words mixed with a block -/
def mixS (s : S8) (b : List UInt8) : S8 := addS s (runS keysL (sched b) s 64)
/-- with the first n blocks of a text -/
def mixN : Nat → S8 → List UInt8 → S8
  | 0, s, _ => s
  | n + 1, s, b => mixN n (mixS s (b.take 64)) (b.drop 64)
/-- with every whole block -/
def mixAll (s : S8) (b : List UInt8) : S8 := mixN (b.length / 64) s b
/-- what is left -/
def restOf (b : List UInt8) : List UInt8 := b.drop (64 * (b.length / 64))
theorem mixAll_step (s : S8) (b : List UInt8) (h : 64 ≤ b.length) : mixAll s b = mixAll (mixS s (b.take 64)) (b.drop 64) := by
  unfold mixAll
  rw [show b.length / 64 = (b.drop 64).length / 64 + 1 by simp; omega]
  rfl
theorem mixAll_end (s : S8) (b : List UInt8) (h : b.length < 64) : mixAll s b = s := by
  unfold mixAll
  rw [show b.length / 64 = 0 by omega]
  rfl
theorem restOf_step (b : List UInt8) (h : 64 ≤ b.length) : restOf b = restOf (b.drop 64) := by
  unfold restOf
  rw [List.drop_drop, List.length_drop]
  congr 1
  omega
theorem restOf_end (b : List UInt8) (h : b.length < 64) : restOf b = b := by
  unfold restOf
  rw [show b.length / 64 = 0 by omega]
  rfl
theorem restOf_length (b : List UInt8) : (restOf b).length = b.length % 64 := by
  unfold restOf
  rw [List.length_drop]; omega
end Go.Proofs.YtikgefcbmoomjaaDoor

/- The contracts of digest's smallest: ror, wordOf. -/
namespace Go.Proofs.YtikgefcbmoomjaaDoor
open Go.RowKit
theorem and31 (n m : Nat) (h0 : 0 < n) (h1 : n + m = 32) : bits .and .u64 (IntKind.u64.wrap (-(n : Int))) 31 = (m : Int) := by
  have e : IntKind.u64.wrap (-(n : Int)) = ((18446744073709551616 - n : Nat) : Int) := by
    rw [IntKind.wrap_u64]; omega
  rw [e]
  show IntKind.u64.wrap (((BitVec.ofInt 64 ((18446744073709551616 - n : Nat) : Int) &&& BitVec.ofInt 64 ((31 : Nat) : Int)).toNat : Nat) : Int) = _
  rw [BitVec.toNat_and, BitVec.ofInt_natCast, BitVec.ofInt_natCast, BitVec.toNat_ofNat, BitVec.toNat_ofNat]
  rw [Nat.mod_eq_of_lt (a := 18446744073709551616 - n) (by omega), Nat.mod_eq_of_lt (a := 31) (by omega)]
  rw [show (18446744073709551616 - n) &&& 31 = (18446744073709551616 - n) % 32 from Nat.and_two_pow_sub_one_eq_mod _ 5]
  rw [IntKind.wrap_u64]
  omega

set_option maxRecDepth 100000 in
set_option maxHeartbeats 400000 in
theorem rotl_any (x : BitVec 32) (n : Nat) (h0 : 0 < n) (h1 : n < 32) (w : World) :
    Calls Tryd.prog 86 #[.int .u32 (x.toNat : Int), .int .i64 (-(n : Int))] w fun e w' => e = .returned (.int .u32 ((rr x n).toNat : Int)) ∧ w = w' := by
  obtain ⟨m, hm⟩ : ∃ m, n + m = 32 := ⟨32 - n, by omega⟩
  have hK := and31 n m h0 hm
  have es : ((32 : Int) - (m : Int)).toNat = n := by omega
  have hm1 : (m : Int) < 32 := by omega
  have hm0 : (0 : Int) < (m : Int) := by omega
  have e1 := shl32 x m
  have e2 := shr32 x n
  have e3 := bits_or32 (x <<< m) (x >>> n)
  have er : ((rr x n).toNat : Int) = ((x <<< m ||| x >>> n).toNat : Int) := by
    unfold rr
    rw [BitVec.or_comm, show 32 - n = m by omega]
  rw [er]
  clear er
  generalize x <<< m = s at e1 e3 ⊢
  generalize x >>> n = t at e2 e3 ⊢
  generalize s ||| t = r at e3 ⊢
  go_enter Tryd.func86, Tryd.ntmps86
  go_wp2
  go_ret
  exact ⟨rfl, rfl⟩

set_option maxRecDepth 100000 in
set_option maxHeartbeats 400000 in
theorem ror_any (x : BitVec 32) (n : Nat) (h0 : 0 < n) (h1 : n < 32) (w : World) :
    Calls Tryd.prog 88 #[.int .u32 (x.toNat : Int), .int .i64 (n : Int)] w fun e w' => e = .returned (.int .u32 ((rr x n).toNat : Int)) ∧ w = w' := by
  have H := Lib.hid (rotl_any x n h0 h1)
  generalize rr x n = r at H ⊢
  go_enter Tryd.func88, Tryd.ntmps88
  go_wp2_with fail
  refine (H.out _).mono ?_
  rintro e w' ⟨rfl, rfl⟩
  go_wp2_with fail
  go_ret
  exact ⟨rfl, rfl⟩

theorem word4_or (a b c d : UInt8) : bits .or .u32 (bits .or .u32 (bits .or .u32 ((a.toNat : Int) * 16777216) ((b.toNat : Int) * 65536)) ((c.toNat : Int) * 256)) (d.toNat : Int) = ((word4 a b c d).toNat : Int) := by
  have ha := a.toNat_lt
  have hb := b.toNat_lt
  have hc := c.toNat_lt
  have hd := d.toNat_lt
  have e1 : bits .or .u32 ((a.toNat : Int) * 16777216) ((b.toNat : Int) * 65536) = (((a.toNat * 256 + b.toNat) * 65536 : Nat) : Int) := by
    have := bits_or_nat (a.toNat * 16777216) (b.toNat * 65536) (by omega) (by omega)
    rw [show ((a.toNat * 16777216 : Nat) : Int) = (a.toNat : Int) * 16777216 by omega, show ((b.toNat * 65536 : Nat) : Int) = (b.toNat : Int) * 65536 by omega] at this
    rw [this]
    have h := or_sum a.toNat (b.toNat * 65536) 24 (by omega)
    rw [show (2 : Nat) ^ 24 = 16777216 from rfl] at h
    rw [h]
    exact congrArg Nat.cast (by omega)
  have e2 : bits .or .u32 (((a.toNat * 256 + b.toNat) * 65536 : Nat) : Int) ((c.toNat : Int) * 256) = (((a.toNat * 65536 + b.toNat * 256 + c.toNat) * 256 : Nat) : Int) := by
    have := bits_or_nat ((a.toNat * 256 + b.toNat) * 65536) (c.toNat * 256) (by omega) (by omega)
    rw [show ((c.toNat * 256 : Nat) : Int) = (c.toNat : Int) * 256 by omega] at this
    rw [this]
    have h := or_sum (a.toNat * 256 + b.toNat) (c.toNat * 256) 16 (by omega)
    rw [show (2 : Nat) ^ 16 = 65536 from rfl] at h
    rw [h]
    exact congrArg Nat.cast (by omega)
  have e3 : bits .or .u32 (((a.toNat * 65536 + b.toNat * 256 + c.toNat) * 256 : Nat) : Int) (d.toNat : Int) = ((word4 a b c d).toNat : Int) := by
    rw [bits_or_nat _ _ (by omega) (by omega)]
    have h := or_sum (a.toNat * 65536 + b.toNat * 256 + c.toNat) d.toNat 8 (by omega)
    rw [show (2 : Nat) ^ 8 = 256 from rfl] at h
    rw [h]
    unfold word4
    rw [BitVec.toNat_ofNat, Nat.mod_eq_of_lt (by omega)]
    exact congrArg Nat.cast (by omega)
  rw [e1, e2, e3]

set_option maxRecDepth 100000 in
set_option maxHeartbeats 400000 in
theorem wordOf_any (s : ByteArray) (h : s.size = 4) (w : World) :
    Calls Tryd.prog 89 #[.string s] w fun e w' => e = .returned (.int .u32 ((word4 s[0] s[1] s[2] s[3]).toNat : Int)) ∧ ∃ n, w' = w.drewN n := by
  have b1 : (0 : Int) < (s.size : Int) := by omega
  have b2 : (1 : Int) < (s.size : Int) := by omega
  have b3 : (2 : Int) < (s.size : Int) := by omega
  have b4 : (3 : Int) < (s.size : Int) := by omega
  have c1 := s[0].toNat_lt
  have c2 := s[1].toNat_lt
  have c3 := s[2].toNat_lt
  have c4 := s[3].toNat_lt
  have g0 : s[0]? = some s[0] := by simp
  go_enter Tryd.func89, Tryd.ntmps89
  go_wp2
  go_quiet (fail)
  go_wp2
  go_ret
  exact ⟨ret_u32 (word4_or _ _ _ _), _, rfl⟩
end Go.Proofs.YtikgefcbmoomjaaDoor
