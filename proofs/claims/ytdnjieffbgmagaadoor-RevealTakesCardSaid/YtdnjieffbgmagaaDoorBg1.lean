/- The texts Bv, Dblk, Dspec, Ka, one behind the other. -/
import Derived.WalkKit
import Derived.ProofKit
import Derived.Handy
import Derived.Lib.Hide
import Derived.Below
import Derived.Deep.MidRow
import Derived.Deep.Draws
import Derived.BigQuiet
import Derived.Deep.AppendLies
import Derived.Deep.Cut
import Derived.Deep.CutBlock
import Derived.Deep.QuietTactic
import Derived.Deep.RegionHeld3
import Derived.Deep.RegionWith
import Derived.Laws.BytesArg
import Derived.Laws.DeepStrings4
import Derived.Laws.IdiomCopy
import Derived.Laws.MakeOwn
import Derived.Laws.OwnMore
import Derived.Lib.BufferWrite
import Derived.Lib.QuietBelow
import Derived.Lib.Strings
import Derived.Lib.Walk
import Derived.Outline
import Derived.RegionTactic
/- Words of 32 bits as bit vectors: what the walk's integers come to. Nothing of the program stands here. -/
namespace Go.Proofs.YtdnjieffbgmagaaDoor
open Go.RowKit
theorem wrap32_nat (n : Nat) : IntKind.u32.wrap (n : Int) = ((n % 4294967296 : Nat) : Int) := by
  rw [IntKind.wrap_u32]; omega
theorem ofInt32 (x : BitVec 32) : BitVec.ofInt 32 (x.toNat : Int) = x := by
  rw [BitVec.ofInt_natCast]; exact BitVec.ofNat_toNat 32 x |>.trans (BitVec.setWidth_eq x)
theorem bits_xor32 (a b : BitVec 32) : bits .xor .u32 (a.toNat : Int) (b.toNat : Int) = ((a ^^^ b).toNat : Int) := by
  show IntKind.u32.wrap (((BitVec.ofInt 32 (a.toNat : Int) ^^^ BitVec.ofInt 32 (b.toNat : Int)).toNat : Nat) : Int) = _
  rw [ofInt32, ofInt32, wrap32_nat, Nat.mod_eq_of_lt (a ^^^ b).isLt]
theorem bits_and32 (a b : BitVec 32) : bits .and .u32 (a.toNat : Int) (b.toNat : Int) = ((a &&& b).toNat : Int) := by
  show IntKind.u32.wrap (((BitVec.ofInt 32 (a.toNat : Int) &&& BitVec.ofInt 32 (b.toNat : Int)).toNat : Nat) : Int) = _
  rw [ofInt32, ofInt32, wrap32_nat, Nat.mod_eq_of_lt (a &&& b).isLt]
theorem bits_or32 (a b : BitVec 32) : bits .or .u32 (a.toNat : Int) (b.toNat : Int) = ((a ||| b).toNat : Int) := by
  show IntKind.u32.wrap (((BitVec.ofInt 32 (a.toNat : Int) ||| BitVec.ofInt 32 (b.toNat : Int)).toNat : Nat) : Int) = _
  rw [ofInt32, ofInt32, wrap32_nat, Nat.mod_eq_of_lt (a ||| b).isLt]
theorem wrap_add32 (a b : BitVec 32) : IntKind.u32.wrap ((a.toNat : Int) + (b.toNat : Int)) = ((a + b).toNat : Int) := by
  rw [← Int.natCast_add, wrap32_nat, BitVec.toNat_add]
theorem shr32 (a : BitVec 32) (n : Nat) : (a.toNat : Int) / 2 ^ n = ((a >>> n).toNat : Int) := by
  rw [BitVec.toNat_ushiftRight, Nat.shiftRight_eq_div_pow]; norm_cast
theorem shl32 (a : BitVec 32) (n : Nat) : IntKind.u32.wrap ((a.toNat : Int) * 2 ^ n) = ((a <<< n).toNat : Int) := by
  rw [BitVec.toNat_shiftLeft, Nat.shiftLeft_eq, ← wrap32_nat]; norm_cast
/-- the complement, as an exclusive or with all ones -/
theorem not32 (a : BitVec 32) : bits .xor .u32 4294967295 (a.toNat : Int) = ((~~~a).toNat : Int) := by
  have e : (4294967295 : Int) = ((BitVec.allOnes 32).toNat : Int) := rfl
  rw [e, bits_xor32, BitVec.allOnes_xor]
/-- turned right -/
def rr (x : BitVec 32) (n : Nat) : BitVec 32 := x >>> n ||| x <<< (32 - n)
end Go.Proofs.YtdnjieffbgmagaaDoor

/- A block of words of 32 bits, known whole. Nothing of the program stands here. -/
namespace Go.Proofs.YtdnjieffbgmagaaDoor
open Go.RowKit
/-- words as values -/
def Wd (l : List (BitVec 32)) : List Value := l.map fun x => .int .u32 (x.toNat : Int)
theorem Wd_length (l : List (BitVec 32)) : (Wd l).length = l.length := by simp [Wd]
/-- block B holds the words l, all of them may be written -/
def BlkW (w : World) (B : Nat) (t : TypeId) (l : List (BitVec 32)) : Prop := w.heap[B]? = some (.cells (Wd l).toArray t (0, 0))

theorem BlkW.lt {w : World} {B : Nat} {t : TypeId} {l : List (BitVec 32)} (h : BlkW w B t l) : B < w.heap.size := by
  unfold BlkW at h
  exact (Array.getElem?_eq_some_iff.1 h).1
theorem BlkW.cell {w : World} {B : Nat} {t : TypeId} {l : List (BitVec 32)} (h : BlkW w B t l) (i : Nat) (hi : i < l.length) : w.cell? ⟨B, i, none⟩ = some (.int .u32 ((l.getD i 0).toNat : Int)) := by
  rw [cell_of_row w B i _ t (0, 0) h]
  simp [Wd, hi]
theorem BlkW.frozen {w : World} {B : Nat} {t : TypeId} {l : List (BitVec 32)} (h : BlkW w B t l) (i : Nat) : w.frozen? ⟨B, i, none⟩ = false := frozen_of_row w B i _ t h
theorem BlkW.set {w : World} {B : Nat} {t : TypeId} {l : List (BitVec 32)} (h : BlkW w B t l) (i : Nat) (x : BitVec 32) : BlkW (w.setCell ⟨B, i, none⟩ (.int .u32 (x.toNat : Int))) B t (l.set i x) := by
  unfold BlkW
  rw [heap_setCell_same w B i _ t _ h]
  congr 2
  apply Array.ext'
  simp [Wd, List.map_set]
theorem BlkW.far {w : World} {B : Nat} {t : TypeId} {l : List (BitVec 32)} (h : BlkW w B t l) (a : Addr) (hne : B ≠ a.block) (v : Value) : BlkW (w.setCell a v) B t l := by
  unfold BlkW
  rw [heap_setCell_other w a B v hne]; exact h
theorem BlkW.below {n : Nat} {w w' : World} {B : Nat} {t : TypeId} {l : List (BitVec 32)} (h : BlkW w B t l) (hb : Below n w w') (hB : B < n) : BlkW w' B t l := by
  unfold BlkW
  rw [hb.block B hB]; exact h
theorem BlkW.on {w w' : World} {B : Nat} {t : TypeId} {l : List (BitVec 32)} (h : BlkW w B t l) (hb : Below w.heap.size w w') : BlkW w' B t l := h.below hb h.lt
theorem BlkW.alloc {w : World} {B : Nat} {t : TypeId} {l : List (BitVec 32)} (h : BlkW w B t l) (o : Obj) : BlkW (w.alloc o) B t l :=
  h.below ((Below.refl _ _).alloc (Nat.le_refl _) o) h.lt
theorem BlkW.drewN {w : World} {B : Nat} {t : TypeId} {l : List (BitVec 32)} (h : BlkW w B t l) (n : Nat) : BlkW (w.drewN n) B t l := h
theorem BlkW.drew {w : World} {B : Nat} {t : TypeId} {l : List (BitVec 32)} (h : BlkW w B t l) : BlkW w.drew B t l := h
theorem BlkW.fresh (w : World) (t : TypeId) (l : List (BitVec 32)) (cs : Array Value) (hc : cs = (Wd l).toArray) (n : Nat) (hn : n = w.heap.size) : BlkW (w.alloc (.cells cs t)) n t l := by
  subst hn hc; exact heap_alloc_new w _
theorem below_drewN {B : Nat} {a w : World} (h : Below B a w) (n : Nat) : Below B a (w.drewN n) := ⟨h.os, h.tape, h.output, h.size, h.block⟩
theorem below_setCells {B : Nat} {a : World} {b : Nat} (hb : B ≤ b) : ∀ (vs : List Value) (o : Nat) (w : World), Below B a w → Below B a (w.setCells b o vs)
  | [], _, _, h => h
  | v :: r, o, w, h => by rw [World.setCells]; exact below_setCells hb r (o + 1) _ (h.setCell hb v)
theorem heap_setCells_other (b k : Nat) (hk : k ≠ b) : ∀ (vs : List Value) (o : Nat) (w : World), (w.setCells b o vs).heap[k]? = w.heap[k]?
  | [], _, _ => rfl
  | v :: r, o, w => by rw [World.setCells, heap_setCells_other b k hk r (o + 1), heap_setCell_other _ _ _ _ hk]
theorem set_seg (pre : List Value) (v : Value) (r : List Value) (post : List Value) (h : post.length = r.length + 1) : ∃ u p', post = u :: p' ∧ (pre ++ post).set pre.length v = (pre ++ [v]) ++ p' ∧ p'.length = r.length := by
  cases post with
  | nil => simp at h
  | cons u p' => exact ⟨u, p', rfl, by simp, by simpa using h⟩
theorem heap_setCells_all (b : Nat) (t : TypeId) : ∀ (vs pre post : List Value) (w : World), post.length = vs.length → w.heap[b]? = some (.cells (pre ++ post).toArray t (0, 0)) →
    (w.setCells b pre.length vs).heap[b]? = some (.cells (pre ++ vs).toArray t (0, 0))
  | [], pre, post, w, hl, hg => by
    have : post = [] := by simpa using hl
    subst this
    simpa [World.setCells] using hg
  | v :: r, pre, post, w, hl, hg => by
    obtain ⟨u, p', rfl, e, hp⟩ := set_seg pre v r post (by simpa using hl)
    rw [World.setCells]
    have h2 := heap_setCell_same w b pre.length _ t v hg
    have e3 : ((pre ++ u :: p').toArray.setIfInBounds pre.length v) = ((pre ++ [v]) ++ p').toArray := by
      apply Array.ext'
      simp
    rw [e3] at h2
    have := heap_setCells_all b t r (pre ++ [v]) p' _ hp h2
    simpa using this
/-- a whole block stored -/
theorem BlkW.stored {w : World} {B : Nat} {t : TypeId} {l : List (BitVec 32)} (h : BlkW w B t l) (l' : List (BitVec 32)) (hl : l'.length = l.length) : BlkW (w.setCells B 0 (Wd l')) B t l' := by
  have := heap_setCells_all B t (Wd l') [] (Wd l) w (by simp [Wd, hl]) h
  simpa [BlkW] using this
theorem BlkW.there {w : World} {B : Nat} {t : TypeId} {l : List (BitVec 32)} (h : BlkW w B t l) (n : Nat) (hn : n ≤ l.length) : w.there B 0 n := by
  intro j hj
  rw [Nat.zero_add, h.cell j (by omega), h.frozen j]
  exact ⟨rfl, rfl⟩
theorem BlkW.range {w : World} {B : Nat} {t : TypeId} {l : List (BitVec 32)} (h : BlkW w B t l) : w.rangeAt B 0 (Wd l) := by
  intro j v hv
  rw [Nat.zero_add, cell_of_row w B j _ t (0, 0) h]
  simpa using hv
theorem Wd_cells (l : List (BitVec 32)) : ∀ v ∈ Wd l, v.oneCell' = true := by
  intro v hv
  obtain ⟨x, -, rfl⟩ := List.mem_map.1 hv
  rfl

/-- a whole block read, at the list of a plain region -/
theorem load_blk {P : Program} {ops : Array Oper} {rest : List Oper} {o : Oper} {a : Act} {Q : Exit → Act → World → Prop} {w : World} (hgd : o.guard = none) (T : TypeId) (x : Operand) (ho : o.op = .load T x)
    (B : Nat) (hx : a.eval x = .pointer (some ⟨B, 0, none⟩)) {t : TypeId} {l : List (BitVec 32)} (hb : BlkW w B t l) {d : TypeDesc} (hu : P.underlying T = some d) (hd : d.isRow = true) (hi : (P.info? T).map (·.size) = some l.length)
    (h : wpList P ops Q rest (a.put o.dst (.agg (Wd l).toArray)) w) : wpList P ops Q (o :: rest) a w :=
  wpList_load_mid hgd T x ho B 0 hx (Wd l) d hb.range hu hd (by rw [Wd_length]; exact hi) h
/-- a whole block stored -/
theorem store_blk {P : Program} {ops : Array Oper} {rest : List Oper} {o : Oper} {a : Act} {Q : Exit → Act → World → Prop} {w : World} (hgd : o.guard = none) (hdst : o.dst = none) (T : TypeId) (x y : Operand) (ho : o.op = .store T x y)
    (B : Nat) (hx : a.eval x = .pointer (some ⟨B, 0, none⟩)) {l' : List (BitVec 32)} (hy : a.eval y = .agg (Wd l').toArray) {t : TypeId} {l : List (BitVec 32)} (hb : BlkW w B t l) (hl : l'.length = l.length)
    (hi : (P.info? T).map (·.size) = some l.length)
    (h : wpList P ops Q rest a (w.setCells B 0 (Wd l'))) : wpList P ops Q (o :: rest) a w := by
  refine wpList_store_mid hgd T x y ho B 0 (Wd l').toArray hx hy ?_ ?_ ?_ ?_
  · rw [List.size_toArray, Wd_length, hl]; exact hb.there _ (Nat.le_refl _)
  · rw [List.size_toArray, Wd_length, hl]; exact hi
  · exact all_oneCell_toArray (Wd_cells l')
  · rw [hdst]; simpa [Act.put] using h
theorem results_blk {P : Program} {fn : Func} {p : Tmp} {T : TypeId} (h : fn.results = #[.cell p T]) (tmps : Array Value) (w : World) (B : Nat) {t : TypeId} {l : List (BitVec 32)} {d : TypeDesc}
    (hp : tmps.getD p undef = .pointer (some ⟨B, 0, none⟩)) (hb : BlkW w B t l) (hu : P.underlying T = some d) (hd : d.isRow = true) (hi : (P.info? T).map (·.size) = some l.length) :
    (results fn tmps).run P w = .ok (.agg (Wd l).toArray) w :=
  results_cell_row h tmps w B t _ (0, 0) d hp hb hu (by cases d <;> simp_all) (by rw [List.size_toArray, Wd_length]; exact hi)
end Go.Proofs.YtdnjieffbgmagaaDoor

/- SHA-256 by the document's words, over lists of bytes and of words. Nothing of the program stands here. -/
namespace Go.Proofs.YtdnjieffbgmagaaDoor
open Go.RowKit
/-- four bytes' word, the highest first -/
def word4 (a b c d : UInt8) : BitVec 32 := BitVec.ofNat 32 (a.toNat * 16777216 + b.toNat * 65536 + c.toNat * 256 + d.toNat)
/-- a block's word, by its place -/
def wdAt (b : List UInt8) (t : Nat) : BitVec 32 := word4 (b.getD (4 * t) 0) (b.getD (4 * t + 1) 0) (b.getD (4 * t + 2) 0) (b.getD (4 * t + 3) 0)
def firstW (b : List UInt8) : Nat → List (BitVec 32)
  | 0 => []
  | n + 1 => firstW b n ++ [wdAt b n]
theorem firstW_length (b : List UInt8) (n : Nat) : (firstW b n).length = n := by
  induction n with
  | zero => rfl
  | succ n ih => simp [firstW, ih]
def near (x : BitVec 32) : BitVec 32 := rr x 17 ^^^ rr x 19 ^^^ x >>> 10
def far (x : BitVec 32) : BitVec 32 := rr x 7 ^^^ rr x 18 ^^^ x >>> 3
/-- the word that follows the words so far -/
def nextW (r : List (BitVec 32)) : BitVec 32 := near (r.getD (r.length - 2) 0) + r.getD (r.length - 7) 0 + far (r.getD (r.length - 15) 0) + r.getD (r.length - 16) 0
def extW : Nat → List (BitVec 32) → List (BitVec 32)
  | 0, l => l
  | n + 1, l => extW n l ++ [nextW (extW n l)]
theorem extW_length (n : Nat) (l : List (BitVec 32)) : (extW n l).length = l.length + n := by
  induction n with
  | zero => rfl
  | succ n ih => simp [extW, ih]; omega
/-- all 64 words of a block -/
def sched (b : List UInt8) : List (BitVec 32) := extW 48 (firstW b 16)
theorem sched_length (b : List UInt8) : (sched b).length = 64 := by unfold sched; rw [extW_length, firstW_length]

/-- the 8 words of a sum on its way -/
structure S8 where
  a : BitVec 32
  b : BitVec 32
  c : BitVec 32
  d : BitVec 32
  e : BitVec 32
  f : BitVec 32
  g : BitVec 32
  h : BitVec 32
def S8.l (s : S8) : List (BitVec 32) := [s.a, s.b, s.c, s.d, s.e, s.f, s.g, s.h]
theorem S8.l_length (s : S8) : s.l.length = 8 := rfl
theorem S8.inj {s t : S8} (h : s.l = t.l) : s = t := by
  cases s; cases t
  simp only [S8.l, List.cons.injEq, and_true] at h
  obtain ⟨rfl, rfl, rfl, rfl, rfl, rfl, rfl, rfl⟩ := h
  rfl
def bigE (e : BitVec 32) : BitVec 32 := rr e 6 ^^^ rr e 11 ^^^ rr e 25
def chE (e f g : BitVec 32) : BitVec 32 := (e &&& f) ^^^ (~~~e &&& g)
def bigA (a : BitVec 32) : BitVec 32 := rr a 2 ^^^ rr a 13 ^^^ rr a 22
def majA (a b c : BitVec 32) : BitVec 32 := (a &&& b) ^^^ (a &&& c) ^^^ (b &&& c)
def t1Of (k x : BitVec 32) (s : S8) : BitVec 32 := s.h + bigE s.e + chE s.e s.f s.g + k + x
def t2Of (s : S8) : BitVec 32 := bigA s.a + majA s.a s.b s.c
def stepS (k x : BitVec 32) (s : S8) : S8 := ⟨t1Of k x s + t2Of s, s.a, s.b, s.c, s.d + t1Of k x s, s.e, s.f, s.g⟩
def runS (ks ws : List (BitVec 32)) (s : S8) : Nat → S8
  | 0 => s
  | n + 1 => stepS (ks.getD n 0) (ws.getD n 0) (runS ks ws s n)
def addS (s t : S8) : S8 := ⟨s.a + t.a, s.b + t.b, s.c + t.c, s.d + t.d, s.e + t.e, s.f + t.f, s.g + t.g, s.h + t.h⟩
def keysL : List (BitVec 32) := [
  1116352408, 1899447441, 3049323471, 3921009573, 961987163, 1508970993, 2453635748, 2870763221,
  3624381080, 310598401, 607225278, 1426881987, 1925078388, 2162078206, 2614888103, 3248222580,
  3835390401, 4022224774, 264347078, 604807628, 770255983, 1249150122, 1555081692, 1996064986,
  2554220882, 2821834349, 2952996808, 3210313671, 3336571891, 3584528711, 113926993, 338241895,
  666307205, 773529912, 1294757372, 1396182291, 1695183700, 1986661051, 2177026350, 2456956037,
  2730485921, 2820302411, 3259730800, 3345764771, 3516065817, 3600352804, 4094571909, 275423344,
  430227734, 506948616, 659060556, 883997877, 958139571, 1322822218, 1537002063, 1747873779,
  1955562222, 2024104815, 2227730452, 2361852424, 2428436474, 2756734187, 3204031479, 3329325298]
theorem keysL_length : keysL.length = 64 := rfl
def firstS : S8 := ⟨1779033703, 3144134277, 1013904242, 2773480762, 1359893119, 2600822924, 528734635, 1541459225⟩
/-- the words mixed with a block -/
def mixS (s : S8) (b : List UInt8) : S8 := addS s (runS keysL (sched b) s 64)
/-- with the first n blocks of a text -/
def mixN : Nat → S8 → List UInt8 → S8
  | 0, s, _ => s
  | n + 1, s, b => mixN n (mixS s (b.take 64)) (b.drop 64)
/-- with every whole block -/
def mixAll (s : S8) (b : List UInt8) : S8 := mixN (b.length / 64) s b
/-- what is left -/
def restOf (b : List UInt8) : List UInt8 := b.drop (64 * (b.length / 64))
theorem mixAll_step (s : S8) (b : List UInt8) (h : 64 ≤ b.length) : mixAll s b = mixAll (mixS s (b.take 64)) (b.drop 64) := by
  unfold mixAll
  rw [show b.length / 64 = (b.drop 64).length / 64 + 1 by simp; omega]
  rfl
theorem mixAll_end (s : S8) (b : List UInt8) (h : b.length < 64) : mixAll s b = s := by
  unfold mixAll
  rw [show b.length / 64 = 0 by omega]
  rfl
theorem restOf_step (b : List UInt8) (h : 64 ≤ b.length) : restOf b = restOf (b.drop 64) := by
  unfold restOf
  rw [List.drop_drop, List.length_drop]
  congr 1
  omega
theorem restOf_end (b : List UInt8) (h : b.length < 64) : restOf b = b := by
  unfold restOf
  rw [show b.length / 64 = 0 by omega]
  rfl
theorem restOf_length (b : List UInt8) : (restOf b).length = b.length % 64 := by
  unfold restOf
  rw [List.length_drop]; omega
end Go.Proofs.YtdnjieffbgmagaaDoor

/- Bases that name nothing of the program: texts as lists of bytes, worlds below which nothing has turned, cells kept and stored, slices that can be read. -/
namespace Go.Proofs.YtdnjieffbgmagaaDoor
open Go.RowKit
set_option maxRecDepth 100000
theorem ret_u32 {k : IntKind} {a b : Int} (h : a = b) : Ending.returned (.int k a) = .returned (.int k b) := by rw [h]
theorem ret_bool {a b : Bool} (h : a = b) : Ending.returned (.bool a) = .returned (.bool b) := by rw [h]
theorem bits_or_nat (a b : Nat) (ha : a < 4294967296) (hb : b < 4294967296) : bits .or .u32 (a : Int) (b : Int) = ((a ||| b : Nat) : Int) := by
  show IntKind.u32.wrap (((BitVec.ofInt 32 (a : Int) ||| BitVec.ofInt 32 (b : Int)).toNat : Nat) : Int) = _
  rw [BitVec.toNat_or, BitVec.ofInt_natCast, BitVec.ofInt_natCast, BitVec.toNat_ofNat, BitVec.toNat_ofNat, Nat.mod_eq_of_lt (a := a) ha, Nat.mod_eq_of_lt (a := b) hb, wrap32_nat, Nat.mod_eq_of_lt (Nat.or_lt_two_pow (n := 32) ha hb)]
theorem or_sum (a b i : Nat) (h : b < 2 ^ i) : a * 2 ^ i ||| b = a * 2 ^ i + b := by
  rw [← Nat.shiftLeft_eq, Nat.shiftLeft_add_eq_or_of_lt h]
theorem str_slice {P : Program} (t : TypeId) (hu : P.underlying t = some .string) (s : ByteArray) (i j : Int) (a b : Nat) (hi : i = a) (hj : j = b) (h1 : a ≤ b) (h2 : b ≤ s.size) (w : World) :
    (Instr.slice t (.string s) (some (.int .i64 i)) (some (.int .i64 j)) none).run P w = .ok (.string (s.extract a b)) w := by
  subst hi hj
  rw [run_slice_string_if (P := P) w t s .i64 .i64 _ _ hu, if_pos (by omega), if_pos (by omega)]
  rfl
/-- a text's bytes -/
def bl (s : ByteArray) : List UInt8 := s.data.toList
theorem bl_length (s : ByteArray) : (bl s).length = s.size := rfl
theorem bl_extract (s : ByteArray) (i j : Nat) : bl (s.extract i j) = ((bl s).take j).drop i := by
  unfold bl
  rw [ByteArray.data_extract]
  simp [List.extract_eq_take_drop, List.drop_take]
theorem bl_append (s t : ByteArray) : bl (s ++ t) = bl s ++ bl t := by
  unfold bl
  simp [ByteArray.data_append]
theorem bl_get (s : ByteArray) (i : Nat) (h : i < s.size) : (bl s).getD i 0 = s[i] := by
  have h' : i < s.data.toList.length := h
  rw [List.getD_eq_getElem?_getD, bl, List.getElem?_eq_getElem h']
  rfl
def strL (l : List UInt8) : ByteArray := ⟨l.toArray⟩
theorem strL_size (l : List UInt8) : (strL l).size = l.length := by simp [strL, ByteArray.size]
theorem bl_strL (l : List UInt8) : bl (strL l) = l := by simp [bl, strL]
theorem strL_bl (s : ByteArray) : strL (bl s) = s := by
  apply ByteArray.ext; simp [bl, strL]
theorem bl_inj {s t : ByteArray} (h : bl s = bl t) : s = t := by rw [← strL_bl s, h, strL_bl]
theorem strL_append (a b : List UInt8) : strL a ++ strL b = strL (a ++ b) := bl_inj (by rw [bl_append, bl_strL, bl_strL, bl_strL])
theorem quiet_left {P : Program} {f : FuncId} {args : Array Value} {w : World} {n : Nat} {v : Value}
    (h : Calls P f args (w.drewN n) fun e w' => e = .returned v ∧ w.drewN n = w') : Calls P f args (w.drewN n) fun e w'' => e = .returned v ∧ ∃ m, w'' = w.drewN m :=
  h.mono fun _ _ ⟨he, hm⟩ => ⟨he, n, hm.symm⟩
theorem add_mod32 (a b c : BitVec 32) (h : a + b = c) : ((a.toNat : Int) + (b.toNat : Int)) % 4294967296 = (c.toNat : Int) := by
  subst h
  rw [← wrap_add32, IntKind.wrap_u32]
theorem below_redrawn {B : Nat} {a w w' : World} (h : Below B a w) (h1 : w'.heap = w.heap) (h2 : w'.os = w.os) (h3 : w'.tape = w.tape) (h4 : w'.output = w.output) : Below B a w' :=
  ⟨h2.trans h.os, h3.trans h.tape, h4.trans h.output, by rw [h1]; exact h.size, by rw [h1]; exact h.block⟩
theorem setCell_far {w : World} {B i j : Nat} {v u : Value} (h : w.cell? ⟨B, j, none⟩ = some v) (hij : j ≠ i) : (w.setCell ⟨B, i, none⟩ u).cell? ⟨B, j, none⟩ = some v := by
  rw [World.cell?_setCell_other]
  · exact h
  · intro e; cases e; exact hij rfl
theorem cell_set_some {w : World} {p q : Addr} {v : Value} (h : ∃ x, w.cell? q = some x) : ∃ x, (w.setCell p v).cell? q = some x := by
  obtain ⟨x, hx⟩ := h
  by_cases e : p = q
  · subst e; exact ⟨v, World.cell?_setCell_same _ _ _ hx⟩
  · exact ⟨x, by rw [World.cell?_setCell_other _ _ _ _ e]; exact hx⟩
/-- of what was there at w0 nothing has turned -/
structure Bel (w0 w : World) : Prop where
  b : Below w0.heap.size w0 w
theorem Bel.refl (w : World) : Bel w w := ⟨Below.refl _ _⟩
theorem Bel.drew {w0 w : World} (h : Bel w0 w) : Bel w0 w.drew := ⟨h.b.drew⟩
theorem Bel.alloc {w0 w : World} (h : Bel w0 w) (o : Obj) : Bel w0 (w.alloc o) := ⟨h.b.alloc h.b.size o⟩
theorem Bel.on {w0 w w' : World} (h : Bel w0 w) (hb : Below w.heap.size w w') : Bel w0 w' := ⟨h.b.trans (hb.mono h.b.size)⟩
theorem Bel.far {w0 w : World} (h : Bel w0 w) {p : Addr} (hp : w0.heap.size ≤ p.block) (u : Value) : Bel w0 (w.setCell p u) := ⟨h.b.setCell hp u⟩
theorem Bel.swap {w0 w : World} {o : Obj} (h : Bel w0 (w.alloc o)) (hw : w0.heap.size ≤ w.heap.size) (o' : Obj) : Bel w0 (w.alloc o') :=
  ⟨h.b.trans ⟨rfl, rfl, rfl, by simp, fun k hk => by rw [Below.heap_alloc _ _ _ (by omega), Below.heap_alloc _ _ _ (by omega)]⟩⟩
theorem bel_six {w0 w : World} {p0 p1 p2 p3 p4 p5 : Addr} {v0 v1 v2 v3 v4 v5 : Value} (h : w0.cell? p0 = some v0 ∧ w0.cell? p1 = some v1 ∧ w0.cell? p2 = some v2 ∧ w0.cell? p3 = some v3 ∧ w0.cell? p4 = some v4 ∧ w0.cell? p5 = some v5) (hb : Bel w0 w) :
    (w.cell? p0 = some v0 ∧ w.cell? p1 = some v1 ∧ w.cell? p2 = some v2 ∧ w.cell? p3 = some v3 ∧ w.cell? p4 = some v4 ∧ w.cell? p5 = some v5) ∧ Bel w0 w := by
  have f : ∀ p v, w0.cell? p = some v → w.cell? p = some v := fun p v h => by rw [hb.b.cell (World.block_lt_of_cell? w0 _ h)]; exact h
  obtain ⟨h0, h1, h2, h3, h4, h5⟩ := h
  exact ⟨⟨f _ _ h0, f _ _ h1, f _ _ h2, f _ _ h3, f _ _ h4, f _ _ h5⟩, hb⟩
/-- a block of three that lies behind a call -/
theorem box3 {w w1 : World} {v0 v1 v2 : Value} {t : TypeId} (hb : Below (w.alloc (.cells #[v0, v1, v2] t)).heap.size (w.alloc (.cells #[v0, v1, v2] t)) w1) :
    (w1.cell? ⟨w.heap.size, 0, none⟩ = some v0 ∧ w1.cell? ⟨w.heap.size, 1, none⟩ = some v1 ∧ w1.cell? ⟨w.heap.size, 2, none⟩ = some v2) ∧
    (w1.frozen? ⟨w.heap.size, 0, none⟩ = false ∧ w1.frozen? ⟨w.heap.size, 1, none⟩ = false ∧ w1.frozen? ⟨w.heap.size, 2, none⟩ = false) ∧ w.heap.size < w1.heap.size ∧ Below w.heap.size w w1 := by
  have hH : w1.heap[w.heap.size]? = some (.cells #[v0, v1, v2] t) := by rw [hb.block _ (by simp)]; exact heap_alloc_new _ _
  exact ⟨⟨by rw [cell_of_row _ _ _ _ _ _ hH]; rfl, by rw [cell_of_row _ _ _ _ _ _ hH]; rfl, by rw [cell_of_row _ _ _ _ _ _ hH]; rfl⟩,
    ⟨frozen_of_row _ _ _ _ _ hH, frozen_of_row _ _ _ _ _ hH, frozen_of_row _ _ _ _ _ hH⟩, (Array.getElem?_eq_some_iff.1 hH).1, ((Below.refl _ _).alloc (Nat.le_refl _) _).trans (hb.mono (by simp))⟩
theorem set3 {w : World} {B : Nat} {v0 v1 v2 : Value} (h : w.cell? ⟨B, 0, none⟩ = some v0 ∧ w.cell? ⟨B, 1, none⟩ = some v1 ∧ w.cell? ⟨B, 2, none⟩ = some v2) (a b c : Value) :
    (((w.setCell ⟨B, 0, none⟩ a).setCell ⟨B, 1, none⟩ b).setCell ⟨B, 2, none⟩ c).cell? ⟨B, 0, none⟩ = some a ∧ (((w.setCell ⟨B, 0, none⟩ a).setCell ⟨B, 1, none⟩ b).setCell ⟨B, 2, none⟩ c).cell? ⟨B, 1, none⟩ = some b ∧
    (((w.setCell ⟨B, 0, none⟩ a).setCell ⟨B, 1, none⟩ b).setCell ⟨B, 2, none⟩ c).cell? ⟨B, 2, none⟩ = some c :=
  ⟨setCell_far (setCell_far (World.cell?_setCell_same _ ⟨B, 0, none⟩ _ h.1) (by omega)) (by omega), setCell_far (World.cell?_setCell_same _ ⟨B, 1, none⟩ _ (setCell_far h.2.1 (by omega))) (by omega),
    World.cell?_setCell_same _ ⟨B, 2, none⟩ _ (setCell_far (setCell_far h.2.2 (by omega)) (by omega))⟩
theorem store3 {w : World} {B : Nat} {a b c : Value} {t : TypeId} (h : w.heap[B]? = some (.cells #[a, b, c] t (0, 0))) (x y z : Value) :
    (((w.setCell ⟨B, 0, none⟩ x).setCell ⟨B, 1, none⟩ y).setCell ⟨B, 2, none⟩ z).heap[B]? = some (.cells #[x, y, z] t (0, 0)) := by
  have h1 := heap_setCell_same w B 0 _ t x h
  have h2 := heap_setCell_same _ B 1 _ t y h1
  have h3 := heap_setCell_same _ B 2 _ t z h2
  rw [h3]
  simp
theorem store6 {w : World} {B : Nat} {a b c a' b' c' : Value} {t : TypeId} (h : w.heap[B]? = some (.cells #[a, b, c, a', b', c'] t (0, 0))) (x y z x' y' z' : Value) :
    ((((((w.setCell ⟨B, 0, none⟩ x).setCell ⟨B, 1, none⟩ y).setCell ⟨B, 2, none⟩ z).setCell ⟨B, 3, none⟩ x').setCell ⟨B, 4, none⟩ y').setCell ⟨B, 5, none⟩ z').heap[B]? = some (.cells #[x, y, z, x', y', z'] t (0, 0)) := by
  have h1 := heap_setCell_same w B 0 _ t x h
  have h2 := heap_setCell_same _ B 1 _ t y h1
  have h3 := heap_setCell_same _ B 2 _ t z h2
  have h4 := heap_setCell_same _ B 3 _ t x' h3
  have h5 := heap_setCell_same _ B 4 _ t y' h4
  have h6 := heap_setCell_same _ B 5 _ t z' h5
  rw [h6]
  simp
theorem below6 {w0 w : World} {n B : Nat} (h : Below n w0 w) (hB : n ≤ B) (x y z x' y' z' : Value) : Below n w0 ((((((w.setCell ⟨B, 0, none⟩ x).setCell ⟨B, 1, none⟩ y).setCell ⟨B, 2, none⟩ z).setCell ⟨B, 3, none⟩ x').setCell ⟨B, 4, none⟩ y').setCell ⟨B, 5, none⟩ z') :=
  (((((h.setCell (p := ⟨B, 0, none⟩) hB x).setCell (p := ⟨B, 1, none⟩) hB y).setCell (p := ⟨B, 2, none⟩) hB z).setCell (p := ⟨B, 3, none⟩) hB x').setCell (p := ⟨B, 4, none⟩) hB y').setCell (p := ⟨B, 5, none⟩) hB z'
theorem bits_xor8 (a b : UInt8) : bits .xor .u8 (a.toNat : Int) (b.toNat : Int) = ((a ^^^ b).toNat : Int) := by
  show IntKind.u8.wrap (((BitVec.ofInt 8 (a.toNat : Int) ^^^ BitVec.ofInt 8 (b.toNat : Int)).toNat : Nat) : Int) = _
  have e : ∀ x : UInt8, BitVec.ofInt 8 (x.toNat : Int) = x.toBitVec := fun x => by
    rw [BitVec.ofInt_natCast]
    exact BitVec.eq_of_toNat_eq (by rw [BitVec.toNat_ofNat, Nat.mod_eq_of_lt x.toNat_lt]; rfl)
  rw [e, e, IntKind.wrap_u8]
  have := (a.toBitVec ^^^ b.toBitVec).isLt
  have e2 : ((a ^^^ b).toNat : Int) = ((a.toBitVec ^^^ b.toBitVec).toNat : Int) := rfl
  rw [e2]
  omega
theorem cell_plain {w : World} {a : Addr} {v : Value} (h : w.cell? a = some v) : a = ⟨a.block, a.off, none⟩ ∧ a.block < w.heap.size := by
  have hlt := World.block_lt_of_cell? w a h
  refine ⟨?_, hlt⟩
  obtain ⟨b, o, s⟩ := a
  cases s with
  | none => rfl
  | some s =>
    unfold World.cell? at h
    split at h
    · simp at h
    · cases h
def sizeOfStr : Value → Nat | .string x => x.size | _ => 0
theorem byte_of (n : Nat) : IntKind.u8.wrap (n : Int) = ((UInt8.ofNat n).toNat : Int) := by
  rw [IntKind.wrap_u8, UInt8.toNat_ofNat']; omega
theorem byte_div (n d : Nat) : IntKind.u8.wrap ((n : Int) / (d : Int)) = ((UInt8.ofNat (n / d)).toNat : Int) := by
  rw [← Int.natCast_ediv, byte_of]
/-- a slice of words that lies somewhere -/
def WsAt (w : World) (v : Value) (l : List (BitVec 32)) : Prop :=
  ∃ b off cap : Nat, v = .slice (some ⟨b, off, none⟩) l.length cap ∧ b < w.heap.size ∧ ∀ i, i < l.length → w.cell? ⟨b, off + i, none⟩ = some (.int .u32 ((l.getD i 0).toNat : Int))
theorem WsAt.on {w w' : World} {v : Value} {l : List (BitVec 32)} (h : WsAt w v l) (hb : Below w.heap.size w w') : WsAt w' v l := by
  obtain ⟨b, off, cap, rfl, hlt, hc⟩ := h
  refine ⟨b, off, cap, rfl, Nat.lt_of_lt_of_le hlt hb.size, fun i hi => ?_⟩
  rw [hb.cell (p := ⟨b, off + i, none⟩) hlt]
  exact hc i hi
theorem WsAt.bel {w0 w : World} {v : Value} {l : List (BitVec 32)} (h : WsAt w0 v l) (hb : Bel w0 w) : WsAt w v l := h.on hb.b
theorem WsAt.below {n : Nat} {w w' : World} {v : Value} {l : List (BitVec 32)} (h : WsAt w v l) (hb : Below n w w') (hn : ∀ a k c, v = .slice (some a) k c → a.block < n) : WsAt w' v l := by
  obtain ⟨b, off, cap, rfl, hlt, hc⟩ := h
  have hlt' : b < n := hn ⟨b, off, none⟩ _ _ rfl
  refine ⟨b, off, cap, rfl, Nat.lt_of_lt_of_le hlt hb.size, fun i hi => ?_⟩
  rw [hb.cell (p := ⟨b, off + i, none⟩) hlt']
  exact hc i hi
theorem WsAt.set {w : World} {v : Value} {l : List (BitVec 32)} (h : WsAt w v l) (n i : Nat) (hne : ∀ b k c, v = .slice (some b) k c → b.block ≠ n) (u : Value) : WsAt (w.setCell ⟨n, i, none⟩ u) v l := by
  obtain ⟨b, off, cap, rfl, hlt, hc⟩ := h
  have hb : b ≠ n := hne _ _ _ rfl
  refine ⟨b, off, cap, rfl, by simpa using hlt, fun j hj => ?_⟩
  rw [World.cell?_setCell_other]
  · exact hc j hj
  · intro e; cases e; exact hb rfl
theorem ws_six {w : World} {v : Value} {l : List (BitVec 32)} {B : Nat} (h : WsAt w v l) (hne : ∀ b k c, v = .slice (some b) k c → b.block ≠ B) (x y z x' y' z' : Value) : WsAt ((((((w.setCell ⟨B, 0, none⟩ x).setCell ⟨B, 1, none⟩ y).setCell ⟨B, 2, none⟩ z).setCell ⟨B, 3, none⟩ x').setCell ⟨B, 4, none⟩ y').setCell ⟨B, 5, none⟩ z') v l :=
  (((((h.set B 0 hne x).set B 1 hne y).set B 2 hne z).set B 3 hne x').set B 4 hne y').set B 5 hne z'
theorem BlkW.ws {w : World} {B : Nat} {t : TypeId} {l : List (BitVec 32)} (h : BlkW w B t l) (n cap : Nat) (hn : n = l.length) : WsAt w (.slice (some ⟨B, 0, none⟩) n cap) l := by
  subst hn
  refine ⟨B, 0, cap, rfl, h.lt, fun i hi => ?_⟩
  rw [Nat.zero_add]
  exact h.cell i hi
theorem BlkW.apart {w : World} {B : Nat} {t : TypeId} {l : List (BitVec 32)} (h : BlkW w B t l) (b o : Nat) (vs : List Value) (hne : B ≠ b) : BlkW (w.setCells b o vs) B t l := by
  unfold BlkW
  rw [heap_setCells_other b B hne]; exact h
/-- copy of words into a whole block -/
theorem copy_blk {P : Program} {w : World} {ops : Array Oper} {rest : List Oper} {o : Oper} {a : Act} {Q : Exit → Act → World → Prop} (hgd : o.guard = none) (d s : Operand) (dT sT : TypeId)
    (ho : o.op = .call { callee := .builtin .copy, args := #[d, s], argTypes := #[dT, sT] }) (elem : TypeId) (hu : P.underlying dT = some (.slice elem)) (hsz : (P.info? elem).map (·.size) = some 1)
    (B n cap : Nat) (v : Value) (hd : a.eval d = .slice (some ⟨B, 0, none⟩) n cap) (hs : a.eval s = v) {t : TypeId} {l l' : List (BitVec 32)} (hb : BlkW w B t l) (hv : WsAt w v l') (hl : l'.length = l.length) (hn : n = l.length)
    (h : wpList P ops Q rest (a.put o.dst (goInt (Wd l').length)) (w.setCells B 0 (Wd l'))) : wpList P ops Q (o :: rest) a w := by
  obtain ⟨b, off, c, rfl, -, hc⟩ := hv
  refine wpList_plain hgd fun K hK => ?_
  have hrun := run_copy_cells (P := P) w dT sT o.type elem B 0 n cap ⟨b, off, none⟩ l'.length c (Wd l') hu hsz (by rw [Wd_length, hl, hn]; simp)
    (fun j x hx => by
      have hj : j < l'.length := by
        have := (List.getElem?_eq_some_iff.1 hx).1
        rwa [Wd_length] at this
      rw [Addr.add_mid, hc j hj, ← hx]
      simp [Wd, hj])
    (fun j hj => by rw [Wd_length] at hj; rw [Nat.zero_add, hb.cell j (by omega)]; rfl) (fun j _ => by rw [Nat.zero_add]; exact hb.frozen j) (Wd_cells l')
  unfold Oper.wp
  simp [execOp, ho, resolve, invoke, builtin, hd, hs, hrun, Result.andThen]
  exact hK _ _ h
/-- a slice of n words, nil or not, that reads as l -/
def WSl (w : World) (a : Option Addr) (n : Nat) (l : List (BitVec 32)) : Prop :=
  l.length = n ∧ (0 < n → ∃ b off : Nat, a = some ⟨b, off, none⟩ ∧ b < w.heap.size ∧ ∀ i, i < n → w.cell? ⟨b, off + i, none⟩ = some (.int .u32 ((l.getD i 0).toNat : Int)))
theorem WSl.on {w w' : World} {a : Option Addr} {n : Nat} {l : List (BitVec 32)} (h : WSl w a n l) (hb : Below w.heap.size w w') : WSl w' a n l := by
  refine ⟨h.1, fun h0 => ?_⟩
  obtain ⟨b, off, ha, hlt, hc⟩ := h.2 h0
  refine ⟨b, off, ha, Nat.lt_of_lt_of_le hlt hb.size, fun i hi => ?_⟩
  rw [hb.cell (p := ⟨b, off + i, none⟩) hlt]
  exact hc i hi
theorem WSl.bel {w0 w : World} {a : Option Addr} {n : Nat} {l : List (BitVec 32)} (h : WSl w0 a n l) (hb : Bel w0 w) : WSl w a n l := h.on hb.b
theorem WSl.ws {w : World} {a : Option Addr} {n c : Nat} {l : List (BitVec 32)} (h : WSl w a n l) (h0 : 0 < n) : WsAt w (.slice a n c) l := by
  obtain ⟨b, off, rfl, hlt, hc⟩ := h.2 h0
  have hl := h.1
  subst hl
  exact ⟨b, off, c, rfl, hlt, hc⟩
theorem WSl.take {w : World} {a : Option Addr} {n : Nat} {l : List (BitVec 32)} (h : WSl w a n l) (k : Nat) : WSl w a (min n k) (l.take k) := by
  refine ⟨by rw [List.length_take, h.1]; omega, fun h0 => ?_⟩
  obtain ⟨b, off, ha, hlt, hc⟩ := h.2 (by omega)
  refine ⟨b, off, ha, hlt, fun i hi => ?_⟩
  rw [hc i (by omega), List.getD_eq_getElem?_getD, List.getD_eq_getElem?_getD, List.getElem?_take, if_pos (by omega)]
/-- texts that lie in a slice -/
def StrsAt (w : World) (v : Value) (l : List ByteArray) : Prop :=
  ∃ b off cap : Nat, v = .slice (some ⟨b, off, none⟩) l.length cap ∧ b < w.heap.size ∧ ∀ i, i < l.length → w.cell? ⟨b, off + i, none⟩ = some (.string (l.getD i ⟨#[]⟩))
theorem StrsAt.on {w w' : World} {v : Value} {l : List ByteArray} (h : StrsAt w v l) (hb : Below w.heap.size w w') : StrsAt w' v l := by
  obtain ⟨b, off, cap, rfl, hlt, hc⟩ := h
  exact ⟨b, off, cap, rfl, Nat.lt_of_lt_of_le hlt hb.size, fun i hi => by rw [hb.cell (p := ⟨b, off + i, none⟩) hlt]; exact hc i hi⟩
theorem StrsAt.one (w : World) (x : ByteArray) (t : TypeId) : StrsAt (w.alloc (.cells #[.string x] t)) (.slice (some ⟨w.heap.size, 0, none⟩) 1 1) [x] := by
  refine ⟨w.heap.size, 0, 1, rfl, by simp, fun i hi => ?_⟩
  obtain rfl : i = 0 := by simpa using hi
  simp
theorem StrsAt.cut {w : World} {g n cap f : Nat} {l r : List ByteArray} (h : StrsAt w (.slice (some ⟨g, 0, none⟩) n cap) l) (hp : ∃ t, l = r ++ t) (hr : r.length ≤ n) (hf : f = r.length) (_hc : f ≤ cap) : StrsAt w (.slice (some ⟨g, 0, none⟩) f cap) r := by
  subst hf
  obtain ⟨t, rfl⟩ := hp
  obtain ⟨b, o, c, e, hb, hcl⟩ := h
  have h3 : (g = b ∧ 0 = o) ∧ n = (r ++ t).length ∧ cap = c := by simpa using e
  obtain ⟨⟨rfl, rfl⟩, hnl, rfl⟩ := h3
  refine ⟨g, 0, cap, rfl, hb, fun i hi => ?_⟩
  rw [hcl i (by rw [← hnl]; omega)]
  simp [List.getD, List.getElem?_append_left hi]
def flat (l : List ByteArray) : List UInt8 := l.flatMap bl
theorem flat_step (l : List ByteArray) (k : Nat) (h : k < l.length) : flat (l.take (k + 1)) = flat (l.take k) ++ bl (l.getD k ⟨#[]⟩) := by
  have hg : l.getD k ⟨#[]⟩ = l[k] := by simp [List.getD, h]
  rw [hg, List.take_succ_eq_append_getElem h]
  unfold flat
  rw [List.flatMap_append, List.flatMap_singleton]
theorem flat_le (l : List ByteArray) (k : Nat) : (flat (l.take k)).length ≤ (flat l).length := by
  have h : flat l = flat (l.take k) ++ flat (l.drop k) := by
    unfold flat
    rw [← List.flatMap_append, List.take_append_drop]
  rw [h, List.length_append]; omega
theorem lit_bytes (w : World) (news : List UInt8) (t : TypeId) (cs : Array Value) (hcs : cs = (Lib.byteCells news).toArray) : ∀ j b, news[j]? = some b → (w.alloc (.cells cs t)).cell? ⟨w.heap.size, j, none⟩ = some (.int .u8 (b.toNat : Int)) := by
  intro j b hb
  rw [cell_of_row _ _ _ _ _ (0, 0) (heap_alloc_new w _), hcs]
  simp [Lib.byteCells, hb]
/-- a block of bytes, known whole -/
def BlkB (w : World) (B : Nat) (t : TypeId) (l : List UInt8) : Prop := w.heap[B]? = some (.cells (Lib.byteCells l).toArray t (0, 0))
theorem BlkB.lt {w : World} {B : Nat} {t : TypeId} {l : List UInt8} (h : BlkB w B t l) : B < w.heap.size := by
  unfold BlkB at h
  exact (Array.getElem?_eq_some_iff.1 h).1
theorem BlkB.cell {w : World} {B : Nat} {t : TypeId} {l : List UInt8} (h : BlkB w B t l) (i : Nat) (hi : i < l.length) : w.cell? ⟨B, i, none⟩ = some (.int .u8 ((l.getD i 0).toNat : Int)) := by
  rw [cell_of_row w B i _ t (0, 0) h]
  simp [Lib.byteCells, hi]
theorem BlkB.frozen {w : World} {B : Nat} {t : TypeId} {l : List UInt8} (h : BlkB w B t l) (i : Nat) : w.frozen? ⟨B, i, none⟩ = false := frozen_of_row w B i _ t h
theorem BlkB.set {w : World} {B : Nat} {t : TypeId} {l : List UInt8} (h : BlkB w B t l) (i : Nat) (x : UInt8) : BlkB (w.setCell ⟨B, i, none⟩ (.int .u8 (x.toNat : Int))) B t (l.set i x) := by
  unfold BlkB
  rw [heap_setCell_same w B i _ t _ h]
  congr 2
  apply Array.ext'
  simp [Lib.byteCells, List.map_set]
theorem BlkB.on {w w' : World} {B : Nat} {t : TypeId} {l : List UInt8} (h : BlkB w B t l) (hb : Below w.heap.size w w') : BlkB w' B t l := by
  unfold BlkB
  rw [hb.block B h.lt]; exact h
def iv (d : Nat) : Value := .int .i64 (d : Int)
/-- a slice of ints that lies in memory and reads as l -/
def IntsAt (w : World) (v : Value) (l : List Nat) : Prop := ∃ g cap : Nat, v = .slice (some ⟨g, 0, none⟩) l.length cap ∧ g < w.heap.size ∧ ∀ j, j < l.length → w.cell? ⟨g, j, none⟩ = some (.int .i64 ((l.getD j 0 : Nat) : Int))
theorem IntsAt.on {w w' : World} {v : Value} {l : List Nat} (h : IntsAt w v l) (hb : Below w.heap.size w w') : IntsAt w' v l := by
  obtain ⟨g, cap, rfl, hg, hc⟩ := h
  exact ⟨g, cap, rfl, Nat.lt_of_lt_of_le hg hb.size, fun j hj => by rw [hb.cell (p := ⟨g, j, none⟩) hg]; exact hc j hj⟩
theorem IntsAt.bel {w w' : World} {v : Value} {l : List Nat} (h : IntsAt w v l) (hb : Bel w w') : IntsAt w' v l := h.on hb.b
end Go.Proofs.YtdnjieffbgmagaaDoor
