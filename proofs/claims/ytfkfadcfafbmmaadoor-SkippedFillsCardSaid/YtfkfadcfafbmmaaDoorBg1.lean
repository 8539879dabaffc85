/- The texts Bv, Dblk, Dspec, one behind the other. -/
import Derived.WalkKit
import Derived.ProofKit
import Derived.Handy
import Derived.Lib.Hide
import Derived.Below
import Derived.Deep.MidRow
import Derived.Deep.Draws
/- Words of 32 bits as bit vectors: what the walk's integers come to. Nothing of the program stands here. -/
namespace Go.Proofs.YtfkfadcfafbmmaaDoor
open Go.RowKit
theorem wrap32_nat (n : Nat) : IntKind.u32.wrap (n : Int) = ((n % 4294967296 : Nat) : Int) := by
  rw [IntKind.wrap_u32]; omega
theorem ofInt32 (x : BitVec 32) : BitVec.ofInt 32 (x.toNat : Int) = x := by
  rw [BitVec.ofInt_natCast]; exact BitVec.ofNat_toNat 32 x |>.trans (BitVec.setWidth_eq x)
theorem bits_xor32 (a b : BitVec 32) : bits .xor .u32 (a.toNat : Int) (b.toNat : Int) = ((a ^^^ b).toNat : Int) := by
  show IntKind.u32.wrap (((BitVec.ofInt 32 (a.toNat : Int) ^^^ BitVec.ofInt 32 (b.toNat : Int)).toNat : Nat) : Int) = _
  rw [ofInt32, ofInt32, wrap32_nat, Nat.mod_eq_of_lt (a ^^^ b).isLt]
theorem bits_and32 (a b : BitVec 32) : bits .and .u32 (a.toNat : Int) (b.toNat : Int) = ((a &&& b).toNat : Int) := by
  show IntKind.u32.wrap (((BitVec.ofInt 32 (a.toNat : Int) &&& BitVec.ofInt 32 (b.toNat : Int)).toNat : Nat) : Int) = _
  rw [ofInt32, ofInt32, wrap32_nat, Nat.mod_eq_of_lt (a &&& b).isLt]
theorem bits_or32 (a b : BitVec 32) : bits .or .u32 (a.toNat : Int) (b.toNat : Int) = ((a ||| b).toNat : Int) := by
  show IntKind.u32.wrap (((BitVec.ofInt 32 (a.toNat : Int) ||| BitVec.ofInt 32 (b.toNat : Int)).toNat : Nat) : Int) = _
  rw [ofInt32, ofInt32, wrap32_nat, Nat.mod_eq_of_lt (a ||| b).isLt]
theorem wrap_add32 (a b : BitVec 32) : IntKind.u32.wrap ((a.toNat : Int) + (b.toNat : Int)) = ((a + b).toNat : Int) := by
  rw [← Int.natCast_add, wrap32_nat, BitVec.toNat_add]
theorem shr32 (a : BitVec 32) (n : Nat) : (a.toNat : Int) / 2 ^ n = ((a >>> n).toNat : Int) := by
  rw [BitVec.toNat_ushiftRight, Nat.shiftRight_eq_div_pow]; norm_cast
theorem shl32 (a : BitVec 32) (n : Nat) : IntKind.u32.wrap ((a.toNat : Int) * 2 ^ n) = ((a <<< n).toNat : Int) := by
  rw [BitVec.toNat_shiftLeft, Nat.shiftLeft_eq, ← wrap32_nat]; norm_cast
/-- the complement, as an exclusive or with all ones -/
theorem not32 (a : BitVec 32) : bits .xor .u32 4294967295 (a.toNat : Int) = ((~~~a).toNat : Int) := by
  have e : (4294967295 : Int) = ((BitVec.allOnes 32).toNat : Int) := rfl
  rw [e, bits_xor32, BitVec.allOnes_xor]
/-- turned right -/
def rr (x : BitVec 32) (n : Nat) : BitVec 32 := x >>> n ||| x <<< (32 - n)
end Go.Proofs.YtfkfadcfafbmmaaDoor

/- A block of words of 32 bits, known whole. Nothing of the program stands here. -/
namespace Go.Proofs.YtfkfadcfafbmmaaDoor
open Go.RowKit
/-- words as values -/
def Wd (l : List (BitVec 32)) : List Value := l.map fun x => .int .u32 (x.toNat : Int)
theorem Wd_length (l : List (BitVec 32)) : (Wd l).length = l.length := by simp [Wd]
/-- block B holds the words l, all of them may be written -/
def BlkW (w : World) (B : Nat) (t : TypeId) (l : List (BitVec 32)) : Prop := w.heap[B]? = some (.cells (Wd l).toArray t (0, 0))

theorem BlkW.lt {w : World} {B : Nat} {t : TypeId} {l : List (BitVec 32)} (h : BlkW w B t l) : B < w.heap.size := by
  unfold BlkW at h
  exact (Array.getElem?_eq_some_iff.1 h).1
theorem BlkW.cell {w : World} {B : Nat} {t : TypeId} {l : List (BitVec 32)} (h : BlkW w B t l) (i : Nat) (hi : i < l.length) : w.cell? ⟨B, i, none⟩ = some (.int .u32 ((l.getD i 0).toNat : Int)) := by
  rw [cell_of_row w B i _ t (0, 0) h]
  simp [Wd, hi]
theorem BlkW.frozen {w : World} {B : Nat} {t : TypeId} {l : List (BitVec 32)} (h : BlkW w B t l) (i : Nat) : w.frozen? ⟨B, i, none⟩ = false := frozen_of_row w B i _ t h
theorem BlkW.set {w : World} {B : Nat} {t : TypeId} {l : List (BitVec 32)} (h : BlkW w B t l) (i : Nat) (x : BitVec 32) : BlkW (w.setCell ⟨B, i, none⟩ (.int .u32 (x.toNat : Int))) B t (l.set i x) := by
  unfold BlkW
  rw [heap_setCell_same w B i _ t _ h]
  congr 2
  apply Array.ext'
  simp [Wd, List.map_set]
theorem BlkW.far {w : World} {B : Nat} {t : TypeId} {l : List (BitVec 32)} (h : BlkW w B t l) (a : Addr) (hne : B ≠ a.block) (v : Value) : BlkW (w.setCell a v) B t l := by
  unfold BlkW
  rw [heap_setCell_other w a B v hne]; exact h
theorem BlkW.below {n : Nat} {w w' : World} {B : Nat} {t : TypeId} {l : List (BitVec 32)} (h : BlkW w B t l) (hb : Below n w w') (hB : B < n) : BlkW w' B t l := by
  unfold BlkW
  rw [hb.block B hB]; exact h
theorem BlkW.on {w w' : World} {B : Nat} {t : TypeId} {l : List (BitVec 32)} (h : BlkW w B t l) (hb : Below w.heap.size w w') : BlkW w' B t l := h.below hb h.lt
theorem BlkW.alloc {w : World} {B : Nat} {t : TypeId} {l : List (BitVec 32)} (h : BlkW w B t l) (o : Obj) : BlkW (w.alloc o) B t l :=
  h.below ((Below.refl _ _).alloc (Nat.le_refl _) o) h.lt
theorem BlkW.drewN {w : World} {B : Nat} {t : TypeId} {l : List (BitVec 32)} (h : BlkW w B t l) (n : Nat) : BlkW (w.drewN n) B t l := h
theorem BlkW.drew {w : World} {B : Nat} {t : TypeId} {l : List (BitVec 32)} (h : BlkW w B t l) : BlkW w.drew B t l := h
theorem BlkW.fresh (w : World) (t : TypeId) (l : List (BitVec 32)) (cs : Array Value) (hc : cs = (Wd l).toArray) (n : Nat) (hn : n = w.heap.size) : BlkW (w.alloc (.cells cs t)) n t l := by
  subst hn hc; exact heap_alloc_new w _
theorem below_drewN {B : Nat} {a w : World} (h : Below B a w) (n : Nat) : Below B a (w.drewN n) := ⟨h.os, h.tape, h.output, h.size, h.block⟩
theorem below_setCells {B : Nat} {a : World} {b : Nat} (hb : B ≤ b) : ∀ (vs : List Value) (o : Nat) (w : World), Below B a w → Below B a (w.setCells b o vs)
  | [], _, _, h => h
  | v :: r, o, w, h => by rw [World.setCells]; exact below_setCells hb r (o + 1) _ (h.setCell hb v)
theorem heap_setCells_other (b k : Nat) (hk : k ≠ b) : ∀ (vs : List Value) (o : Nat) (w : World), (w.setCells b o vs).heap[k]? = w.heap[k]?
  | [], _, _ => rfl
  | v :: r, o, w => by rw [World.setCells, heap_setCells_other b k hk r (o + 1), heap_setCell_other _ _ _ _ hk]
theorem set_seg (pre : List Value) (v : Value) (r : List Value) (post : List Value) (h : post.length = r.length + 1) : ∃ u p', post = u :: p' ∧ (pre ++ post).set pre.length v = (pre ++ [v]) ++ p' ∧ p'.length = r.length := by
  cases post with
  | nil => simp at h
  | cons u p' => exact ⟨u, p', rfl, by simp, by simpa using h⟩
theorem heap_setCells_all (b : Nat) (t : TypeId) : ∀ (vs pre post : List Value) (w : World), post.length = vs.length → w.heap[b]? = some (.cells (pre ++ post).toArray t (0, 0)) →
    (w.setCells b pre.length vs).heap[b]? = some (.cells (pre ++ vs).toArray t (0, 0))
  | [], pre, post, w, hl, hg => by
    have : post = [] := by simpa using hl
    subst this
    simpa [World.setCells] using hg
  | v :: r, pre, post, w, hl, hg => by
    obtain ⟨u, p', rfl, e, hp⟩ := set_seg pre v r post (by simpa using hl)
    rw [World.setCells]
    have h2 := heap_setCell_same w b pre.length _ t v hg
    have e3 : ((pre ++ u :: p').toArray.setIfInBounds pre.length v) = ((pre ++ [v]) ++ p').toArray := by
      apply Array.ext'
      simp
    rw [e3] at h2
    have := heap_setCells_all b t r (pre ++ [v]) p' _ hp h2
    simpa using this
/-- a whole block stored -/
theorem BlkW.stored {w : World} {B : Nat} {t : TypeId} {l : List (BitVec 32)} (h : BlkW w B t l) (l' : List (BitVec 32)) (hl : l'.length = l.length) : BlkW (w.setCells B 0 (Wd l')) B t l' := by
  have := heap_setCells_all B t (Wd l') [] (Wd l) w (by simp [Wd, hl]) h
  simpa [BlkW] using this
theorem BlkW.there {w : World} {B : Nat} {t : TypeId} {l : List (BitVec 32)} (h : BlkW w B t l) (n : Nat) (hn : n ≤ l.length) : w.there B 0 n := by
  intro j hj
  rw [Nat.zero_add, h.cell j (by omega), h.frozen j]
  exact ⟨rfl, rfl⟩
theorem BlkW.range {w : World} {B : Nat} {t : TypeId} {l : List (BitVec 32)} (h : BlkW w B t l) : w.rangeAt B 0 (Wd l) := by
  intro j v hv
  rw [Nat.zero_add, cell_of_row w B j _ t (0, 0) h]
  simpa using hv
theorem Wd_cells (l : List (BitVec 32)) : ∀ v ∈ Wd l, v.oneCell' = true := by
  intro v hv
  obtain ⟨x, -, rfl⟩ := List.mem_map.1 hv
  rfl

/-- a whole block read, at the list of a plain region -/
theorem load_blk {P : Program} {ops : Array Oper} {rest : List Oper} {o : Oper} {a : Act} {Q : Exit → Act → World → Prop} {w : World} (hgd : o.guard = none) (T : TypeId) (x : Operand) (ho : o.op = .load T x)
    (B : Nat) (hx : a.eval x = .pointer (some ⟨B, 0, none⟩)) {t : TypeId} {l : List (BitVec 32)} (hb : BlkW w B t l) {d : TypeDesc} (hu : P.underlying T = some d) (hd : d.isRow = true) (hi : (P.info? T).map (·.size) = some l.length)
    (h : wpList P ops Q rest (a.put o.dst (.agg (Wd l).toArray)) w) : wpList P ops Q (o :: rest) a w :=
  wpList_load_mid hgd T x ho B 0 hx (Wd l) d hb.range hu hd (by rw [Wd_length]; exact hi) h
/-- a whole block stored -/
theorem store_blk {P : Program} {ops : Array Oper} {rest : List Oper} {o : Oper} {a : Act} {Q : Exit → Act → World → Prop} {w : World} (hgd : o.guard = none) (hdst : o.dst = none) (T : TypeId) (x y : Operand) (ho : o.op = .store T x y)
    (B : Nat) (hx : a.eval x = .pointer (some ⟨B, 0, none⟩)) {l' : List (BitVec 32)} (hy : a.eval y = .agg (Wd l').toArray) {t : TypeId} {l : List (BitVec 32)} (hb : BlkW w B t l) (hl : l'.length = l.length)
    (hi : (P.info? T).map (·.size) = some l.length)
    (h : wpList P ops Q rest a (w.setCells B 0 (Wd l'))) : wpList P ops Q (o :: rest) a w := by
  refine wpList_store_mid hgd T x y ho B 0 (Wd l').toArray hx hy ?_ ?_ ?_ ?_
  · rw [List.size_toArray, Wd_length, hl]; exact hb.there _ (Nat.le_refl _)
  · rw [List.size_toArray, Wd_length, hl]; exact hi
  · exact all_oneCell_toArray (Wd_cells l')
  · rw [hdst]; simpa [Act.put] using h
theorem results_blk {P : Program} {fn : Func} {p : Tmp} {T : TypeId} (h : fn.results = #[.cell p T]) (tmps : Array Value) (w : World) (B : Nat) {t : TypeId} {l : List (BitVec 32)} {d : TypeDesc}
    (hp : tmps.getD p undef = .pointer (some ⟨B, 0, none⟩)) (hb : BlkW w B t l) (hu : P.underlying T = some d) (hd : d.isRow = true) (hi : (P.info? T).map (·.size) = some l.length) :
    (results fn tmps).run P w = .ok (.agg (Wd l).toArray) w :=
  results_cell_row h tmps w B t _ (0, 0) d hp hb hu (by cases d <;> simp_all) (by rw [List.size_toArray, Wd_length]; exact hi)
end Go.Proofs.YtfkfadcfafbmmaaDoor

/- SHA-256 by the document's words, over lists of bytes and of words. Nothing of the program stands here. -/
namespace Go.Proofs.YtfkfadcfafbmmaaDoor
open Go.RowKit
/-- four bytes' word, the highest first -/
def word4 (a b c d : UInt8) : BitVec 32 := BitVec.ofNat 32 (a.toNat * 16777216 + b.toNat * 65536 + c.toNat * 256 + d.toNat)
/-- a block's word, by its place -/
def wdAt (b : List UInt8) (t : Nat) : BitVec 32 := word4 (b.getD (4 * t) 0) (b.getD (4 * t + 1) 0) (b.getD (4 * t + 2) 0) (b.getD (4 * t + 3) 0)
def firstW (b : List UInt8) : Nat → List (BitVec 32)
  | 0 => []
  | n + 1 => firstW b n ++ [wdAt b n]
theorem firstW_length (b : List UInt8) (n : Nat) : (firstW b n).length = n := by
  induction n with
  | zero => rfl
  | succ n ih => simp [firstW, ih]
def near (x : BitVec 32) : BitVec 32 := rr x 17 ^^^ rr x 19 ^^^ x >>> 10
def far (x : BitVec 32) : BitVec 32 := rr x 7 ^^^ rr x 18 ^^^ x >>> 3
/-- the word that follows the words so far -/
def nextW (r : List (BitVec 32)) : BitVec 32 := near (r.getD (r.length - 2) 0) + r.getD (r.length - 7) 0 + far (r.getD (r.length - 15) 0) + r.getD (r.length - 16) 0
def extW : Nat → List (BitVec 32) → List (BitVec 32)
  | 0, l => l
  | n + 1, l => extW n l ++ [nextW (extW n l)]
theorem extW_length (n : Nat) (l : List (BitVec 32)) : (extW n l).length = l.length + n := by
  induction n with
  | zero => rfl
  | succ n ih => simp [extW, ih]; omega
/-- all 64 words of a block -/
def sched (b : List UInt8) : List (BitVec 32) := extW 48 (firstW b 16)
theorem sched_length (b : List UInt8) : (sched b).length = 64 := by unfold sched; rw [extW_length, firstW_length]

/-- the 8 words of a sum on its way -/
structure S8 where
  a : BitVec 32
  b : BitVec 32
  c : BitVec 32
  d : BitVec 32
  e : BitVec 32
  f : BitVec 32
  g : BitVec 32
  h : BitVec 32
def S8.l (s : S8) : List (BitVec 32) := [s.a, s.b, s.c, s.d, s.e, s.f, s.g, s.h]
theorem S8.l_length (s : S8) : s.l.length = 8 := rfl
theorem S8.inj {s t : S8} (h : s.l = t.l) : s = t := by
  cases s; cases t
  simp only [S8.l, List.cons.injEq, and_true] at h
  obtain ⟨rfl, rfl, rfl, rfl, rfl, rfl, rfl, rfl⟩ := h
  rfl
def bigE (e : BitVec 32) : BitVec 32 := rr e 6 ^^^ rr e 11 ^^^ rr e 25
def chE (e f g : BitVec 32) : BitVec 32 := (e &&& f) ^^^ (~~~e &&& g)
def bigA (a : BitVec 32) : BitVec 32 := rr a 2 ^^^ rr a 13 ^^^ rr a 22
def majA (a b c : BitVec 32) : BitVec 32 := (a &&& b) ^^^ (a &&& c) ^^^ (b &&& c)
def t1Of (k x : BitVec 32) (s : S8) : BitVec 32 := s.h + bigE s.e + chE s.e s.f s.g + k + x
def t2Of (s : S8) : BitVec 32 := bigA s.a + majA s.a s.b s.c
def stepS (k x : BitVec 32) (s : S8) : S8 := ⟨t1Of k x s + t2Of s, s.a, s.b, s.c, s.d + t1Of k x s, s.e, s.f, s.g⟩
def runS (ks ws : List (BitVec 32)) (s : S8) : Nat → S8
  | 0 => s
  | n + 1 => stepS (ks.getD n 0) (ws.getD n 0) (runS ks ws s n)
def addS (s t : S8) : S8 := ⟨s.a + t.a, s.b + t.b, s.c + t.c, s.d + t.d, s.e + t.e, s.f + t.f, s.g + t.g, s.h + t.h⟩
def keysL : List (BitVec 32) := [
  1116352408, 1899447441, 3049323471, 3921009573, 961987163, 1508970993, 2453635748, 2870763221,
  3624381080, 310598401, 607225278, 1426881987, 1925078388, 2162078206, 2614888103, 3248222580,
  3835390401, 4022224774, 264347078, 604807628, 770255983, 1249150122, 1555081692, 1996064986,
  2554220882, 2821834349, 2952996808, 3210313671, 3336571891, 3584528711, 113926993, 338241895,
  666307205, 773529912, 1294757372, 1396182291, 1695183700, 1986661051, 2177026350, 2456956037,
  2730485921, 2820302411, 3259730800, 3345764771, 3516065817, 3600352804, 4094571909, 275423344,
  430227734, 506948616, 659060556, 883997877, 958139571, 1322822218, 1537002063, 1747873779,
  1955562222, 2024104815, 2227730452, 2361852424, 2428436474, 2756734187, 3204031479, 3329325298]
theorem keysL_length : keysL.length = 64 := rfl
def firstS : S8 := ⟨1779033703, 3144134277, 1013904242, 2773480762, 1359893119, 2600822924, 528734635, 1541459225⟩
/-- the words mixed with a block -/
def mixS (s : S8) (b : List UInt8) : S8 := addS s (runS keysL (sched b) s 64)
/-- with the first n blocks of a text -/
def mixN : Nat → S8 → List UInt8 → S8
  | 0, s, _ => s
  | n + 1, s, b => mixN n (mixS s (b.take 64)) (b.drop 64)
/-- with every whole block -/
def mixAll (s : S8) (b : List UInt8) : S8 := mixN (b.length / 64) s b
/-- what is left -/
def restOf (b : List UInt8) : List UInt8 := b.drop (64 * (b.length / 64))
theorem mixAll_step (s : S8) (b : List UInt8) (h : 64 ≤ b.length) : mixAll s b = mixAll (mixS s (b.take 64)) (b.drop 64) := by
  unfold mixAll
  rw [show b.length / 64 = (b.drop 64).length / 64 + 1 by simp; omega]
  rfl
theorem mixAll_end (s : S8) (b : List UInt8) (h : b.length < 64) : mixAll s b = s := by
  unfold mixAll
  rw [show b.length / 64 = 0 by omega]
  rfl
theorem restOf_step (b : List UInt8) (h : 64 ≤ b.length) : restOf b = restOf (b.drop 64) := by
  unfold restOf
  rw [List.drop_drop, List.length_drop]
  congr 1
  omega
theorem restOf_end (b : List UInt8) (h : b.length < 64) : restOf b = b := by
  unfold restOf
  rw [show b.length / 64 = 0 by omega]
  rfl
theorem restOf_length (b : List UInt8) : (restOf b).length = b.length % 64 := by
  unfold restOf
  rw [List.length_drop]; omega
end Go.Proofs.YtfkfadcfafbmmaaDoor
