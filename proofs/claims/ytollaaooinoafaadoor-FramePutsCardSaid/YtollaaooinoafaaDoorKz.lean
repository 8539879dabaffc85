/- The texts Dblk, Ka, Kb, one behind the other. -/
import Derived.Handy
import Derived.Lib.Hide
import Derived.ProofKit
import Derived.WalkKit
import Derived.Below
import Derived.Deep.MidRow
import Derived.Deep.Draws
import Derived.BigQuiet
import Derived.Deep.AppendLies
import Derived.Deep.Cut
import Derived.Deep.CutBlock
import Derived.Deep.QuietTactic
import Derived.Deep.RegionHeld3
import Derived.Deep.RegionWith
import Derived.Laws.BytesArg
import Derived.Laws.DeepStrings4
import Derived.Laws.IdiomCopy
import Derived.Laws.MakeOwn
import Derived.Laws.OwnMore
import Derived.Lib.BufferWrite
import Derived.Lib.QuietBelow
import Derived.Lib.Strings
import Derived.Lib.Walk
import Derived.Outline
import Derived.RegionTactic
import Derived.Test.YtollaaooinoafaaDoorRows
/- A block of words of 32 bits, known whole. Nothing of the program stands here. -/
namespace Go.Proofs.YtollaaooinoafaaDoor
open Go.RowKit
/-- words as values -/
def Wd (l : List (BitVec 32)) : List Value := l.map fun x => .int .u32 (x.toNat : Int)
/-- block B holds the words l, all of them may be written -/
def BlkW (w : World) (B : Nat) (t : TypeId) (l : List (BitVec 32)) : Prop := w.heap[B]? = some (.cells (Wd l).toArray t (0, 0))

theorem BlkW.lt {w : World} {B : Nat} {t : TypeId} {l : List (BitVec 32)} (h : BlkW w B t l) : B < w.heap.size := by
  unfold BlkW at h
  exact (Array.getElem?_eq_some_iff.1 h).1
theorem BlkW.cell {w : World} {B : Nat} {t : TypeId} {l : List (BitVec 32)} (h : BlkW w B t l) (i : Nat) (hi : i < l.length) : w.cell? ⟨B, i, none⟩ = some (.int .u32 ((l.getD i 0).toNat : Int)) := by
  rw [cell_of_row w B i _ t (0, 0) h]
  simp [Wd, hi]
theorem BlkW.frozen {w : World} {B : Nat} {t : TypeId} {l : List (BitVec 32)} (h : BlkW w B t l) (i : Nat) : w.frozen? ⟨B, i, none⟩ = false := frozen_of_row w B i _ t h
theorem BlkW.set {w : World} {B : Nat} {t : TypeId} {l : List (BitVec 32)} (h : BlkW w B t l) (i : Nat) (x : BitVec 32) : BlkW (w.setCell ⟨B, i, none⟩ (.int .u32 (x.toNat : Int))) B t (l.set i x) := by
  unfold BlkW
  rw [heap_setCell_same w B i _ t _ h]
  congr 2
  apply Array.ext'
  simp [Wd, List.map_set]
theorem BlkW.far {w : World} {B : Nat} {t : TypeId} {l : List (BitVec 32)} (h : BlkW w B t l) (a : Addr) (hne : B ≠ a.block) (v : Value) : BlkW (w.setCell a v) B t l := by
  unfold BlkW
  rw [heap_setCell_other w a B v hne]; exact h
theorem BlkW.below {n : Nat} {w w' : World} {B : Nat} {t : TypeId} {l : List (BitVec 32)} (h : BlkW w B t l) (hb : Below n w w') (hB : B < n) : BlkW w' B t l := by
  unfold BlkW
  rw [hb.block B hB]; exact h
theorem BlkW.on {w w' : World} {B : Nat} {t : TypeId} {l : List (BitVec 32)} (h : BlkW w B t l) (hb : Below w.heap.size w w') : BlkW w' B t l := h.below hb h.lt
theorem BlkW.alloc {w : World} {B : Nat} {t : TypeId} {l : List (BitVec 32)} (h : BlkW w B t l) (o : Obj) : BlkW (w.alloc o) B t l :=
  h.below ((Below.refl _ _).alloc (Nat.le_refl _) o) h.lt
theorem BlkW.drewN {w : World} {B : Nat} {t : TypeId} {l : List (BitVec 32)} (h : BlkW w B t l) (n : Nat) : BlkW (w.drewN n) B t l := h
theorem BlkW.drew {w : World} {B : Nat} {t : TypeId} {l : List (BitVec 32)} (h : BlkW w B t l) : BlkW w.drew B t l := h
theorem BlkW.fresh (w : World) (t : TypeId) (l : List (BitVec 32)) (cs : Array Value) (hc : cs = (Wd l).toArray) (n : Nat) (hn : n = w.heap.size) : BlkW (w.alloc (.cells cs t)) n t l := by
  subst hn hc; exact heap_alloc_new w _
theorem below_setCells {B : Nat} {a : World} {b : Nat} (hb : B ≤ b) : ∀ (vs : List Value) (o : Nat) (w : World), Below B a w → Below B a (w.setCells b o vs)
  | [], _, _, h => h
  | v :: r, o, w, h => by rw [World.setCells]; exact below_setCells hb r (o + 1) _ (h.setCell hb v)
theorem heap_setCells_other (b k : Nat) (hk : k ≠ b) : ∀ (vs : List Value) (o : Nat) (w : World), (w.setCells b o vs).heap[k]? = w.heap[k]?
  | [], _, _ => rfl
  | v :: r, o, w => by rw [World.setCells, heap_setCells_other b k hk r (o + 1), heap_setCell_other _ _ _ _ hk]
theorem set_seg (pre : List Value) (v : Value) (r : List Value) (post : List Value) (h : post.length = r.length + 1) : ∃ u p', post = u :: p' ∧ (pre ++ post).set pre.length v = (pre ++ [v]) ++ p' ∧ p'.length = r.length := by
  cases post with
  | nil => simp at h
  | cons u p' => exact ⟨u, p', rfl, by simp, by simpa using h⟩
theorem heap_setCells_all (b : Nat) (t : TypeId) : ∀ (vs pre post : List Value) (w : World), post.length = vs.length → w.heap[b]? = some (.cells (pre ++ post).toArray t (0, 0)) →
    (w.setCells b pre.length vs).heap[b]? = some (.cells (pre ++ vs).toArray t (0, 0))
  | [], pre, post, w, hl, hg => by
    have : post = [] := by simpa using hl
    subst this
    simpa [World.setCells] using hg
  | v :: r, pre, post, w, hl, hg => by
    obtain ⟨u, p', rfl, e, hp⟩ := set_seg pre v r post (by simpa using hl)
    rw [World.setCells]
    have h2 := heap_setCell_same w b pre.length _ t v hg
    have e3 : ((pre ++ u :: p').toArray.setIfInBounds pre.length v) = ((pre ++ [v]) ++ p').toArray := by
      apply Array.ext'
      simp
    rw [e3] at h2
    have := heap_setCells_all b t r (pre ++ [v]) p' _ hp h2
    simpa using this
/-- a whole block stored -/
theorem BlkW.stored {w : World} {B : Nat} {t : TypeId} {l : List (BitVec 32)} (h : BlkW w B t l) (l' : List (BitVec 32)) (hl : l'.length = l.length) : BlkW (w.setCells B 0 (Wd l')) B t l' := by
  have := heap_setCells_all B t (Wd l') [] (Wd l) w (by simp [Wd, hl]) h
  simpa [BlkW] using this
theorem BlkW.there {w : World} {B : Nat} {t : TypeId} {l : List (BitVec 32)} (h : BlkW w B t l) (n : Nat) (hn : n ≤ l.length) : w.there B 0 n := by
  intro j hj
  rw [Nat.zero_add, h.cell j (by omega), h.frozen j]
  exact ⟨rfl, rfl⟩
theorem BlkW.range {w : World} {B : Nat} {t : TypeId} {l : List (BitVec 32)} (h : BlkW w B t l) : w.rangeAt B 0 (Wd l) := by
  intro j v hv
  rw [Nat.zero_add, cell_of_row w B j _ t (0, 0) h]
  simpa using hv
end Go.Proofs.YtollaaooinoafaaDoor

/- Bases that name nothing of the program: texts as lists of bytes, worlds below which nothing has turned, cells kept and stored, slices that can be read. -/
namespace Go.Proofs.YtollaaooinoafaaDoor
open Go.RowKit
set_option maxRecDepth 100000
theorem ret_bool {a b : Bool} (h : a = b) : Ending.returned (.bool a) = .returned (.bool b) := by rw [h]
theorem or_sum (a b i : Nat) (h : b < 2 ^ i) : a * 2 ^ i ||| b = a * 2 ^ i + b := by
  rw [← Nat.shiftLeft_eq, Nat.shiftLeft_add_eq_or_of_lt h]
theorem str_slice {P : Program} (t : TypeId) (hu : P.underlying t = some .string) (s : ByteArray) (i j : Int) (a b : Nat) (hi : i = a) (hj : j = b) (h1 : a ≤ b) (h2 : b ≤ s.size) (w : World) :
    (Instr.slice t (.string s) (some (.int .i64 i)) (some (.int .i64 j)) none).run P w = .ok (.string (s.extract a b)) w := by
  subst hi hj
  rw [run_slice_string_if (P := P) w t s .i64 .i64 _ _ hu, if_pos (by omega), if_pos (by omega)]
  rfl
/-- a text's bytes -/
def bl (s : ByteArray) : List UInt8 := s.data.toList
theorem bl_length (s : ByteArray) : (bl s).length = s.size := rfl
theorem bl_extract (s : ByteArray) (i j : Nat) : bl (s.extract i j) = ((bl s).take j).drop i := by
  unfold bl
  rw [ByteArray.data_extract]
  simp [List.extract_eq_take_drop, List.drop_take]
theorem bl_append (s t : ByteArray) : bl (s ++ t) = bl s ++ bl t := by
  unfold bl
  simp [ByteArray.data_append]
theorem bl_get (s : ByteArray) (i : Nat) (h : i < s.size) : (bl s).getD i 0 = s[i] := by
  have h' : i < s.data.toList.length := h
  rw [List.getD_eq_getElem?_getD, bl, List.getElem?_eq_getElem h']
  rfl
def strL (l : List UInt8) : ByteArray := ⟨l.toArray⟩
theorem strL_size (l : List UInt8) : (strL l).size = l.length := by simp [strL, ByteArray.size]
theorem bl_strL (l : List UInt8) : bl (strL l) = l := by simp [bl, strL]
theorem strL_bl (s : ByteArray) : strL (bl s) = s := by
  apply ByteArray.ext; simp [bl, strL]
theorem bl_inj {s t : ByteArray} (h : bl s = bl t) : s = t := by rw [← strL_bl s, h, strL_bl]
theorem strL_append (a b : List UInt8) : strL a ++ strL b = strL (a ++ b) := bl_inj (by rw [bl_append, bl_strL, bl_strL, bl_strL])
theorem below_redrawn {B : Nat} {a w w' : World} (h : Below B a w) (h1 : w'.heap = w.heap) (h2 : w'.os = w.os) (h3 : w'.tape = w.tape) (h4 : w'.output = w.output) : Below B a w' :=
  ⟨h2.trans h.os, h3.trans h.tape, h4.trans h.output, by rw [h1]; exact h.size, by rw [h1]; exact h.block⟩
theorem setCell_far {w : World} {B i j : Nat} {v u : Value} (h : w.cell? ⟨B, j, none⟩ = some v) (hij : j ≠ i) : (w.setCell ⟨B, i, none⟩ u).cell? ⟨B, j, none⟩ = some v := by
  rw [World.cell?_setCell_other]
  · exact h
  · intro e; cases e; exact hij rfl
/-- of what was there at w0 nothing has turned -/
structure Bel (w0 w : World) : Prop where
  b : Below w0.heap.size w0 w
theorem Bel.refl (w : World) : Bel w w := ⟨Below.refl _ _⟩
theorem Bel.drew {w0 w : World} (h : Bel w0 w) : Bel w0 w.drew := ⟨h.b.drew⟩
theorem Bel.alloc {w0 w : World} (h : Bel w0 w) (o : Obj) : Bel w0 (w.alloc o) := ⟨h.b.alloc h.b.size o⟩
theorem Bel.on {w0 w w' : World} (h : Bel w0 w) (hb : Below w.heap.size w w') : Bel w0 w' := ⟨h.b.trans (hb.mono h.b.size)⟩
theorem Bel.far {w0 w : World} (h : Bel w0 w) {p : Addr} (hp : w0.heap.size ≤ p.block) (u : Value) : Bel w0 (w.setCell p u) := ⟨h.b.setCell hp u⟩
/-- a block of three that lies behind a call -/
theorem box3 {w w1 : World} {v0 v1 v2 : Value} {t : TypeId} (hb : Below (w.alloc (.cells #[v0, v1, v2] t)).heap.size (w.alloc (.cells #[v0, v1, v2] t)) w1) :
    (w1.cell? ⟨w.heap.size, 0, none⟩ = some v0 ∧ w1.cell? ⟨w.heap.size, 1, none⟩ = some v1 ∧ w1.cell? ⟨w.heap.size, 2, none⟩ = some v2) ∧
    (w1.frozen? ⟨w.heap.size, 0, none⟩ = false ∧ w1.frozen? ⟨w.heap.size, 1, none⟩ = false ∧ w1.frozen? ⟨w.heap.size, 2, none⟩ = false) ∧ w.heap.size < w1.heap.size ∧ Below w.heap.size w w1 := by
  have hH : w1.heap[w.heap.size]? = some (.cells #[v0, v1, v2] t) := by rw [hb.block _ (by simp)]; exact heap_alloc_new _ _
  exact ⟨⟨by rw [cell_of_row _ _ _ _ _ _ hH]; rfl, by rw [cell_of_row _ _ _ _ _ _ hH]; rfl, by rw [cell_of_row _ _ _ _ _ _ hH]; rfl⟩,
    ⟨frozen_of_row _ _ _ _ _ hH, frozen_of_row _ _ _ _ _ hH, frozen_of_row _ _ _ _ _ hH⟩, (Array.getElem?_eq_some_iff.1 hH).1, ((Below.refl _ _).alloc (Nat.le_refl _) _).trans (hb.mono (by simp))⟩
theorem keep3 {w : World} {B D j : Nat} {v : Value} (h : w.cell? ⟨D, j, none⟩ = some v) (hne : D ≠ B) (a b c : Value) : (((w.setCell ⟨B, 0, none⟩ a).setCell ⟨B, 1, none⟩ b).setCell ⟨B, 2, none⟩ c).cell? ⟨D, j, none⟩ = some v := by
  rw [World.cell?_setCell_other _ _ _ _ (fun e => hne (by cases e; rfl)), World.cell?_setCell_other _ _ _ _ (fun e => hne (by cases e; rfl)), World.cell?_setCell_other _ _ _ _ (fun e => hne (by cases e; rfl))]
  exact h
theorem store3 {w : World} {B : Nat} {a b c : Value} {t : TypeId} (h : w.heap[B]? = some (.cells #[a, b, c] t (0, 0))) (x y z : Value) :
    (((w.setCell ⟨B, 0, none⟩ x).setCell ⟨B, 1, none⟩ y).setCell ⟨B, 2, none⟩ z).heap[B]? = some (.cells #[x, y, z] t (0, 0)) := by
  have h1 := heap_setCell_same w B 0 _ t x h
  have h2 := heap_setCell_same _ B 1 _ t y h1
  have h3 := heap_setCell_same _ B 2 _ t z h2
  rw [h3]
  simp
theorem cell_plain {w : World} {a : Addr} {v : Value} (h : w.cell? a = some v) : a = ⟨a.block, a.off, none⟩ ∧ a.block < w.heap.size := by
  have hlt := World.block_lt_of_cell? w a h
  refine ⟨?_, hlt⟩
  obtain ⟨b, o, s⟩ := a
  cases s with
  | none => rfl
  | some s =>
    unfold World.cell? at h
    split at h
    · simp at h
    · cases h
/-- a slice of words that lies somewhere -/
def WsAt (w : World) (v : Value) (l : List (BitVec 32)) : Prop :=
  ∃ b off cap : Nat, v = .slice (some ⟨b, off, none⟩) l.length cap ∧ b < w.heap.size ∧ ∀ i, i < l.length → w.cell? ⟨b, off + i, none⟩ = some (.int .u32 ((l.getD i 0).toNat : Int))
theorem WsAt.on {w w' : World} {v : Value} {l : List (BitVec 32)} (h : WsAt w v l) (hb : Below w.heap.size w w') : WsAt w' v l := by
  obtain ⟨b, off, cap, rfl, hlt, hc⟩ := h
  refine ⟨b, off, cap, rfl, Nat.lt_of_lt_of_le hlt hb.size, fun i hi => ?_⟩
  rw [hb.cell (p := ⟨b, off + i, none⟩) hlt]
  exact hc i hi
theorem WsAt.below {n : Nat} {w w' : World} {v : Value} {l : List (BitVec 32)} (h : WsAt w v l) (hb : Below n w w') (hn : ∀ a k c, v = .slice (some a) k c → a.block < n) : WsAt w' v l := by
  obtain ⟨b, off, cap, rfl, hlt, hc⟩ := h
  have hlt' : b < n := hn ⟨b, off, none⟩ _ _ rfl
  refine ⟨b, off, cap, rfl, Nat.lt_of_lt_of_le hlt hb.size, fun i hi => ?_⟩
  rw [hb.cell (p := ⟨b, off + i, none⟩) hlt']
  exact hc i hi
theorem WsAt.set {w : World} {v : Value} {l : List (BitVec 32)} (h : WsAt w v l) (n i : Nat) (hne : ∀ b k c, v = .slice (some b) k c → b.block ≠ n) (u : Value) : WsAt (w.setCell ⟨n, i, none⟩ u) v l := by
  obtain ⟨b, off, cap, rfl, hlt, hc⟩ := h
  have hb : b ≠ n := hne _ _ _ rfl
  refine ⟨b, off, cap, rfl, by simpa using hlt, fun j hj => ?_⟩
  rw [World.cell?_setCell_other]
  · exact hc j hj
  · intro e; cases e; exact hb rfl
/-- a slice of n words, nil or not, that reads as l -/
def WSl (w : World) (a : Option Addr) (n : Nat) (l : List (BitVec 32)) : Prop :=
  l.length = n ∧ (0 < n → ∃ b off : Nat, a = some ⟨b, off, none⟩ ∧ b < w.heap.size ∧ ∀ i, i < n → w.cell? ⟨b, off + i, none⟩ = some (.int .u32 ((l.getD i 0).toNat : Int)))
theorem WSl.on {w w' : World} {a : Option Addr} {n : Nat} {l : List (BitVec 32)} (h : WSl w a n l) (hb : Below w.heap.size w w') : WSl w' a n l := by
  refine ⟨h.1, fun h0 => ?_⟩
  obtain ⟨b, off, ha, hlt, hc⟩ := h.2 h0
  refine ⟨b, off, ha, Nat.lt_of_lt_of_le hlt hb.size, fun i hi => ?_⟩
  rw [hb.cell (p := ⟨b, off + i, none⟩) hlt]
  exact hc i hi
theorem WSl.take {w : World} {a : Option Addr} {n : Nat} {l : List (BitVec 32)} (h : WSl w a n l) (k : Nat) : WSl w a (min n k) (l.take k) := by
  refine ⟨by rw [List.length_take, h.1]; omega, fun h0 => ?_⟩
  obtain ⟨b, off, ha, hlt, hc⟩ := h.2 (by omega)
  refine ⟨b, off, ha, hlt, fun i hi => ?_⟩
  rw [hc i (by omega), List.getD_eq_getElem?_getD, List.getD_eq_getElem?_getD, List.getElem?_take, if_pos (by omega)]
/-- texts that lie in a slice -/
def StrsAt (w : World) (v : Value) (l : List ByteArray) : Prop :=
  ∃ b off cap : Nat, v = .slice (some ⟨b, off, none⟩) l.length cap ∧ b < w.heap.size ∧ ∀ i, i < l.length → w.cell? ⟨b, off + i, none⟩ = some (.string (l.getD i ⟨#[]⟩))
theorem StrsAt.on {w w' : World} {v : Value} {l : List ByteArray} (h : StrsAt w v l) (hb : Below w.heap.size w w') : StrsAt w' v l := by
  obtain ⟨b, off, cap, rfl, hlt, hc⟩ := h
  exact ⟨b, off, cap, rfl, Nat.lt_of_lt_of_le hlt hb.size, fun i hi => by rw [hb.cell (p := ⟨b, off + i, none⟩) hlt]; exact hc i hi⟩
theorem StrsAt.one (w : World) (x : ByteArray) (t : TypeId) : StrsAt (w.alloc (.cells #[.string x] t)) (.slice (some ⟨w.heap.size, 0, none⟩) 1 1) [x] := by
  refine ⟨w.heap.size, 0, 1, rfl, by simp, fun i hi => ?_⟩
  obtain rfl : i = 0 := by simpa using hi
  simp
theorem StrsAt.three (w : World) (x y z : ByteArray) (t : TypeId) : StrsAt (w.alloc (.cells #[.string x, .string y, .string z] t)) (.slice (some ⟨w.heap.size, 0, none⟩) 3 3) [x, y, z] := by
  refine ⟨w.heap.size, 0, 3, rfl, by simp, fun i hi => ?_⟩
  rcases i with _ | _ | _ | i
  · simp
  · simp
  · simp
  · exfalso; simp at hi; omega
/-- a block of bytes, known whole -/
def BlkB (w : World) (B : Nat) (t : TypeId) (l : List UInt8) : Prop := w.heap[B]? = some (.cells (Lib.byteCells l).toArray t (0, 0))
theorem BlkB.lt {w : World} {B : Nat} {t : TypeId} {l : List UInt8} (h : BlkB w B t l) : B < w.heap.size := by
  unfold BlkB at h
  exact (Array.getElem?_eq_some_iff.1 h).1
theorem BlkB.cell {w : World} {B : Nat} {t : TypeId} {l : List UInt8} (h : BlkB w B t l) (i : Nat) (hi : i < l.length) : w.cell? ⟨B, i, none⟩ = some (.int .u8 ((l.getD i 0).toNat : Int)) := by
  rw [cell_of_row w B i _ t (0, 0) h]
  simp [Lib.byteCells, hi]
theorem BlkB.frozen {w : World} {B : Nat} {t : TypeId} {l : List UInt8} (h : BlkB w B t l) (i : Nat) : w.frozen? ⟨B, i, none⟩ = false := frozen_of_row w B i _ t h
theorem BlkB.set {w : World} {B : Nat} {t : TypeId} {l : List UInt8} (h : BlkB w B t l) (i : Nat) (x : UInt8) : BlkB (w.setCell ⟨B, i, none⟩ (.int .u8 (x.toNat : Int))) B t (l.set i x) := by
  unfold BlkB
  rw [heap_setCell_same w B i _ t _ h]
  congr 2
  apply Array.ext'
  simp [Lib.byteCells, List.map_set]
theorem BlkB.on {w w' : World} {B : Nat} {t : TypeId} {l : List UInt8} (h : BlkB w B t l) (hb : Below w.heap.size w w') : BlkB w' B t l := by
  unfold BlkB
  rw [hb.block B h.lt]; exact h
/-- a slice of ints that lies in memory and reads as l -/
def IntsAt (w : World) (v : Value) (l : List Nat) : Prop := ∃ g cap : Nat, v = .slice (some ⟨g, 0, none⟩) l.length cap ∧ g < w.heap.size ∧ ∀ j, j < l.length → w.cell? ⟨g, j, none⟩ = some (.int .i64 ((l.getD j 0 : Nat) : Int))
theorem IntsAt.on {w w' : World} {v : Value} {l : List Nat} (h : IntsAt w v l) (hb : Below w.heap.size w w') : IntsAt w' v l := by
  obtain ⟨g, cap, rfl, hg, hc⟩ := h
  exact ⟨g, cap, rfl, Nat.lt_of_lt_of_le hg hb.size, fun j hj => by rw [hb.cell (p := ⟨g, j, none⟩) hg]; exact hc j hj⟩
end Go.Proofs.YtollaaooinoafaaDoor

/- Slices of bytes of a call's own: what they hold, appends, makes, and the text that is made of them. -/
namespace Go.Proofs.YtollaaooinoafaaDoor
open Go.RowKit
set_option maxRecDepth 100000
theorem infoB : (Tryd.prog.info? 5).map (fun i => (i.zero, i.size, i.bytes)) = some (some (.int .u8 0), 1, 1) := by kernel_rfl
/-- a slice of bytes of the call's own (blocks from base on) that reads as l -/
def Own (w : World) (base : Nat) (v : Value) (l : List UInt8) : Prop := w.ownsRow base 5 1 v l.length (Lib.byteCells l)
theorem Own.alloc {w : World} {base : Nat} {v : Value} {l : List UInt8} (h : Own w base v l) (o : Obj) : Own (w.alloc o) base v l := World.ownsRow.alloc h o
theorem Own.drew {w : World} {base : Nat} {v : Value} {l : List UInt8} (h : Own w base v l) : Own w.drew base v l := h
theorem Own.block {w : World} (g cap base : Nat) (cur : Array Value) (l : List UInt8) (hg : w.heap[g]? = some (.cells cur 5 (0, 0))) (hb : base ≤ g) (hc : l.length ≤ cap) (hm : cap ≤ maxLen) (hs : cur.size = cap) (ht : cur.toList.take l.length = Lib.byteCells l) :
    Own w base (.slice (some ⟨g, 0, none⟩) l.length cap) l :=
  ⟨by rw [Lib.byteCells_length, Nat.mul_one], .inr ⟨g, cap, cur, rfl, hb, hg, hc, hm, by rw [hs, Nat.mul_one], by rw [Nat.mul_one]; exact ht⟩⟩
/-- m bytes put behind a slice of the call's own -/
theorem append_bytes {ops : Array Oper} {rest : List Oper} {o : Oper} {a : Act} {Q : Exit → Act → World → Prop} {w : World} (hgd : o.guard = none) (s x : Operand)
    (ho : o.op = .call { callee := .builtin .append, args := #[s, x], argTypes := #[64, 64] })
    (base : Nat) (v : Value) (l news : List UInt8) (B : Nat) (hs : a.eval s = v) (hown : Own w base v l) (m : Nat) (hx : a.eval x = .slice (some ⟨B, 0, none⟩) m m) (hm : m = news.length) (hm0 : 0 < m)
    (hc : ∀ j b, news[j]? = some b → w.cell? ⟨B, j, none⟩ = some (.int .u8 (b.toNat : Int))) (hl : l.length + m ≤ 1000000) (hbase : base ≤ w.heap.size)
    (h : ∀ g cap w', Own w' base (.slice (some ⟨g, 0, none⟩) (l.length + m) cap) (l ++ news) → w.grownBy w' v.ownBlock → wpList Tryd.prog ops Q rest (a.put o.dst (.slice (some ⟨g, 0, none⟩) (l.length + m) cap)) w') :
    wpList Tryd.prog ops Q (o :: rest) a w := by
  obtain ⟨i0, hi, hz0, hz1, hz2⟩ := info_parts infoB
  refine wpList_append_own w hgd s x 64 ho base 5 i0 (.int .u8 0) 1 1 Tryd.underlying64 hi hz0 hz1 hz2 rfl (by decide) v l.length (Lib.byteCells l) hs hown ⟨B, 0, none⟩ m m (Lib.byteCells news) hx (by rw [Lib.byteCells_length, hm]; simp) ?_ ?_ (by unfold maxLen; omega) (by omega) hbase ?_
  · intro j u hu
    rw [show (⟨B, 0, none⟩ : Addr).add j = ⟨B, j, none⟩ by rw [Addr.add_mid, Nat.zero_add]]
    simp only [Lib.byteCells, List.getElem?_map, Option.map_eq_some_iff] at hu
    obtain ⟨b, hb, rfl⟩ := hu
    exact hc j b hb
  · intro u hu
    simp only [Lib.byteCells, List.mem_map] at hu
    obtain ⟨b, -, rfl⟩ := hu
    rfl
  · intro v' w' ho' hg _
    obtain ⟨g, cap, rfl, -, -⟩ := World.ownsRow.form ho' (by omega)
    refine h g cap w' ?_ hg
    unfold Own
    rw [List.length_append, ← hm, Lib.byteCells_append]
    exact ho'
theorem Own.below {w wr w' : World} {n : Nat} {v : Value} {l : List UInt8} {o : Obj} (hI : Own wr n v l) (hB : Below n w wr) (hn : n ≤ wr.heap.size) (hg : (wr.alloc o).grownBy w' v.ownBlock) : Below n w w' :=
  (hB.alloc hn o).grown hg (by simp; omega) fun k hk => (World.ownsRow.lt hI k hk).1
/-- string(b) -/
theorem Own.text {w : World} {base g n cap : Nat} {l : List UInt8} (h : Own w base (.slice (some ⟨g, 0, none⟩) n cap) l) (hn : n = l.length) :
    (convert 64 9 (.slice (some ⟨g, 0, none⟩) n cap)).run Tryd.prog w = .ok (.string ⟨l.toArray⟩) w := by
  subst hn
  have hcell : ∀ i, i < l.length → w.cell? ⟨g, 0 + i, none⟩ = some (.int .u8 ((l.map fun b => (b.toNat : Int)).getD i 0)) := by
    intro i hi
    have := World.ownsRow.cellAt h i (by omega)
    rw [Nat.zero_add, this]
    simp [Lib.byteCells, hi]
  have := run_convert_bytes_arg (P := Tryd.prog) w 64 5 Tryd.underlying64 Tryd.underlying5 g 0 l.length cap (l.map fun b => (b.toNat : Int)) (by simp) hcell 9 Tryd.underlying9
  rw [this]
  congr 3
  apply ByteArray.ext
  simp [strOfNums, Function.comp_def]
theorem Own.empty (w : World) (base : Nat) (hb : base ≤ w.heap.size) : Own (w.alloc (.cells #[] 5)) base (.slice (some ⟨w.heap.size, 0, none⟩) 0 0) [] :=
  World.ownsRow_lit w #[] 0 hb (by decide) rfl
theorem Own.onB {w w' : World} {base : Nat} {v : Value} {l : List UInt8} (h : Own w base v l) (hb : Below w.heap.size w w') : Own w' base v l := by
  refine ⟨h.1, ?_⟩
  rcases h.2 with h2 | ⟨g, cap, cur, e, hg, hc, h3⟩
  · exact Or.inl h2
  · exact Or.inr ⟨g, cap, cur, e, hg, by rw [hb.block g (Array.getElem?_eq_some_iff.1 hc).1]; exact hc, h3⟩
/-- string(b[:]) -/
theorem BlkB.text {w : World} {B : Nat} {t : TypeId} {l : List UInt8} (h : BlkB w B t l) (n c : Nat) (hn : n = l.length) :
    (convert 64 9 (.slice (some ⟨B, 0, none⟩) n c)).run Tryd.prog w = .ok (.string (strL l)) w := by
  subst hn
  exact run_convert_bytes_back (P := Tryd.prog) w 64 9 5 ⟨B, 0, none⟩ c l Tryd.underlying64 Tryd.underlying5 Tryd.underlying9 (fun j hj => by
    rw [Addr.add_mid, Nat.zero_add, h.cell j hj]
    simp [hj])
theorem one_text (y : UInt8) (v : Int) (hv : v = (y.toNat : Int)) (W : World) :
    (convert 64 9 (.slice (some ⟨W.heap.size, 0, none⟩) 1 1)).run Tryd.prog (W.alloc (.cells #[.int .u8 v] 5)) = .ok (.string (strL [y])) (W.alloc (.cells #[.int .u8 v] 5)) := by
  subst hv
  exact run_convert_bytes_back (P := Tryd.prog) (W.alloc (.cells #[.int .u8 (y.toNat : Int)] 5)) 64 9 5 ⟨W.heap.size, 0, none⟩ 1 [y] Tryd.underlying64 Tryd.underlying5 Tryd.underlying9 (fun j hj => by
    obtain rfl : j = 0 := by simpa using hj
    simp [Addr.add])
theorem str_index (s : ByteArray) (i : Int) (k : Nat) (hi : i = k) (hk : k < s.size) (W : World) : (Instr.index 9 (.string s) (.int .i64 i)).run Tryd.prog W = .ok (.int .u8 (s[k].toNat : Int)) W := by
  subst hi
  rw [run_index_string (P := Tryd.prog) (w := W) 9 s .i64 (k : Int) Tryd.underlying9, dif_pos ⟨by omega, by omega⟩]
  simp
end Go.Proofs.YtollaaooinoafaaDoor
