/- Bases that name nothing of the program: texts as lists of bytes, worlds below which nothing has turned, cells kept and stored, slices that can be read. -/
import Derived.Test.YtmdakbbbpcldkaaDblk
import Derived.Below
import Derived.BigQuiet
import Derived.Deep.AppendLies
import Derived.Deep.Cut
import Derived.Deep.CutBlock
import Derived.Deep.Draws
import Derived.Deep.MidRow
import Derived.Deep.QuietTactic
import Derived.Deep.RegionHeld3
import Derived.Deep.RegionWith
import Derived.Laws.BytesArg
import Derived.Laws.DeepStrings4
import Derived.Laws.IdiomCopy
import Derived.Laws.MakeOwn
import Derived.Laws.OwnMore
import Derived.Lib.BufferWrite
import Derived.Lib.QuietBelow
import Derived.Lib.Strings
import Derived.Lib.Walk
import Derived.Outline
import Derived.RegionTactic
namespace Go.Proofs.Ytmdakbbbpcldkaa
open Go.RowKit
set_option maxRecDepth 100000
theorem or_sum (a b i : Nat) (h : b < 2 ^ i) : a * 2 ^ i ||| b = a * 2 ^ i + b := by
  rw [← Nat.shiftLeft_eq, Nat.shiftLeft_add_eq_or_of_lt h]
theorem str_slice {P : Program} (t : TypeId) (hu : P.underlying t = some .string) (s : ByteArray) (i j : Int) (a b : Nat) (hi : i = a) (hj : j = b) (h1 : a ≤ b) (h2 : b ≤ s.size) (w : World) :
    (Instr.slice t (.string s) (some (.int .i64 i)) (some (.int .i64 j)) none).run P w = .ok (.string (s.extract a b)) w := by
  subst hi hj
  rw [run_slice_string_if (P := P) w t s .i64 .i64 _ _ hu, if_pos (by omega), if_pos (by omega)]
  rfl
/-- a text's bytes -/
def bl (s : ByteArray) : List UInt8 := s.data.toList
theorem bl_length (s : ByteArray) : (bl s).length = s.size := rfl
theorem bl_extract (s : ByteArray) (i j : Nat) : bl (s.extract i j) = ((bl s).take j).drop i := by
  unfold bl
  rw [ByteArray.data_extract]
  simp [List.extract_eq_take_drop, List.drop_take]
theorem bl_append (s t : ByteArray) : bl (s ++ t) = bl s ++ bl t := by
  unfold bl
  simp [ByteArray.data_append]
theorem bl_get (s : ByteArray) (i : Nat) (h : i < s.size) : (bl s).getD i 0 = s[i] := by
  have h' : i < s.data.toList.length := h
  rw [List.getD_eq_getElem?_getD, bl, List.getElem?_eq_getElem h']
  rfl
def strL (l : List UInt8) : ByteArray := ⟨l.toArray⟩
theorem strL_size (l : List UInt8) : (strL l).size = l.length := by simp [strL, ByteArray.size]
theorem bl_strL (l : List UInt8) : bl (strL l) = l := by simp [bl, strL]
theorem strL_bl (s : ByteArray) : strL (bl s) = s := by
  apply ByteArray.ext; simp [bl, strL]
theorem bl_inj {s t : ByteArray} (h : bl s = bl t) : s = t := by rw [← strL_bl s, h, strL_bl]
theorem strL_append (a b : List UInt8) : strL a ++ strL b = strL (a ++ b) := bl_inj (by rw [bl_append, bl_strL, bl_strL, bl_strL])
theorem below_redrawn {B : Nat} {a w w' : World} (h : Below B a w) (h1 : w'.heap = w.heap) (h2 : w'.os = w.os) (h3 : w'.tape = w.tape) (h4 : w'.output = w.output) : Below B a w' :=
  ⟨h2.trans h.os, h3.trans h.tape, h4.trans h.output, by rw [h1]; exact h.size, by rw [h1]; exact h.block⟩
theorem setCell_far {w : World} {B i j : Nat} {v u : Value} (h : w.cell? ⟨B, j, none⟩ = some v) (hij : j ≠ i) : (w.setCell ⟨B, i, none⟩ u).cell? ⟨B, j, none⟩ = some v := by
  rw [World.cell?_setCell_other]
  · exact h
  · intro e; cases e; exact hij rfl
/-- of what was there at w0 nothing has turned -/
structure Bel (w0 w : World) : Prop where
  b : Below w0.heap.size w0 w
theorem Bel.refl (w : World) : Bel w w := ⟨Below.refl _ _⟩
theorem Bel.drew {w0 w : World} (h : Bel w0 w) : Bel w0 w.drew := ⟨h.b.drew⟩
theorem Bel.alloc {w0 w : World} (h : Bel w0 w) (o : Obj) : Bel w0 (w.alloc o) := ⟨h.b.alloc h.b.size o⟩
theorem Bel.on {w0 w w' : World} (h : Bel w0 w) (hb : Below w.heap.size w w') : Bel w0 w' := ⟨h.b.trans (hb.mono h.b.size)⟩
/-- a block of three that lies behind a call -/
theorem box3 {w w1 : World} {v0 v1 v2 : Value} {t : TypeId} (hb : Below (w.alloc (.cells #[v0, v1, v2] t)).heap.size (w.alloc (.cells #[v0, v1, v2] t)) w1) :
    (w1.cell? ⟨w.heap.size, 0, none⟩ = some v0 ∧ w1.cell? ⟨w.heap.size, 1, none⟩ = some v1 ∧ w1.cell? ⟨w.heap.size, 2, none⟩ = some v2) ∧
    (w1.frozen? ⟨w.heap.size, 0, none⟩ = false ∧ w1.frozen? ⟨w.heap.size, 1, none⟩ = false ∧ w1.frozen? ⟨w.heap.size, 2, none⟩ = false) ∧ w.heap.size < w1.heap.size ∧ Below w.heap.size w w1 := by
  have hH : w1.heap[w.heap.size]? = some (.cells #[v0, v1, v2] t) := by rw [hb.block _ (by simp)]; exact heap_alloc_new _ _
  exact ⟨⟨by rw [cell_of_row _ _ _ _ _ _ hH]; rfl, by rw [cell_of_row _ _ _ _ _ _ hH]; rfl, by rw [cell_of_row _ _ _ _ _ _ hH]; rfl⟩,
    ⟨frozen_of_row _ _ _ _ _ hH, frozen_of_row _ _ _ _ _ hH, frozen_of_row _ _ _ _ _ hH⟩, (Array.getElem?_eq_some_iff.1 hH).1, ((Below.refl _ _).alloc (Nat.le_refl _) _).trans (hb.mono (by simp))⟩
theorem cell_plain {w : World} {a : Addr} {v : Value} (h : w.cell? a = some v) : a = ⟨a.block, a.off, none⟩ ∧ a.block < w.heap.size := by
  have hlt := World.block_lt_of_cell? w a h
  refine ⟨?_, hlt⟩
  obtain ⟨b, o, s⟩ := a
  cases s with
  | none => rfl
  | some s =>
    unfold World.cell? at h
    split at h
    · simp at h
    · cases h
/-- a slice of words that lies somewhere -/
def WsAt (w : World) (v : Value) (l : List (BitVec 32)) : Prop :=
  ∃ b off cap : Nat, v = .slice (some ⟨b, off, none⟩) l.length cap ∧ b < w.heap.size ∧ ∀ i, i < l.length → w.cell? ⟨b, off + i, none⟩ = some (.int .u32 ((l.getD i 0).toNat : Int))
theorem WsAt.on {w w' : World} {v : Value} {l : List (BitVec 32)} (h : WsAt w v l) (hb : Below w.heap.size w w') : WsAt w' v l := by
  obtain ⟨b, off, cap, rfl, hlt, hc⟩ := h
  refine ⟨b, off, cap, rfl, Nat.lt_of_lt_of_le hlt hb.size, fun i hi => ?_⟩
  rw [hb.cell (p := ⟨b, off + i, none⟩) hlt]
  exact hc i hi
theorem WsAt.below {n : Nat} {w w' : World} {v : Value} {l : List (BitVec 32)} (h : WsAt w v l) (hb : Below n w w') (hn : ∀ a k c, v = .slice (some a) k c → a.block < n) : WsAt w' v l := by
  obtain ⟨b, off, cap, rfl, hlt, hc⟩ := h
  have hlt' : b < n := hn ⟨b, off, none⟩ _ _ rfl
  refine ⟨b, off, cap, rfl, Nat.lt_of_lt_of_le hlt hb.size, fun i hi => ?_⟩
  rw [hb.cell (p := ⟨b, off + i, none⟩) hlt']
  exact hc i hi
theorem WsAt.set {w : World} {v : Value} {l : List (BitVec 32)} (h : WsAt w v l) (n i : Nat) (hne : ∀ b k c, v = .slice (some b) k c → b.block ≠ n) (u : Value) : WsAt (w.setCell ⟨n, i, none⟩ u) v l := by
  obtain ⟨b, off, cap, rfl, hlt, hc⟩ := h
  have hb : b ≠ n := hne _ _ _ rfl
  refine ⟨b, off, cap, rfl, by simpa using hlt, fun j hj => ?_⟩
  rw [World.cell?_setCell_other]
  · exact hc j hj
  · intro e; cases e; exact hb rfl
/-- a slice of n words, nil or not, that reads as l -/
def WSl (w : World) (a : Option Addr) (n : Nat) (l : List (BitVec 32)) : Prop :=
  l.length = n ∧ (0 < n → ∃ b off : Nat, a = some ⟨b, off, none⟩ ∧ b < w.heap.size ∧ ∀ i, i < n → w.cell? ⟨b, off + i, none⟩ = some (.int .u32 ((l.getD i 0).toNat : Int)))
theorem WSl.on {w w' : World} {a : Option Addr} {n : Nat} {l : List (BitVec 32)} (h : WSl w a n l) (hb : Below w.heap.size w w') : WSl w' a n l := by
  refine ⟨h.1, fun h0 => ?_⟩
  obtain ⟨b, off, ha, hlt, hc⟩ := h.2 h0
  refine ⟨b, off, ha, Nat.lt_of_lt_of_le hlt hb.size, fun i hi => ?_⟩
  rw [hb.cell (p := ⟨b, off + i, none⟩) hlt]
  exact hc i hi
theorem WSl.take {w : World} {a : Option Addr} {n : Nat} {l : List (BitVec 32)} (h : WSl w a n l) (k : Nat) : WSl w a (min n k) (l.take k) := by
  refine ⟨by rw [List.length_take, h.1]; omega, fun h0 => ?_⟩
  obtain ⟨b, off, ha, hlt, hc⟩ := h.2 (by omega)
  refine ⟨b, off, ha, hlt, fun i hi => ?_⟩
  rw [hc i (by omega), List.getD_eq_getElem?_getD, List.getD_eq_getElem?_getD, List.getElem?_take, if_pos (by omega)]
/-- texts that lie in a slice -/
def StrsAt (w : World) (v : Value) (l : List ByteArray) : Prop :=
  ∃ b off cap : Nat, v = .slice (some ⟨b, off, none⟩) l.length cap ∧ b < w.heap.size ∧ ∀ i, i < l.length → w.cell? ⟨b, off + i, none⟩ = some (.string (l.getD i ⟨#[]⟩))
theorem StrsAt.on {w w' : World} {v : Value} {l : List ByteArray} (h : StrsAt w v l) (hb : Below w.heap.size w w') : StrsAt w' v l := by
  obtain ⟨b, off, cap, rfl, hlt, hc⟩ := h
  exact ⟨b, off, cap, rfl, Nat.lt_of_lt_of_le hlt hb.size, fun i hi => by rw [hb.cell (p := ⟨b, off + i, none⟩) hlt]; exact hc i hi⟩
theorem StrsAt.one (w : World) (x : ByteArray) (t : TypeId) : StrsAt (w.alloc (.cells #[.string x] t)) (.slice (some ⟨w.heap.size, 0, none⟩) 1 1) [x] := by
  refine ⟨w.heap.size, 0, 1, rfl, by simp, fun i hi => ?_⟩
  obtain rfl : i = 0 := by simpa using hi
  simp
/-- a block of bytes, known whole -/
def BlkB (w : World) (B : Nat) (t : TypeId) (l : List UInt8) : Prop := w.heap[B]? = some (.cells (Lib.byteCells l).toArray t (0, 0))
theorem BlkB.lt {w : World} {B : Nat} {t : TypeId} {l : List UInt8} (h : BlkB w B t l) : B < w.heap.size := by
  unfold BlkB at h
  exact (Array.getElem?_eq_some_iff.1 h).1
theorem BlkB.cell {w : World} {B : Nat} {t : TypeId} {l : List UInt8} (h : BlkB w B t l) (i : Nat) (hi : i < l.length) : w.cell? ⟨B, i, none⟩ = some (.int .u8 ((l.getD i 0).toNat : Int)) := by
  rw [cell_of_row w B i _ t (0, 0) h]
  simp [Lib.byteCells, hi]
theorem BlkB.frozen {w : World} {B : Nat} {t : TypeId} {l : List UInt8} (h : BlkB w B t l) (i : Nat) : w.frozen? ⟨B, i, none⟩ = false := frozen_of_row w B i _ t h
theorem BlkB.set {w : World} {B : Nat} {t : TypeId} {l : List UInt8} (h : BlkB w B t l) (i : Nat) (x : UInt8) : BlkB (w.setCell ⟨B, i, none⟩ (.int .u8 (x.toNat : Int))) B t (l.set i x) := by
  unfold BlkB
  rw [heap_setCell_same w B i _ t _ h]
  congr 2
  apply Array.ext'
  simp [Lib.byteCells, List.map_set]
theorem BlkB.on {w w' : World} {B : Nat} {t : TypeId} {l : List UInt8} (h : BlkB w B t l) (hb : Below w.heap.size w w') : BlkB w' B t l := by
  unfold BlkB
  rw [hb.block B h.lt]; exact h
/-- a slice of ints that lies in memory and reads as l -/
def IntsAt (w : World) (v : Value) (l : List Nat) : Prop := ∃ g cap : Nat, v = .slice (some ⟨g, 0, none⟩) l.length cap ∧ g < w.heap.size ∧ ∀ j, j < l.length → w.cell? ⟨g, j, none⟩ = some (.int .i64 ((l.getD j 0 : Nat) : Int))
theorem IntsAt.on {w w' : World} {v : Value} {l : List Nat} (h : IntsAt w v l) (hb : Below w.heap.size w w') : IntsAt w' v l := by
  obtain ⟨g, cap, rfl, hg, hc⟩ := h
  exact ⟨g, cap, rfl, Nat.lt_of_lt_of_le hg hb.size, fun j hj => by rw [hb.cell (p := ⟨g, j, none⟩) hg]; exact hc j hj⟩
end Go.Proofs.Ytmdakbbbpcldkaa