/- A frame in a block, read and stored whole. -/
import Derived.Test.YtimijdmigdlhfaaSb
namespace Go.Proofs.Ytimijdmigdlhfaa
open Go.RowKit Go.Sort
set_option maxRecDepth 100000
/-- block B holds the values vs, all of them may be written -/
def BlkV (w : World) (B : Nat) (t : TypeId) (vs : List Value) : Prop := w.heap[B]? = some (.cells vs.toArray t (0, 0))
theorem BlkV.lt {w : World} {B : Nat} {t : TypeId} {l : List Value} (h : BlkV w B t l) : B < w.heap.size := by
  unfold BlkV at h
  exact (Array.getElem?_eq_some_iff.1 h).1
theorem BlkV.cell {w : World} {B : Nat} {t : TypeId} {l : List Value} (h : BlkV w B t l) (i : Nat) (v : Value) (hv : l[i]? = some v) : w.cell? ⟨B, i, none⟩ = some v := by
  rw [cell_of_row w B i _ t (0, 0) h]
  simpa using hv
theorem BlkV.frozen {w : World} {B : Nat} {t : TypeId} {l : List Value} (h : BlkV w B t l) (i : Nat) : w.frozen? ⟨B, i, none⟩ = false := frozen_of_row w B i _ t h
theorem BlkV.set {w : World} {B : Nat} {t : TypeId} {l : List Value} (h : BlkV w B t l) (i : Nat) (v : Value) : BlkV (w.setCell ⟨B, i, none⟩ v) B t (l.set i v) := by
  unfold BlkV
  rw [heap_setCell_same w B i _ t _ h]
  congr 2
  apply Array.ext'
  simp
theorem BlkV.far {w : World} {B : Nat} {t : TypeId} {l : List Value} (h : BlkV w B t l) (a : Addr) (hne : B ≠ a.block) (v : Value) : BlkV (w.setCell a v) B t l := by
  unfold BlkV
  rw [heap_setCell_other w a B v hne]; exact h
theorem BlkV.on {w w' : World} {B : Nat} {t : TypeId} {l : List Value} (h : BlkV w B t l) (hb : Below w.heap.size w w') : BlkV w' B t l := by
  unfold BlkV
  rw [hb.block B h.lt]; exact h
theorem BlkV.alloc {w : World} {B : Nat} {t : TypeId} {l : List Value} (h : BlkV w B t l) (o : Obj) : BlkV (w.alloc o) B t l := h.on ((Below.refl _ _).alloc (Nat.le_refl _) o)
theorem BlkV.fresh (w : World) (t : TypeId) (l : List Value) (cs : Array Value) (hc : cs = l.toArray) (n : Nat) (hn : n = w.heap.size) : BlkV (w.alloc (.cells cs t)) n t l := by
  subst hn hc; exact heap_alloc_new w _
theorem BlkV.range {w : World} {B : Nat} {t : TypeId} {l : List Value} (h : BlkV w B t l) : w.rangeAt B 0 l := by
  intro j v hv
  rw [Nat.zero_add]
  exact h.cell j v hv
theorem SSl.take {w : World} {a : Option Addr} {l : List ByteArray} (h : SSl w a l) (n : Nat) : SSl w a (l.take n) := by
  intro h0
  rw [List.length_take] at h0
  obtain ⟨b, off, ha, hlt, hc⟩ := h (by omega)
  refine ⟨b, off, ha, hlt, fun i hi => ?_⟩
  rw [List.length_take] at hi
  rw [hc i (by omega)]
  simp [List.getD, (show i < n by omega)]
end Go.Proofs.Ytimijdmigdlhfaa