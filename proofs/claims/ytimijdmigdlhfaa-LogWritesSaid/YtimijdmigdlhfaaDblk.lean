/- A block of words of 32 bits, known whole. Nothing of the program stands here. -/
import Derived.Test.YtimijdmigdlhfaaBv
import Derived.Below
import Derived.Deep.MidRow
import Derived.Deep.Draws
namespace Go.Proofs.Ytimijdmigdlhfaa
open Go.RowKit
/-- words as values -/
def Wd (l : List (BitVec 32)) : List Value := l.map fun x => .int .u32 (x.toNat : Int)
theorem Wd_length (l : List (BitVec 32)) : (Wd l).length = l.length := by simp [Wd]
/-- block B holds the words l, all of them may be written -/
def BlkW (w : World) (B : Nat) (t : TypeId) (l : List (BitVec 32)) : Prop := w.heap[B]? = some (.cells (Wd l).toArray t (0, 0))

theorem BlkW.lt {w : World} {B : Nat} {t : TypeId} {l : List (BitVec 32)} (h : BlkW w B t l) : B < w.heap.size := by
  unfold BlkW at h
  exact (Array.getElem?_eq_some_iff.1 h).1
theorem BlkW.cell {w : World} {B : Nat} {t : TypeId} {l : List (BitVec 32)} (h : BlkW w B t l) (i : Nat) (hi : i < l.length) : w.cell? ⟨B, i, none⟩ = some (.int .u32 ((l.getD i 0).toNat : Int)) := by
  rw [cell_of_row w B i _ t (0, 0) h]
  simp [Wd, hi]
theorem BlkW.frozen {w : World} {B : Nat} {t : TypeId} {l : List (BitVec 32)} (h : BlkW w B t l) (i : Nat) : w.frozen? ⟨B, i, none⟩ = false := frozen_of_row w B i _ t h
theorem BlkW.set {w : World} {B : Nat} {t : TypeId} {l : List (BitVec 32)} (h : BlkW w B t l) (i : Nat) (x : BitVec 32) : BlkW (w.setCell ⟨B, i, none⟩ (.int .u32 (x.toNat : Int))) B t (l.set i x) := by
  unfold BlkW
  rw [heap_setCell_same w B i _ t _ h]
  congr 2
  apply Array.ext'
  simp [Wd, List.map_set]
theorem BlkW.far {w : World} {B : Nat} {t : TypeId} {l : List (BitVec 32)} (h : BlkW w B t l) (a : Addr) (hne : B ≠ a.block) (v : Value) : BlkW (w.setCell a v) B t l := by
  unfold BlkW
  rw [heap_setCell_other w a B v hne]; exact h
theorem BlkW.below {n : Nat} {w w' : World} {B : Nat} {t : TypeId} {l : List (BitVec 32)} (h : BlkW w B t l) (hb : Below n w w') (hB : B < n) : BlkW w' B t l := by
  unfold BlkW
  rw [hb.block B hB]; exact h
theorem BlkW.on {w w' : World} {B : Nat} {t : TypeId} {l : List (BitVec 32)} (h : BlkW w B t l) (hb : Below w.heap.size w w') : BlkW w' B t l := h.below hb h.lt
theorem BlkW.alloc {w : World} {B : Nat} {t : TypeId} {l : List (BitVec 32)} (h : BlkW w B t l) (o : Obj) : BlkW (w.alloc o) B t l :=
  h.below ((Below.refl _ _).alloc (Nat.le_refl _) o) h.lt
theorem BlkW.drewN {w : World} {B : Nat} {t : TypeId} {l : List (BitVec 32)} (h : BlkW w B t l) (n : Nat) : BlkW (w.drewN n) B t l := h
theorem BlkW.drew {w : World} {B : Nat} {t : TypeId} {l : List (BitVec 32)} (h : BlkW w B t l) : BlkW w.drew B t l := h
theorem BlkW.fresh (w : World) (t : TypeId) (l : List (BitVec 32)) (cs : Array Value) (hc : cs = (Wd l).toArray) (n : Nat) (hn : n = w.heap.size) : BlkW (w.alloc (.cells cs t)) n t l := by
  subst hn hc; exact heap_alloc_new w _
theorem heap_setCells_other (b k : Nat) (hk : k ≠ b) : ∀ (vs : List Value) (o : Nat) (w : World), (w.setCells b o vs).heap[k]? = w.heap[k]?
  | [], _, _ => rfl
  | v :: r, o, w => by rw [World.setCells, heap_setCells_other b k hk r (o + 1), heap_setCell_other _ _ _ _ hk]
theorem BlkW.range {w : World} {B : Nat} {t : TypeId} {l : List (BitVec 32)} (h : BlkW w B t l) : w.rangeAt B 0 (Wd l) := by
  intro j v hv
  rw [Nat.zero_add, cell_of_row w B j _ t (0, 0) h]
  simpa using hv
theorem Wd_cells (l : List (BitVec 32)) : ∀ v ∈ Wd l, v.oneCell' = true := by
  intro v hv
  obtain ⟨x, -, rfl⟩ := List.mem_map.1 hv
  rfl

end Go.Proofs.Ytimijdmigdlhfaa