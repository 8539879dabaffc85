/- A block of any values, read and stored whole. -/
import Derived.Test.YtmmaimopombepaaKa
namespace Go.Proofs.Ytmmaimopombepaa
open Go.RowKit
set_option maxRecDepth 100000
/-- block B holds the values vs, all of them may be written -/
def BlkV (w : World) (B : Nat) (t : TypeId) (vs : List Value) : Prop := w.heap[B]? = some (.cells vs.toArray t (0, 0))
theorem BlkV.lt {w : World} {B : Nat} {t : TypeId} {l : List Value} (h : BlkV w B t l) : B < w.heap.size := by
  unfold BlkV at h
  exact (Array.getElem?_eq_some_iff.1 h).1
theorem BlkV.cell {w : World} {B : Nat} {t : TypeId} {l : List Value} (h : BlkV w B t l) (i : Nat) (v : Value) (hv : l[i]? = some v) : w.cell? ⟨B, i, none⟩ = some v := by
  rw [cell_of_row w B i _ t (0, 0) h]
  simpa using hv
theorem BlkV.frozen {w : World} {B : Nat} {t : TypeId} {l : List Value} (h : BlkV w B t l) (i : Nat) : w.frozen? ⟨B, i, none⟩ = false := frozen_of_row w B i _ t h
theorem BlkV.set {w : World} {B : Nat} {t : TypeId} {l : List Value} (h : BlkV w B t l) (i : Nat) (v : Value) : BlkV (w.setCell ⟨B, i, none⟩ v) B t (l.set i v) := by
  unfold BlkV
  rw [heap_setCell_same w B i _ t _ h]
  congr 2
  apply Array.ext'
  simp
theorem BlkV.far {w : World} {B : Nat} {t : TypeId} {l : List Value} (h : BlkV w B t l) (a : Addr) (hne : B ≠ a.block) (v : Value) : BlkV (w.setCell a v) B t l := by
  unfold BlkV
  rw [heap_setCell_other w a B v hne]; exact h
theorem BlkV.on {w w' : World} {B : Nat} {t : TypeId} {l : List Value} (h : BlkV w B t l) (hb : Below w.heap.size w w') : BlkV w' B t l := by
  unfold BlkV
  rw [hb.block B h.lt]; exact h
theorem BlkV.alloc {w : World} {B : Nat} {t : TypeId} {l : List Value} (h : BlkV w B t l) (o : Obj) : BlkV (w.alloc o) B t l := h.on ((Below.refl _ _).alloc (Nat.le_refl _) o)
theorem BlkV.fresh (w : World) (t : TypeId) (l : List Value) (cs : Array Value) (hc : cs = l.toArray) (n : Nat) (hn : n = w.heap.size) : BlkV (w.alloc (.cells cs t)) n t l := by
  subst hn hc; exact heap_alloc_new w _
theorem BlkV.stored {w : World} {B : Nat} {t : TypeId} {l : List Value} (h : BlkV w B t l) (l' : List Value) (hl : l'.length = l.length) : BlkV (w.setCells B 0 l') B t l' := by
  have := heap_setCells_all B t l' [] l w (by simp [hl]) h
  simpa [BlkV] using this
theorem BlkV.farS {w : World} {B B' : Nat} {t : TypeId} {l : List Value} (h : BlkV w B t l) (hne : B ≠ B') (vs : List Value) : BlkV (w.setCells B' 0 vs) B t l := by
  unfold BlkV; rw [heap_setCells_other B' B hne]; exact h
theorem BlkV.there {w : World} {B : Nat} {t : TypeId} {l : List Value} (h : BlkV w B t l) (n : Nat) (hn : n ≤ l.length) : w.there B 0 n := by
  intro j hj
  rw [Nat.zero_add, h.frozen j, h.cell j l[j] (by simp [List.getElem?_eq_getElem (show j < l.length by omega)])]
  exact ⟨rfl, rfl⟩
theorem BlkV.range {w : World} {B : Nat} {t : TypeId} {l : List Value} (h : BlkV w B t l) : w.rangeAt B 0 l := by
  intro j v hv
  rw [Nat.zero_add]
  exact h.cell j v hv
theorem load_v {P : Program} {ops : Array Oper} {rest : List Oper} {o : Oper} {a : Act} {Q : Exit → Act → World → Prop} {w : World} (hgd : o.guard = none) (T : TypeId) (x : Operand) (ho : o.op = .load T x)
    (B : Nat) (hx : a.eval x = .pointer (some ⟨B, 0, none⟩)) {t : TypeId} {l : List Value} (hb : BlkV w B t l) {d : TypeDesc} (hu : P.underlying T = some d) (hd : d.isRow = true) (hi : (P.info? T).map (·.size) = some l.length)
    (h : wpList P ops Q rest (a.put o.dst (.agg l.toArray)) w) : wpList P ops Q (o :: rest) a w :=
  wpList_load_mid hgd T x ho B 0 hx l d hb.range hu hd hi h
theorem store_v {P : Program} {ops : Array Oper} {rest : List Oper} {o : Oper} {a : Act} {Q : Exit → Act → World → Prop} {w : World} (hgd : o.guard = none) (hdst : o.dst = none) (T : TypeId) (x y : Operand) (ho : o.op = .store T x y)
    (B : Nat) (hx : a.eval x = .pointer (some ⟨B, 0, none⟩)) {l' : List Value} (hy : a.eval y = .agg l'.toArray) {t : TypeId} {l : List Value} (hb : BlkV w B t l) (hl : l'.length = l.length) (h1 : ∀ v ∈ l', v.oneCell' = true)
    (hi : (P.info? T).map (·.size) = some l.length)
    (h : wpList P ops Q rest a (w.setCells B 0 l')) : wpList P ops Q (o :: rest) a w := by
  refine wpList_store_mid hgd T x y ho B 0 l'.toArray hx hy ?_ ?_ ?_ ?_
  · rw [List.size_toArray, hl]; exact hb.there _ (Nat.le_refl _)
  · rw [List.size_toArray, hl]; exact hi
  · exact all_oneCell_toArray h1
  · rw [hdst]; simpa [Act.put] using h
theorem results_v {P : Program} {fn : Func} {p : Tmp} {T : TypeId} (h : fn.results = #[.cell p T]) (tmps : Array Value) (w : World) (B : Nat) {t : TypeId} {l : List Value} {d : TypeDesc}
    (hp : tmps.getD p undef = .pointer (some ⟨B, 0, none⟩)) (hb : BlkV w B t l) (hu : P.underlying T = some d) (hd : d.isRow = true) (hi : (P.info? T).map (·.size) = some l.length) :
    (results fn tmps).run P w = .ok (.agg l.toArray) w :=
  results_cell_row h tmps w B t _ (0, 0) d hp hb hu (by cases d <;> simp_all) (by rw [List.size_toArray]; exact hi)
end Go.Proofs.Ytmmaimopombepaa