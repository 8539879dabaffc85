/- A block of bytes, known whole: loads, stores, results; a word out of a row of sixteen. -/
import Derived.Test.YtchnjjkgaaiclaaHe
namespace Go.Proofs.Ytchnjjkgaaiclaa
open Go.RowKit
set_option maxRecDepth 100000

theorem BlkB.fresh (w : World) (t : TypeId) (l : List UInt8) (cs : Array Value) (hc : cs = (Lib.byteCells l).toArray) (n : Nat) (hn : n = w.heap.size) : BlkB (w.alloc (.cells cs t)) n t l := by
  subst hn hc; exact heap_alloc_new w _
theorem BlkB.below {n : Nat} {w w' : World} {B : Nat} {t : TypeId} {l : List UInt8} (h : BlkB w B t l) (hb : Below n w w') (hB : B < n) : BlkB w' B t l := by
  unfold BlkB
  rw [hb.block B hB]; exact h
theorem BlkB.far {w : World} {B : Nat} {t : TypeId} {l : List UInt8} (h : BlkB w B t l) (a : Addr) (hne : B ≠ a.block) (v : Value) : BlkB (w.setCell a v) B t l := by
  unfold BlkB
  rw [heap_setCell_other w a B v hne]; exact h
theorem BlkB.alloc {w : World} {B : Nat} {t : TypeId} {l : List UInt8} (h : BlkB w B t l) (o : Obj) : BlkB (w.alloc o) B t l :=
  h.below ((Below.refl _ _).alloc (Nat.le_refl _) o) h.lt
theorem BlkB.stored {w : World} {B : Nat} {t : TypeId} {l : List UInt8} (h : BlkB w B t l) (l' : List UInt8) (hl : l'.length = l.length) : BlkB (w.setCells B 0 (Lib.byteCells l')) B t l' := by
  have := heap_setCells_all B t (Lib.byteCells l') [] (Lib.byteCells l) w (by simp [Lib.byteCells, hl]) h
  simpa [BlkB] using this
theorem BlkB.there {w : World} {B : Nat} {t : TypeId} {l : List UInt8} (h : BlkB w B t l) (n : Nat) (hn : n ≤ l.length) : w.there B 0 n := by
  intro j hj
  rw [Nat.zero_add, h.cell j (by omega), h.frozen j]
  exact ⟨rfl, rfl⟩
theorem BlkB.range {w : World} {B : Nat} {t : TypeId} {l : List UInt8} (h : BlkB w B t l) : w.rangeAt B 0 (Lib.byteCells l) := by
  intro j v hv
  rw [Nat.zero_add, cell_of_row w B j _ t (0, 0) h]
  simpa using hv
theorem bc_cells (l : List UInt8) : ∀ v ∈ Lib.byteCells l, v.oneCell' = true := by
  intro v hv
  simp only [Lib.byteCells, List.mem_map] at hv
  obtain ⟨x, -, rfl⟩ := hv
  rfl
theorem load_bb {P : Program} {ops : Array Oper} {rest : List Oper} {o : Oper} {a : Act} {Q : Exit → Act → World → Prop} {w : World} (hgd : o.guard = none) (T : TypeId) (x : Operand) (ho : o.op = .load T x)
    (B : Nat) (hx : a.eval x = .pointer (some ⟨B, 0, none⟩)) {t : TypeId} {l : List UInt8} (hb : BlkB w B t l) {d : TypeDesc} (hu : P.underlying T = some d) (hd : d.isRow = true) (hi : (P.info? T).map (·.size) = some l.length)
    (h : wpList P ops Q rest (a.put o.dst (.agg (Lib.byteCells l).toArray)) w) : wpList P ops Q (o :: rest) a w :=
  wpList_load_mid hgd T x ho B 0 hx (Lib.byteCells l) d hb.range hu hd (by rw [Lib.byteCells_length]; exact hi) h
theorem store_bb {P : Program} {ops : Array Oper} {rest : List Oper} {o : Oper} {a : Act} {Q : Exit → Act → World → Prop} {w : World} (hgd : o.guard = none) (hdst : o.dst = none) (T : TypeId) (x y : Operand) (ho : o.op = .store T x y)
    (B : Nat) (hx : a.eval x = .pointer (some ⟨B, 0, none⟩)) {l' : List UInt8} (hy : a.eval y = .agg (Lib.byteCells l').toArray) {t : TypeId} {l : List UInt8} (hb : BlkB w B t l) (hl : l'.length = l.length)
    (hi : (P.info? T).map (·.size) = some l.length)
    (h : wpList P ops Q rest a (w.setCells B 0 (Lib.byteCells l'))) : wpList P ops Q (o :: rest) a w := by
  refine wpList_store_mid hgd T x y ho B 0 (Lib.byteCells l').toArray hx hy ?_ ?_ ?_ ?_
  · rw [List.size_toArray, Lib.byteCells_length, hl]; exact hb.there _ (Nat.le_refl _)
  · rw [List.size_toArray, Lib.byteCells_length, hl]; exact hi
  · exact all_oneCell_toArray (bc_cells l')
  · rw [hdst]; simpa [Act.put] using h
theorem results_bb {P : Program} {fn : Func} {p : Tmp} {T : TypeId} (h : fn.results = #[.cell p T]) (tmps : Array Value) (w : World) (B : Nat) {t : TypeId} {l : List UInt8} {d : TypeDesc}
    (hp : tmps.getD p undef = .pointer (some ⟨B, 0, none⟩)) (hb : BlkB w B t l) (hu : P.underlying T = some d) (hd : d.isRow = true) (hi : (P.info? T).map (·.size) = some l.length) :
    (results fn tmps).run P w = .ok (.agg (Lib.byteCells l).toArray) w :=
  results_cell_row h tmps w B t _ (0, 0) d hp hb hu (by cases d <;> simp_all) (by rw [List.size_toArray, Lib.byteCells_length]; exact hi)

theorem index_wd (l : List (BitVec 32)) (hl : l.length = 16) (k : Nat) (hk : k < 16) (w : World) :
    (Instr.index 45 (.agg (Wd l).toArray) (.int .i64 (k : Int))).run Try.prog w = .ok (.int .u32 ((l.getD k 0).toNat : Int)) w := by
  simp [Instr.index, asIntOf, part, Wd, hl, hk]
end Go.Proofs.Ytchnjjkgaaiclaa
