/- A block of words of 32 bits, known whole. Nothing of the program stands here. -/
import Derived.Test.YtmmaimopombepaaBv
import Derived.Below
import Derived.Deep.MidRow
import Derived.Deep.Draws
namespace Go.Proofs.Ytmmaimopombepaa
open Go.RowKit
/-- words as values -/
def Wd (l : List (BitVec 32)) : List Value := l.map fun x => .int .u32 (x.toNat : Int)
theorem Wd_length (l : List (BitVec 32)) : (Wd l).length = l.length := by simp [Wd]
/-- block B holds the words l, all of them may be written -/
def BlkW (w : World) (B : Nat) (t : TypeId) (l : List (BitVec 32)) : Prop := w.heap[B]? = some (.cells (Wd l).toArray t (0, 0))

theorem BlkW.lt {w : World} {B : Nat} {t : TypeId} {l : List (BitVec 32)} (h : BlkW w B t l) : B < w.heap.size := by
  unfold BlkW at h
  exact (Array.getElem?_eq_some_iff.1 h).1
theorem BlkW.cell {w : World} {B : Nat} {t : TypeId} {l : List (BitVec 32)} (h : BlkW w B t l) (i : Nat) (hi : i < l.length) : w.cell? ⟨B, i, none⟩ = some (.int .u32 ((l.getD i 0).toNat : Int)) := by
  rw [cell_of_row w B i _ t (0, 0) h]
  simp [Wd, hi]
theorem BlkW.frozen {w : World} {B : Nat} {t : TypeId} {l : List (BitVec 32)} (h : BlkW w B t l) (i : Nat) : w.frozen? ⟨B, i, none⟩ = false := frozen_of_row w B i _ t h
theorem BlkW.set {w : World} {B : Nat} {t : TypeId} {l : List (BitVec 32)} (h : BlkW w B t l) (i : Nat) (x : BitVec 32) : BlkW (w.setCell ⟨B, i, none⟩ (.int .u32 (x.toNat : Int))) B t (l.set i x) := by
  unfold BlkW
  rw [heap_setCell_same w B i _ t _ h]
  congr 2
  apply Array.ext'
  simp [Wd, List.map_set]
theorem BlkW.far {w : World} {B : Nat} {t : TypeId} {l : List (BitVec 32)} (h : BlkW w B t l) (a : Addr) (hne : B ≠ a.block) (v : Value) : BlkW (w.setCell a v) B t l := by
  unfold BlkW
  rw [heap_setCell_other w a B v hne]; exact h
theorem BlkW.below {n : Nat} {w w' : World} {B : Nat} {t : TypeId} {l : List (BitVec 32)} (h : BlkW w B t l) (hb : Below n w w') (hB : B < n) : BlkW w' B t l := by
  unfold BlkW
  rw [hb.block B hB]; exact h
theorem BlkW.on {w w' : World} {B : Nat} {t : TypeId} {l : List (BitVec 32)} (h : BlkW w B t l) (hb : Below w.heap.size w w') : BlkW w' B t l := h.below hb h.lt
theorem BlkW.alloc {w : World} {B : Nat} {t : TypeId} {l : List (BitVec 32)} (h : BlkW w B t l) (o : Obj) : BlkW (w.alloc o) B t l :=
  h.below ((Below.refl _ _).alloc (Nat.le_refl _) o) h.lt
theorem BlkW.drewN {w : World} {B : Nat} {t : TypeId} {l : List (BitVec 32)} (h : BlkW w B t l) (n : Nat) : BlkW (w.drewN n) B t l := h
theorem BlkW.drew {w : World} {B : Nat} {t : TypeId} {l : List (BitVec 32)} (h : BlkW w B t l) : BlkW w.drew B t l := h
theorem BlkW.fresh (w : World) (t : TypeId) (l : List (BitVec 32)) (cs : Array Value) (hc : cs = (Wd l).toArray) (n : Nat) (hn : n = w.heap.size) : BlkW (w.alloc (.cells cs t)) n t l := by
  subst hn hc; exact heap_alloc_new w _
theorem below_drewN {B : Nat} {a w : World} (h : Below B a w) (n : Nat) : Below B a (w.drewN n) := ⟨h.os, h.tape, h.output, h.size, h.block⟩
theorem size_setCells (b : Nat) : ∀ (vs : List Value) (o : Nat) (w : World), (w.setCells b o vs).heap.size = w.heap.size
  | [], _, _ => rfl
  | v :: r, o, w => by rw [World.setCells, size_setCells b r (o + 1)]; simp [World.setCell]
theorem below_setCells {B : Nat} {a : World} {b : Nat} (hb : B ≤ b) : ∀ (vs : List Value) (o : Nat) (w : World), Below B a w → Below B a (w.setCells b o vs)
  | [], _, _, h => h
  | v :: r, o, w, h => by rw [World.setCells]; exact below_setCells hb r (o + 1) _ (h.setCell hb v)
theorem heap_setCells_other (b k : Nat) (hk : k ≠ b) : ∀ (vs : List Value) (o : Nat) (w : World), (w.setCells b o vs).heap[k]? = w.heap[k]?
  | [], _, _ => rfl
  | v :: r, o, w => by rw [World.setCells, heap_setCells_other b k hk r (o + 1), heap_setCell_other _ _ _ _ hk]
theorem set_seg (pre : List Value) (v : Value) (r : List Value) (post : List Value) (h : post.length = r.length + 1) : ∃ u p', post = u :: p' ∧ (pre ++ post).set pre.length v = (pre ++ [v]) ++ p' ∧ p'.length = r.length := by
  cases post with
  | nil => simp at h
  | cons u p' => exact ⟨u, p', rfl, by simp, by simpa using h⟩
theorem heap_setCells_all (b : Nat) (t : TypeId) : ∀ (vs pre post : List Value) (w : World), post.length = vs.length → w.heap[b]? = some (.cells (pre ++ post).toArray t (0, 0)) →
    (w.setCells b pre.length vs).heap[b]? = some (.cells (pre ++ vs).toArray t (0, 0))
  | [], pre, post, w, hl, hg => by
    have : post = [] := by simpa using hl
    subst this
    simpa [World.setCells] using hg
  | v :: r, pre, post, w, hl, hg => by
    obtain ⟨u, p', rfl, e, hp⟩ := set_seg pre v r post (by simpa using hl)
    rw [World.setCells]
    have h2 := heap_setCell_same w b pre.length _ t v hg
    have e3 : ((pre ++ u :: p').toArray.setIfInBounds pre.length v) = ((pre ++ [v]) ++ p').toArray := by
      apply Array.ext'
      simp
    rw [e3] at h2
    have := heap_setCells_all b t r (pre ++ [v]) p' _ hp h2
    simpa using this
/-- a whole block stored -/
theorem BlkW.stored {w : World} {B : Nat} {t : TypeId} {l : List (BitVec 32)} (h : BlkW w B t l) (l' : List (BitVec 32)) (hl : l'.length = l.length) : BlkW (w.setCells B 0 (Wd l')) B t l' := by
  have := heap_setCells_all B t (Wd l') [] (Wd l) w (by simp [Wd, hl]) h
  simpa [BlkW] using this
theorem BlkW.there {w : World} {B : Nat} {t : TypeId} {l : List (BitVec 32)} (h : BlkW w B t l) (n : Nat) (hn : n ≤ l.length) : w.there B 0 n := by
  intro j hj
  rw [Nat.zero_add, h.cell j (by omega), h.frozen j]
  exact ⟨rfl, rfl⟩
theorem BlkW.range {w : World} {B : Nat} {t : TypeId} {l : List (BitVec 32)} (h : BlkW w B t l) : w.rangeAt B 0 (Wd l) := by
  intro j v hv
  rw [Nat.zero_add, cell_of_row w B j _ t (0, 0) h]
  simpa using hv
theorem Wd_cells (l : List (BitVec 32)) : ∀ v ∈ Wd l, v.oneCell' = true := by
  intro v hv
  obtain ⟨x, -, rfl⟩ := List.mem_map.1 hv
  rfl

/-- a whole block read, at the list of a plain region -/
theorem load_blk {P : Program} {ops : Array Oper} {rest : List Oper} {o : Oper} {a : Act} {Q : Exit → Act → World → Prop} {w : World} (hgd : o.guard = none) (T : TypeId) (x : Operand) (ho : o.op = .load T x)
    (B : Nat) (hx : a.eval x = .pointer (some ⟨B, 0, none⟩)) {t : TypeId} {l : List (BitVec 32)} (hb : BlkW w B t l) {d : TypeDesc} (hu : P.underlying T = some d) (hd : d.isRow = true) (hi : (P.info? T).map (·.size) = some l.length)
    (h : wpList P ops Q rest (a.put o.dst (.agg (Wd l).toArray)) w) : wpList P ops Q (o :: rest) a w :=
  wpList_load_mid hgd T x ho B 0 hx (Wd l) d hb.range hu hd (by rw [Wd_length]; exact hi) h
/-- a whole block stored -/
theorem store_blk {P : Program} {ops : Array Oper} {rest : List Oper} {o : Oper} {a : Act} {Q : Exit → Act → World → Prop} {w : World} (hgd : o.guard = none) (hdst : o.dst = none) (T : TypeId) (x y : Operand) (ho : o.op = .store T x y)
    (B : Nat) (hx : a.eval x = .pointer (some ⟨B, 0, none⟩)) {l' : List (BitVec 32)} (hy : a.eval y = .agg (Wd l').toArray) {t : TypeId} {l : List (BitVec 32)} (hb : BlkW w B t l) (hl : l'.length = l.length)
    (hi : (P.info? T).map (·.size) = some l.length)
    (h : wpList P ops Q rest a (w.setCells B 0 (Wd l'))) : wpList P ops Q (o :: rest) a w := by
  refine wpList_store_mid hgd T x y ho B 0 (Wd l').toArray hx hy ?_ ?_ ?_ ?_
  · rw [List.size_toArray, Wd_length, hl]; exact hb.there _ (Nat.le_refl _)
  · rw [List.size_toArray, Wd_length, hl]; exact hi
  · exact all_oneCell_toArray (Wd_cells l')
  · rw [hdst]; simpa [Act.put] using h
theorem results_blk {P : Program} {fn : Func} {p : Tmp} {T : TypeId} (h : fn.results = #[.cell p T]) (tmps : Array Value) (w : World) (B : Nat) {t : TypeId} {l : List (BitVec 32)} {d : TypeDesc}
    (hp : tmps.getD p undef = .pointer (some ⟨B, 0, none⟩)) (hb : BlkW w B t l) (hu : P.underlying T = some d) (hd : d.isRow = true) (hi : (P.info? T).map (·.size) = some l.length) :
    (results fn tmps).run P w = .ok (.agg (Wd l).toArray) w :=
  results_cell_row h tmps w B t _ (0, 0) d hp hb hu (by cases d <;> simp_all) (by rw [List.size_toArray, Wd_length]; exact hi)
end Go.Proofs.Ytmmaimopombepaa