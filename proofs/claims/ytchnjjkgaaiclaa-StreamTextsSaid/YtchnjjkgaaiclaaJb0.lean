/- The contract of the reference's mix. -/
import Derived.Test.YtchnjjkgaaiclaaJa
namespace Go.Proofs.Ytchnjjkgaaiclaa
open Go.RowKit
set_option maxRecDepth 100000

theorem bel_four {w0 w : World} {p0 p1 p2 p3 : Addr} {v0 v1 v2 v3 : Value} (h : w0.cell? p0 = some v0 ∧ w0.cell? p1 = some v1 ∧ w0.cell? p2 = some v2 ∧ w0.cell? p3 = some v3) (hb : Bel w0 w) :
    (w.cell? p0 = some v0 ∧ w.cell? p1 = some v1 ∧ w.cell? p2 = some v2 ∧ w.cell? p3 = some v3) ∧ Bel w0 w := by
  have f : ∀ p v, w0.cell? p = some v → w.cell? p = some v := fun p v h => by rw [hb.b.cell (World.block_lt_of_cell? w0 _ h)]; exact h
  obtain ⟨h0, h1, h2, h3⟩ := h
  exact ⟨⟨f _ _ h0, f _ _ h1, f _ _ h2, f _ _ h3⟩, hb⟩
theorem bel_of4 {w0 w : World} {p0 p1 p2 p3 : Addr} {v0 v1 v2 v3 : Value} (h : (w.cell? p0 = some v0 ∧ w.cell? p1 = some v1 ∧ w.cell? p2 = some v2 ∧ w.cell? p3 = some v3) ∧ Bel w0 w) : Bel w0 w := h.2
theorem OwnW.rebase {w : World} {base base' g n cap : Nat} {l : List (BitVec 32)} (h : OwnW w base (.slice (some ⟨g, 0, none⟩) n cap) l) (hb : base' ≤ base) : OwnW w base' (.slice (some ⟨g, 0, none⟩) n cap) l := by
  refine ⟨h.1, ?_⟩
  rcases h.2 with ⟨e, -⟩ | ⟨g', cap', cur, e, hg, h3⟩
  · cases e
  · exact Or.inr ⟨g', cap', cur, e, by omega, h3⟩
/-- four words of nought in a block -/
structure Zq (w : World) (B : Nat) : Prop where
  blk : w.heap[B]? = some (.cells #[.int .u32 0, .int .u32 0, .int .u32 0, .int .u32 0] 30)
theorem Zq.first {w w' : World} {o : Obj} (hb : Below (w.alloc o).heap.size (w.alloc o) w') (ho : o = .cells #[.int .u32 0, .int .u32 0, .int .u32 0, .int .u32 0] 30) : Zq w' w.heap.size := by
  subst ho
  exact ⟨by rw [hb.block _ (by simp)]; exact heap_alloc_new _ _⟩
theorem Zq.firstd {w w' : World} {o : Obj} (hb : Below (w.alloc o).drew.heap.size (w.alloc o).drew w') (ho : o = .cells #[.int .u32 0, .int .u32 0, .int .u32 0, .int .u32 0] 30) : Zq w' w.heap.size := by
  subst ho
  refine ⟨?_⟩
  rw [hb.block w.heap.size (by show w.heap.size < (w.alloc _).heap.size; simp)]
  exact heap_alloc_new _ _
theorem Zq.on {w w' : World} {B : Nat} (h : Zq w B) (hb : Below w.heap.size w w') : Zq w' B := ⟨by rw [hb.block _ (Array.getElem?_eq_some_iff.1 h.blk).1]; exact h.blk⟩
theorem Zq.open {w : World} {B : Nat} (h : Zq w B) : (w.cell? ⟨B, 0, none⟩ = some (.int .u32 0) ∧ w.cell? ⟨B, 1, none⟩ = some (.int .u32 0) ∧ w.cell? ⟨B, 2, none⟩ = some (.int .u32 0) ∧ w.cell? ⟨B, 3, none⟩ = some (.int .u32 0)) ∧
    (w.frozen? ⟨B, 0, none⟩ = false ∧ w.frozen? ⟨B, 1, none⟩ = false ∧ w.frozen? ⟨B, 2, none⟩ = false ∧ w.frozen? ⟨B, 3, none⟩ = false) ∧ B < w.heap.size :=
  ⟨⟨by rw [cell_of_row _ _ _ _ _ _ h.blk]; rfl, by rw [cell_of_row _ _ _ _ _ _ h.blk]; rfl, by rw [cell_of_row _ _ _ _ _ _ h.blk]; rfl, by rw [cell_of_row _ _ _ _ _ _ h.blk]; rfl⟩,
   ⟨frozen_of_row _ _ _ _ _ h.blk, frozen_of_row _ _ _ _ _ h.blk, frozen_of_row _ _ _ _ _ h.blk, frozen_of_row _ _ _ _ _ h.blk⟩, (Array.getElem?_eq_some_iff.1 h.blk).1⟩
/-- four words that lie in a block -/
structure QAt (w : World) (B : Nat) (q : Q4) : Prop where
  c0 : w.cell? ⟨B, 0, none⟩ = some (.int .u32 (q.a.toNat : Int))
  c1 : w.cell? ⟨B, 1, none⟩ = some (.int .u32 (q.b.toNat : Int))
  c2 : w.cell? ⟨B, 2, none⟩ = some (.int .u32 (q.c.toNat : Int))
  c3 : w.cell? ⟨B, 3, none⟩ = some (.int .u32 (q.d.toNat : Int))
theorem QAt.laid (w : World) (q : Q4) (t : TypeId) : QAt (w.alloc (.cells #[.int .u32 (q.a.toNat : Int), .int .u32 (q.b.toNat : Int), .int .u32 (q.c.toNat : Int), .int .u32 (q.d.toNat : Int)] t)) w.heap.size q :=
  ⟨by rw [cell_of_row _ _ _ _ _ (0, 0) (heap_alloc_new _ _)]; rfl, by rw [cell_of_row _ _ _ _ _ (0, 0) (heap_alloc_new _ _)]; rfl, by rw [cell_of_row _ _ _ _ _ (0, 0) (heap_alloc_new _ _)]; rfl, by rw [cell_of_row _ _ _ _ _ (0, 0) (heap_alloc_new _ _)]; rfl⟩
theorem Zq.put {w : World} {B : Nat} (z : Zq w B) (q : Q4) :
    QAt ((((w.setCell ⟨B, 0, none⟩ (.int .u32 (q.a.toNat : Int))).setCell ⟨B, 1, none⟩ (.int .u32 (q.b.toNat : Int))).setCell ⟨B, 2, none⟩ (.int .u32 (q.c.toNat : Int))).setCell ⟨B, 3, none⟩ (.int .u32 (q.d.toNat : Int))) B q := by
  obtain ⟨⟨d0, d1, d2, d3⟩, -, -⟩ := z.open
  exact ⟨setCell_far (setCell_far (setCell_far (World.cell?_setCell_same _ ⟨B, 0, none⟩ _ d0) (by omega)) (by omega)) (by omega), setCell_far (setCell_far (World.cell?_setCell_same _ ⟨B, 1, none⟩ _ (setCell_far d1 (by omega))) (by omega)) (by omega),
    setCell_far (World.cell?_setCell_same _ ⟨B, 2, none⟩ _ (setCell_far (setCell_far d2 (by omega)) (by omega))) (by omega), World.cell?_setCell_same _ ⟨B, 3, none⟩ _ (setCell_far (setCell_far (setCell_far d3 (by omega)) (by omega)) (by omega))⟩
theorem QAt.lt {w : World} {B : Nat} {q : Q4} (h : QAt w B q) : B < w.heap.size := World.block_lt_of_cell? w _ h.c0
theorem QAt.on {w w' : World} {B : Nat} {q : Q4} (h : QAt w B q) (hb : Below w.heap.size w w') : QAt w' B q := by
  have f : ∀ j v, w.cell? ⟨B, j, none⟩ = some v → w'.cell? ⟨B, j, none⟩ = some v := fun j v hh => by rw [hb.cell (p := ⟨B, j, none⟩) h.lt]; exact hh
  exact ⟨f _ _ h.c0, f _ _ h.c1, f _ _ h.c2, f _ _ h.c3⟩
theorem QAt.grown {w w' : World} {B : Nat} {q : Q4} {row : Option Nat} (h : QAt w B q) (hg : w.grownBy w' row) (hne : some B ≠ row) : QAt w' B q :=
  ⟨hg.cell h.c0 hne, hg.cell h.c1 hne, hg.cell h.c2 hne, hg.cell h.c3 hne⟩
theorem QAt.far {w : World} {B : Nat} {q : Q4} (h : QAt w B q) (p : Addr) (hne : B ≠ p.block) (v : Value) : QAt (w.setCell p v) B q := by
  have f : ∀ j u, w.cell? ⟨B, j, none⟩ = some u → (w.setCell p v).cell? ⟨B, j, none⟩ = some u := fun j u hh => by
    rw [World.cell?_setCell_other _ _ _ _ (fun e => hne (by rw [e]))]; exact hh
  exact ⟨f _ _ h.c0, f _ _ h.c1, f _ _ h.c2, f _ _ h.c3⟩
def QRel (V : World) (q : Q4) (t : Value) (wr : World) : Prop := ∃ B : Nat, t = .pointer (some ⟨B, 0, none⟩) ∧ QAt wr B q ∧ Bel V wr
end Go.Proofs.Ytchnjjkgaaiclaa
