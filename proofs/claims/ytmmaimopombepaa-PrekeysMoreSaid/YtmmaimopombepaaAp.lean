/- A row of numbers in a block that is being sorted: how it reads, what stands as it was. -/
import Derived.Test.YtmmaimopombepaaAg
import Derived.Sort.LotD3
import Derived.Sort.Row
import Derived.Lib.BufferOwn
import Derived.CellFam
namespace Go.Proofs.Ytmmaimopombepaa
open Go.RowKit
set_option maxRecDepth 100000
def eU (x : Nat) : Value := .int .u64 (x : Int)
def ltU (x y : Nat) : Bool := decide (x < y)
theorem swoU : Sort.SWO ltU where
  irrefl x := by unfold ltU; exact decide_eq_false (by omega)
  trans x y z h1 h2 := by unfold ltU at *; have := of_decide_eq_true h1; have := of_decide_eq_true h2; exact decide_eq_true (by omega)
  ntrans x y z h1 h2 := by unfold ltU at *; have := of_decide_eq_false h1; have := of_decide_eq_false h2; exact decide_eq_false (by omega)
/-- block blk holds the numbers d from off on, and may be written -/
def RowU (w : World) (blk off : Nat) (d : Array Nat) : Prop := ∃ cur t, w.heap[blk]? = some (.cells cur t (0, 0)) ∧ ∀ j, j < d.size → cur[off + j]? = some (eU d[j]!)
theorem RowU.lt {w : World} {blk off : Nat} {d : Array Nat} (h : RowU w blk off d) : blk < w.heap.size := by
  obtain ⟨cur, t, h1, -⟩ := h
  exact (Array.getElem?_eq_some_iff.1 h1).1
theorem RowU.cell {w : World} {blk off : Nat} {d : Array Nat} (h : RowU w blk off d) (j : Nat) (hj : j < d.size) : w.cell? ⟨blk, off + j, none⟩ = some (.int .u64 (d[j]! : Int)) := by
  obtain ⟨cur, t, h1, h2⟩ := h
  rw [cell_of_row w blk (off + j) cur t (0, 0) h1]
  exact h2 j hj
theorem RowU.frozen {w : World} {blk off : Nat} {d : Array Nat} (h : RowU w blk off d) (j : Nat) : w.frozen? ⟨blk, j, none⟩ = false := by
  obtain ⟨cur, t, h1, -⟩ := h
  exact frozen_of_row w blk j cur t h1
theorem RowU.via {w w' : World} {blk off : Nat} {d : Array Nat} (h : RowU w blk off d) (e : w'.heap[blk]? = w.heap[blk]?) : RowU w' blk off d := by
  obtain ⟨cur, t, h1, h2⟩ := h
  exact ⟨cur, t, e.trans h1, h2⟩
theorem RowU.set {w : World} {blk off : Nat} {d : Array Nat} (h : RowU w blk off d) (i : Nat) (hi : i < d.size) (x : Nat) : RowU (w.setCell ⟨blk, off + i, none⟩ (eU x)) blk off (d.setIfInBounds i x) := by
  obtain ⟨cur, t, h1, h2⟩ := h
  refine ⟨_, t, heap_setCell_same w blk (off + i) cur t _ h1, fun j hj => ?_⟩
  rw [Array.size_setIfInBounds] at hj
  have hc := (Array.getElem?_eq_some_iff.1 (h2 i hi)).1
  by_cases e : i = j
  · subst e
    rw [Array.getElem?_setIfInBounds, if_pos rfl, if_pos hc, Sort.getElem!_set_same d i x hi]
  · rw [Array.getElem?_setIfInBounds, if_neg (by omega), h2 j hj, Sort.getElem!_set_other d i j x (by omega)]
/-- behind the first store of an exchange the second place still holds something -/
theorem RowU.second {w : World} {blk off : Nat} {d : Array Nat} (h : RowU w blk off d) (i j : Nat) (hi : i < d.size) (hj : j < d.size) (v : Value) : ∃ u, (w.setCell ⟨blk, off + i, none⟩ v).cell? ⟨blk, off + j, none⟩ = some u := by
  by_cases e : i = j
  · subst e
    exact ⟨v, World.cell?_setCell_same _ _ _ (h.cell i hi)⟩
  · exact ⟨_, (World.cell?_setCell_other _ _ _ _ (by intro e'; simp only [Addr.mk.injEq] at e'; omega)).trans (h.cell j hj)⟩
/-- the numbers by name, for a walk -/
theorem RowU.fam {w : World} {blk off : Nat} {d : Array Nat} (h : RowU w blk off d) (n : Nat) (hn : d.size = n) : ∃ G : Nat → Nat, (∀ t, G t = d[t]!) ∧ (∀ t, t < n → w.cell? ⟨blk, off + t, none⟩ = some (.int .u64 (G t : Int))) ∧ ∀ t, t < n → w.frozen? ⟨blk, off + t, none⟩ = false := by
  subst hn
  exact ⟨fun t => d[t]!, fun _ => rfl, fun t ht => h.cell t ht, fun t _ => h.frozen (off + t)⟩
/-- behind w: the row holds d, all other blocks of w stand -/
structure SR (w0 w : World) (blk off : Nat) (d : Array Nat) : Prop where
  gr : w0.grownBy w (some blk)
  row : RowU w blk off d
theorem SR.refl {w : World} {blk off : Nat} {d : Array Nat} (h : RowU w blk off d) : SR w w blk off d := ⟨World.grownBy.refl _ _, h⟩
theorem SR.trans {w0 w w' : World} {blk off : Nat} {d d' : Array Nat} (h : SR w0 w blk off d) (k : SR w w' blk off d') : SR w0 w' blk off d' := ⟨Lib.grownBy_trans h.gr k.gr, k.row⟩
theorem SR.drewN {w0 w : World} {blk off : Nat} {d : Array Nat} (h : SR w0 w blk off d) (q : Nat) : SR w0 (w.drewN q) blk off d := ⟨⟨h.gr.os, h.gr.tape, h.gr.output, h.gr.size, h.gr.block⟩, h.row.via rfl⟩
theorem SR.drew {w0 w : World} {blk off : Nat} {d : Array Nat} (h : SR w0 w blk off d) : SR w0 w.drew blk off d := ⟨⟨h.gr.os, h.gr.tape, h.gr.output, h.gr.size, h.gr.block⟩, h.row.via rfl⟩
theorem SR.alloc {w0 w : World} {blk off : Nat} {d : Array Nat} (h : SR w0 w blk off d) (o : Obj) : SR w0 (w.alloc o) blk off d :=
  ⟨Lib.grownBy_allocR h.gr o, h.row.via (by
    have := h.row.lt
    show (w.heap.push o)[blk]? = w.heap[blk]?
    rw [Array.getElem?_push, if_neg (by omega)])⟩
theorem SR.set {w0 w : World} {blk off : Nat} {d : Array Nat} (h : SR w0 w blk off d) (i : Nat) (hi : i < d.size) (x : Nat) : SR w0 (w.setCell ⟨blk, off + i, none⟩ (eU x)) blk off (d.setIfInBounds i x) := ⟨Lib.grownBy_setB h.gr (off + i) _, h.row.set i hi x⟩
/-- two numbers exchanged -/
theorem SR.swap {w0 w : World} {blk off : Nat} {d : Array Nat} (h : SR w0 w blk off d) (i j : Nat) (hi : i < d.size) (hj : j < d.size) :
    SR w0 ((w.setCell ⟨blk, off + i, none⟩ (.int .u64 (d[j]! : Int))).setCell ⟨blk, off + j, none⟩ (.int .u64 (d[i]! : Int))) blk off (Sort.swp d i j) := by
  have h1 := h.set i hi d[j]!
  exact h1.set j (by rw [Array.size_setIfInBounds]; exact hj) d[i]!
/-- the same, by the numbers' own names -/
theorem SR.swapG {w0 w : World} {blk off : Nat} {d : Array Nat} (h : SR w0 w blk off d) {G : Nat → Nat} (hG : ∀ t, G t = d[t]!) (n i j : Nat) (hi : i < d.size) (hj : j < d.size) :
    SR w0 (((w.drewN n).setCell ⟨blk, off + i, none⟩ (.int .u64 (G j : Int))).setCell ⟨blk, off + j, none⟩ (.int .u64 (G i : Int))) blk off (Sort.swp d i j) := by
  rw [hG, hG]
  exact (h.drewN n).swap i j hi hj
/-- a store into a block that is new -/
theorem SR.setNew {w0 w : World} {blk off : Nat} {d : Array Nat} (h : SR w0 w blk off d) (b o : Nat) (hb : w0.heap.size ≤ b) (hne : b ≠ blk) (v : Value) : SR w0 (w.setCell ⟨b, o, none⟩ v) blk off d := by
  refine ⟨⟨h.gr.os, h.gr.tape, h.gr.output, by rw [World.size_setCell]; exact h.gr.size, fun k hk hk2 => ?_⟩, h.row.via (heap_setCell_other w ⟨b, o, none⟩ blk v (fun e => hne e.symm))⟩
  rw [heap_setCell_other w ⟨b, o, none⟩ k v (fun e => by have e' : k = b := e; omega)]
  exact h.gr.block k hk hk2
theorem SR.below {w0 w w1 : World} {blk off base : Nat} {d : Array Nat} (h : SR w0 w blk off d) (hB : Below base w1 w0) (hb : base ≤ w0.heap.size) (hk : base ≤ blk) : Below base w1 w := hB.grown h.gr hb fun k e => by cases e; exact hk
end Go.Proofs.Ytmmaimopombepaa