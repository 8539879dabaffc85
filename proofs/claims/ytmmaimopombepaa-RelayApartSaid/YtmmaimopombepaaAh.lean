/- Rows of rows, for slices.Concat: what they come to. -/
import Derived.Test.YtmmaimopombepaaAg
namespace Go.Proofs.Ytmmaimopombepaa
open Go.RowKit
set_option maxRecDepth 100000

/-- a row, and where it lies -/
structure Rw (T : Type) where
  a : Option Addr
  c : Nat
  l : List T
def rwV {T : Type} (r : Rw T) : Value := .slice r.a r.l.length r.c
/-- a row that can be read -/
structure RwAt {T : Type} (E : Enc T) (w : World) (r : Rw T) : Prop where
  at_ : Sl E w r.a r.l
  nil : r.a = none → r.l = []
theorem RwAt.on {T : Type} {E : Enc T} {w w' : World} {r : Rw T} (h : RwAt E w r) (hb : Below w.heap.size w w') : RwAt E w' r := ⟨h.at_.on hb, h.nil⟩
def joinR {T : Type} (R : List (Rw T)) : List T := R.flatMap (·.l)
theorem joinR_step {T : Type} (R : List (Rw T)) (i : Nat) (h : i < R.length) : joinR (R.take (i + 1)) = joinR (R.take i) ++ R[i].l := by
  unfold joinR
  rw [List.take_succ_eq_append_getElem h, List.flatMap_append, List.flatMap_cons, List.flatMap_nil, List.append_nil]
theorem joinR_le {T : Type} (R : List (Rw T)) (i : Nat) : (joinR (R.take i)).length ≤ (joinR R).length := by
  have e : joinR R = joinR (R.take i) ++ joinR (R.drop i) := by unfold joinR; rw [← List.flatMap_append, List.take_append_drop]
  rw [e, List.length_append]
  omega
/-- the rows stand in a block, all can be read -/
structure RwsAt {T : Type} (E : Enc T) (w : World) (A : Nat) (R : List (Rw T)) : Prop where
  lt : A < w.heap.size
  cells : ∀ i, (hi : i < R.length) → w.cell? ⟨A, i, none⟩ = some (rwV R[i])
  rows : ∀ r ∈ R, RwAt E w r
theorem RwsAt.on {T : Type} {E : Enc T} {w w' : World} {A : Nat} {R : List (Rw T)} (h : RwsAt E w A R) (hb : Below w.heap.size w w') : RwsAt E w' A R :=
  ⟨Nat.lt_of_lt_of_le h.lt hb.size, fun i hi => (hb.cell (p := ⟨A, i, none⟩) h.lt).trans (h.cells i hi), fun r hr => (h.rows r hr).on hb⟩
def SumRel {T : Type} (w : World) (R : List (Rw T)) (z i : Value) (wr : World) : Prop := ∃ (k : Nat) (W : World), W = wr ∧ i = .int .i64 (k : Int) ∧ k ≤ R.length ∧ z = .int .i64 ((joinR (R.take k)).length : Int) ∧ w = wr
def CatRel {T : Type} (E : Enc T) (t : TypeId) (w : World) (R : List (Rw T)) (z i : Value) (wr : World) : Prop := ∃ (k : Nat) (W : World), W = wr ∧ i = .int .i64 (k : Int) ∧ k ≤ R.length ∧ OwnE E t wr w.heap.size z (joinR (R.take k)) ∧ Below w.heap.size w wr
end Go.Proofs.Ytmmaimopombepaa
