/- Shelves in memory: points, shelves with their rows of points. -/
import Derived.Test.YtmmaimopombepaaAa
import Derived.Test.YtmmaimopombepaaAg
namespace Go.Proofs.Ytmmaimopombepaa
open Go.RowKit
set_option maxRecDepth 100000
def ePn : Enc Pn where
  enc p := [.int .u64 (p.id : Int), .string p.pt]
  z := 2
  len _ := rfl
  one p v hv := by
    simp only [List.mem_cons, List.not_mem_nil, or_false] at hv
    rcases hv with rfl | rfl <;> rfl
  pos := by decide
/-- a shelf, and where its points lie -/
structure ShM where
  s : Sh
  a : Option Addr
  c : Nat
deriving DecidableEq
instance : Inhabited Pn := ⟨pn0⟩
instance : Inhabited ShM := ⟨⟨sh0, none, 0⟩⟩
/-- a shelf's cells -/
def shL (m : ShM) : List Value := [.int .u64 (m.s.user : Int), .string m.s.ident, .int .u64 (m.s.sgn.id : Int), .string m.s.sgn.pt, .slice m.a m.s.once.length m.c]
theorem shL_one (m : ShM) : ∀ v ∈ shL m, v.oneCell' = true := by
  intro v hv
  simp only [shL, List.mem_cons, List.not_mem_nil, or_false] at hv
  rcases hv with rfl | rfl | rfl | rfl | rfl <;> rfl
def eSh : Enc ShM where
  enc := shL
  z := 5
  len _ := rfl
  one := shL_one
  pos := by decide
/-- a shelf's points can be read -/
structure PtsAt (w : World) (m : ShM) : Prop where
  at_ : Sl ePn w m.a m.s.once
  cap : m.s.once.length ≤ m.c
  none : m.a = none → m.c = 0 ∧ m.s.once = []
theorem PtsAt.on {w w' : World} {m : ShM} (h : PtsAt w m) (hb : Below w.heap.size w w') : PtsAt w' m := ⟨h.at_.on hb, h.cap, h.none⟩
/-- shelves that can be read -/
structure SlS (w : World) (a : Option Addr) (L : List ShM) : Prop where
  row : Sl eSh w a L
  pts : ∀ m ∈ L, PtsAt w m
theorem SlS.on {w w' : World} {a : Option Addr} {L : List ShM} (h : SlS w a L) (hb : Below w.heap.size w w') : SlS w' a L := ⟨h.row.on hb, fun m hm => (h.pts m hm).on hb⟩
theorem SlS.nil (w : World) (a : Option Addr) : SlS w a [] := ⟨Sl.nil _ _ _, fun m hm => by cases hm⟩
theorem SlS.take {w : World} {a : Option Addr} {L : List ShM} (h : SlS w a L) (k : Nat) : SlS w a (L.take k) := ⟨h.row.take k, fun m hm => h.pts m (List.mem_of_mem_take hm)⟩
/-- the shelves that they are -/
def shs (L : List ShM) : List Sh := L.map (·.s)
theorem shs_length (L : List ShM) : (shs L).length = L.length := by unfold shs; rw [List.length_map]
theorem shs_append (K L : List ShM) : shs (K ++ L) = shs K ++ shs L := by unfold shs; rw [List.map_append]
theorem shs_get (L : List ShM) (i : Nat) (h : i < L.length) : (shs L)[i]'(by rw [shs_length]; exact h) = L[i].s := by unfold shs; rw [List.getElem_map]
theorem shs_take (L : List ShM) (k : Nat) : shs (L.take k) = (shs L).take k := by unfold shs; rw [List.map_take]
/-- a point's cells -/
theorem Sl.pn {w : World} {b off : Nat} {l : List Pn} (h : Sl ePn w (some ⟨b, off, none⟩) l) (i : Nat) (hi : i < l.length) : w.cell? ⟨b, off + i * 2, none⟩ = some (.int .u64 (l[i].id : Int)) ∧ w.cell? ⟨b, off + i * 2 + 1, none⟩ = some (.string l[i].pt) :=
  ⟨h.cellE i hi 0 _ rfl, h.cellE i hi 1 _ rfl⟩
/-- a shelf's cells -/
theorem SlS.sh {w : World} {b off : Nat} {L : List ShM} (h : SlS w (some ⟨b, off, none⟩) L) (i : Nat) (hi : i < L.length) : ∀ j v, (shL L[i])[j]? = some v → w.cell? ⟨b, off + i * 5 + j, none⟩ = some v := fun j v hv => h.row.cellE i hi j v hv
end Go.Proofs.Ytmmaimopombepaa