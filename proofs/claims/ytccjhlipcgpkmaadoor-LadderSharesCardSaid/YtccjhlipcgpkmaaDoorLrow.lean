/- Five texts that lie in a block of their own. -/
import Derived.Test.YtccjhlipcgpkmaaDoorLnum
namespace Go.Proofs.YtccjhlipcgpkmaaDoor
open Go.RowKit

def Row5 (w : World) (B : Nat) (a b c d e : ByteArray) : Prop :=
  (w.cell? ⟨B, 0, none⟩ = some (.string a) ∧ w.cell? ⟨B, 1, none⟩ = some (.string b) ∧ w.cell? ⟨B, 2, none⟩ = some (.string c) ∧ w.cell? ⟨B, 3, none⟩ = some (.string d) ∧ w.cell? ⟨B, 4, none⟩ = some (.string e)) ∧
  (w.frozen? ⟨B, 0, none⟩ = false ∧ w.frozen? ⟨B, 1, none⟩ = false ∧ w.frozen? ⟨B, 2, none⟩ = false ∧ w.frozen? ⟨B, 3, none⟩ = false ∧ w.frozen? ⟨B, 4, none⟩ = false)

theorem Row5.below {n B : Nat} {w w' : World} {a b c d e : ByteArray} (h : Row5 w B a b c d e) (hb : Below n w w') (hB : B < n) : Row5 w' B a b c d e := by
  obtain ⟨⟨h0, h1, h2, h3, h4⟩, ⟨f0, f1, f2, f3, f4⟩⟩ := h
  refine ⟨⟨?_, ?_, ?_, ?_, ?_⟩, ⟨?_, ?_, ?_, ?_, ?_⟩⟩
  all_goals first | rw [hb.cell (p := ⟨B, _, none⟩) hB]; assumption | rw [hb.frozen (p := ⟨B, _, none⟩) hB]; assumption
theorem Row5.lt {B : Nat} {w : World} {a b c d e : ByteArray} (h : Row5 w B a b c d e) : B < w.heap.size := World.block_lt_of_cell? w _ h.1.1
theorem Row5.on {B : Nat} {w w' : World} {a b c d e : ByteArray} (h : Row5 w B a b c d e) (hb : Below w.heap.size w w') : Row5 w' B a b c d e := h.below hb h.lt
theorem Row5.alloc {B : Nat} {w : World} {a b c d e : ByteArray} (h : Row5 w B a b c d e) (o : Obj) : Row5 (w.alloc o) B a b c d e :=
  h.below ((Below.refl _ _).alloc (Nat.le_refl _) o) h.lt
theorem Row5.fresh (w : World) (a b c d e : ByteArray) (t : TypeId) : Row5 (w.alloc (.cells #[.string a, .string b, .string c, .string d, .string e] t)) w.heap.size a b c d e := by
  refine ⟨⟨?_, ?_, ?_, ?_, ?_⟩, ⟨?_, ?_, ?_, ?_, ?_⟩⟩ <;> simp
theorem Row5.fresh_at (w : World) (a b c d e : ByteArray) (t : TypeId) (n : Nat) (hn : n = w.heap.size) : Row5 (w.alloc (.cells #[.string a, .string b, .string c, .string d, .string e] t)) n a b c d e := by
  subst hn; exact Row5.fresh w a b c d e t
theorem setCell_at {w : World} {B i j : Nat} {v u : Value} (h : w.cell? ⟨B, j, none⟩ = some v) (hij : j ≠ i) : (w.setCell ⟨B, i, none⟩ u).cell? ⟨B, j, none⟩ = some v := by
  rw [World.cell?_setCell_other]
  · exact h
  · intro e; cases e; exact hij rfl
theorem Row5.set {B : Nat} {w : World} {a b c d e : ByteArray} (h : Row5 w B a b c d e) (a' b' c' d' e' : ByteArray) :
    Row5 (((((w.setCell ⟨B, 0, none⟩ (.string a')).setCell ⟨B, 1, none⟩ (.string b')).setCell ⟨B, 2, none⟩ (.string c')).setCell ⟨B, 3, none⟩ (.string d')).setCell ⟨B, 4, none⟩ (.string e')) B a' b' c' d' e' := by
  obtain ⟨⟨h0, h1, h2, h3, h4⟩, ⟨f0, f1, f2, f3, f4⟩⟩ := h
  refine ⟨⟨?_, ?_, ?_, ?_, ?_⟩, ⟨by simpa using f0, by simpa using f1, by simpa using f2, by simpa using f3, by simpa using f4⟩⟩
  · exact setCell_at (setCell_at (setCell_at (setCell_at (World.cell?_setCell_same _ _ _ h0) (by omega)) (by omega)) (by omega)) (by omega)
  · exact setCell_at (setCell_at (setCell_at (World.cell?_setCell_same _ _ _ (setCell_at h1 (by omega))) (by omega)) (by omega)) (by omega)
  · exact setCell_at (setCell_at (World.cell?_setCell_same _ _ _ (setCell_at (setCell_at h2 (by omega)) (by omega))) (by omega)) (by omega)
  · exact setCell_at (World.cell?_setCell_same _ _ _ (setCell_at (setCell_at (setCell_at h3 (by omega)) (by omega)) (by omega))) (by omega)
  · exact World.cell?_setCell_same _ _ _ (setCell_at (setCell_at (setCell_at (setCell_at h4 (by omega)) (by omega)) (by omega)) (by omega))
theorem below_set5 {n B : Nat} {w0 w : World} (h : Below n w0 w) (hn : n ≤ B) (p q r s t : Value) :
    Below n w0 (((((w.setCell ⟨B, 0, none⟩ p).setCell ⟨B, 1, none⟩ q).setCell ⟨B, 2, none⟩ r).setCell ⟨B, 3, none⟩ s).setCell ⟨B, 4, none⟩ t) :=
  ((((h.setCell hn p).setCell hn q).setCell hn r).setCell hn s).setCell hn t

/-- the numbers behind a step: what the chapter calls A to E, by their own names -/
def sA (x z : Int) : Int := (x + z) % Pr
def sB (x z : Int) : Int := (x - z) % Pr
def sSq (x : Int) : Int := (x * x) % Pr
def sE (x z : Int) : Int := (sSq (sA x z) - sSq (sB x z)) % Pr
def sDA (x2 z2 x3 z3 : Int) : Int := (sB x3 z3 * sA x2 z2) % Pr
def sCB (x2 z2 x3 z3 : Int) : Int := (sA x3 z3 * sB x2 z2) % Pr
def nX2 (x2 z2 : Int) : Int := (sSq (sA x2 z2) * sSq (sB x2 z2)) % Pr
def nZ2 (x2 z2 : Int) : Int := (sE x2 z2 * ((sSq (sA x2 z2) + (sE x2 z2 * 121665) % Pr) % Pr)) % Pr
def nX3 (x2 z2 x3 z3 : Int) : Int := sSq ((sDA x2 z2 x3 z3 + sCB x2 z2 x3 z3) % Pr)
def nZ3 (u x2 z2 x3 z3 : Int) : Int := (u * sSq ((sDA x2 z2 x3 z3 - sCB x2 z2 x3 z3) % Pr)) % Pr

/-- the factor's bytes -/
theorem fac_str : (⟨#[65, 219, 1, 0, 0, 0, 0, 0, 0, 0, 0, 0, 0, 0, 0, 0, 0, 0, 0, 0, 0, 0, 0, 0, 0, 0, 0, 0, 0, 0, 0, 0]⟩ : ByteArray) = leStr 121665 := by decide +kernel
theorem one_str : (⟨#[1, 0, 0, 0, 0, 0, 0, 0, 0, 0, 0, 0, 0, 0, 0, 0, 0, 0, 0, 0, 0, 0, 0, 0, 0, 0, 0, 0, 0, 0, 0, 0]⟩ : ByteArray) = leStr 1 := by decide +kernel
theorem zero_str : (⟨#[0, 0, 0, 0, 0, 0, 0, 0, 0, 0, 0, 0, 0, 0, 0, 0, 0, 0, 0, 0, 0, 0, 0, 0, 0, 0, 0, 0, 0, 0, 0, 0]⟩ : ByteArray) = leStr 0 := by decide +kernel
theorem nine_str : (⟨#[9, 0, 0, 0, 0, 0, 0, 0, 0, 0, 0, 0, 0, 0, 0, 0, 0, 0, 0, 0, 0, 0, 0, 0, 0, 0, 0, 0, 0, 0, 0, 0]⟩ : ByteArray) = leStr 9 := by decide +kernel
theorem Rd.lit {n : Int} (h0 : 0 ≤ n) (h1 : n < 1000000) : Rd n := ⟨h0, by unfold Pr; omega⟩
end Go.Proofs.YtccjhlipcgpkmaaDoor
