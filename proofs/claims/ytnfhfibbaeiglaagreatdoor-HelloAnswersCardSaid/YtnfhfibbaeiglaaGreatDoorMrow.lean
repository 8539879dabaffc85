/- The reference's numbers in a struct of four. -/
import Derived.Test.YtnfhfibbaeiglaaGreatDoorAg8
import Derived.Test.YtnfhfibbaeiglaaGreatDoorAg9
namespace Go.Proofs.YtnfhfibbaeiglaaGreatDoor
set_option maxRecDepth 100000
open Go.RowKit
/-- sixteen digits at block g that tell x -/
def DigS (w : World) (g cap : Nat) (x : Int) : Prop := Dig w (.slice (some ⟨g, 0, none⟩) 16 cap) x
theorem Dig.form {w : World} {v : Value} {x : Int} (h : Dig w v x) : ∃ g cap, v = .slice (some ⟨g, 0, none⟩) 16 cap ∧ DigS w g cap x := by
  obtain ⟨l, h1, h2, h3, g, cap, hv, hg, hc⟩ := id h
  rw [h1] at hv
  subst hv
  exact ⟨g, cap, rfl, h⟩
theorem DigS.on {w w' : World} {g cap : Nat} {x : Int} (h : DigS w g cap x) (hb : Below w.heap.size w w') : DigS w' g cap x := Dig.below h hb
theorem DigS.alloc {w : World} {g cap : Nat} {x : Int} (h : DigS w g cap x) (o : Obj) : DigS (w.alloc o) g cap x := h.on ((Below.refl _ _).alloc (Nat.le_refl _) o)
theorem DigS.far {w : World} {g cap : Nat} {x : Int} (h : DigS w g cap x) {B : Nat} {p : Option Addr} {n c : Nat} (hB : w.cell? ⟨B, 0, none⟩ = some (.slice p n c)) (i : Nat) (u : Value) : DigS (w.setCell ⟨B, i, none⟩ u) g cap x := by
  obtain ⟨l, h1, h2, h3, g', cap', hv, hg, hc⟩ := h
  rw [h1] at hv
  have e : g = g' := by cases hv; rfl
  subst e
  have hne : g ≠ B := by
    intro e
    subst e
    have := hc 0 (by omega)
    rw [hB] at this
    cases this
  refine ⟨l, h1, h2, h3, g, cap', by rw [h1]; exact hv, by simpa using hg, fun j hj => ?_⟩
  rw [World.cell?_setCell_other]
  · exact hc j hj
  · intro e; cases e; exact hne rfl

/-- four values in a block of their own -/
def Row4 (w : World) (B : Nat) (a b c d : Value) : Prop :=
  (w.cell? ⟨B, 0, none⟩ = some a ∧ w.cell? ⟨B, 1, none⟩ = some b ∧ w.cell? ⟨B, 2, none⟩ = some c ∧ w.cell? ⟨B, 3, none⟩ = some d) ∧
  (w.frozen? ⟨B, 0, none⟩ = false ∧ w.frozen? ⟨B, 1, none⟩ = false ∧ w.frozen? ⟨B, 2, none⟩ = false ∧ w.frozen? ⟨B, 3, none⟩ = false)
theorem Row4.below {n B : Nat} {w w' : World} {a b c d : Value} (h : Row4 w B a b c d) (hb : Below n w w') (hB : B < n) : Row4 w' B a b c d := by
  obtain ⟨⟨h0, h1, h2, h3⟩, ⟨f0, f1, f2, f3⟩⟩ := h
  refine ⟨⟨?_, ?_, ?_, ?_⟩, ⟨?_, ?_, ?_, ?_⟩⟩
  all_goals first | rw [hb.cell (p := ⟨B, _, none⟩) hB]; assumption | rw [hb.frozen (p := ⟨B, _, none⟩) hB]; assumption
theorem Row4.lt {B : Nat} {w : World} {a b c d : Value} (h : Row4 w B a b c d) : B < w.heap.size := World.block_lt_of_cell? w _ h.1.1
theorem Row4.on {B : Nat} {w w' : World} {a b c d : Value} (h : Row4 w B a b c d) (hb : Below w.heap.size w w') : Row4 w' B a b c d := h.below hb h.lt
theorem Row4.alloc {B : Nat} {w : World} {a b c d : Value} (h : Row4 w B a b c d) (o : Obj) : Row4 (w.alloc o) B a b c d :=
  h.below ((Below.refl _ _).alloc (Nat.le_refl _) o) h.lt
theorem Row4.fresh_at (w : World) (a b c d : Value) (t : TypeId) (n : Nat) (hn : n = w.heap.size) : Row4 (w.alloc (.cells #[a, b, c, d] t)) n a b c d := by
  subst hn
  refine ⟨⟨?_, ?_, ?_, ?_⟩, ⟨?_, ?_, ?_, ?_⟩⟩ <;> simp
theorem Row4.far {B : Nat} {w : World} {a b c d : Value} (h : Row4 w B a b c d) {p : Addr} (hp : p.block ≠ B) (v : Value) : Row4 (w.setCell p v) B a b c d := by
  obtain ⟨⟨h0, h1, h2, h3⟩, ⟨f0, f1, f2, f3⟩⟩ := h
  have key : ∀ o, (w.setCell p v).cell? ⟨B, o, none⟩ = w.cell? ⟨B, o, none⟩ := fun o => by
    rw [World.cell?_setCell_other]; intro e; subst e; exact hp rfl
  exact ⟨⟨(key _).trans h0, (key _).trans h1, (key _).trans h2, (key _).trans h3⟩, ⟨by simpa using f0, by simpa using f1, by simpa using f2, by simpa using f3⟩⟩
theorem Row4.set0 {B : Nat} {w : World} {a b c d : Value} (h : Row4 w B a b c d) (v : Value) : Row4 (w.setCell ⟨B, 0, none⟩ v) B v b c d := by
  obtain ⟨⟨h0, h1, h2, h3⟩, ⟨f0, f1, f2, f3⟩⟩ := h
  exact ⟨⟨World.cell?_setCell_same _ _ _ h0, setCell_at h1 (by omega), setCell_at h2 (by omega), setCell_at h3 (by omega)⟩, ⟨by simpa using f0, by simpa using f1, by simpa using f2, by simpa using f3⟩⟩
theorem Row4.set1 {B : Nat} {w : World} {a b c d : Value} (h : Row4 w B a b c d) (v : Value) : Row4 (w.setCell ⟨B, 1, none⟩ v) B a v c d := by
  obtain ⟨⟨h0, h1, h2, h3⟩, ⟨f0, f1, f2, f3⟩⟩ := h
  exact ⟨⟨setCell_at h0 (by omega), World.cell?_setCell_same _ _ _ h1, setCell_at h2 (by omega), setCell_at h3 (by omega)⟩, ⟨by simpa using f0, by simpa using f1, by simpa using f2, by simpa using f3⟩⟩
theorem Row4.set2 {B : Nat} {w : World} {a b c d : Value} (h : Row4 w B a b c d) (v : Value) : Row4 (w.setCell ⟨B, 2, none⟩ v) B a b v d := by
  obtain ⟨⟨h0, h1, h2, h3⟩, ⟨f0, f1, f2, f3⟩⟩ := h
  exact ⟨⟨setCell_at h0 (by omega), setCell_at h1 (by omega), World.cell?_setCell_same _ _ _ h2, setCell_at h3 (by omega)⟩, ⟨by simpa using f0, by simpa using f1, by simpa using f2, by simpa using f3⟩⟩
theorem Row4.set3 {B : Nat} {w : World} {a b c d : Value} (h : Row4 w B a b c d) (v : Value) : Row4 (w.setCell ⟨B, 3, none⟩ v) B a b c v := by
  obtain ⟨⟨h0, h1, h2, h3⟩, ⟨f0, f1, f2, f3⟩⟩ := h
  exact ⟨⟨setCell_at h0 (by omega), setCell_at h1 (by omega), setCell_at h2 (by omega), World.cell?_setCell_same _ _ _ h3⟩, ⟨by simpa using f0, by simpa using f1, by simpa using f2, by simpa using f3⟩⟩
theorem Row4.set {B : Nat} {w : World} {a b c d : Value} (h : Row4 w B a b c d) (p q r s : Value) :
    Row4 ((((w.setCell ⟨B, 0, none⟩ p).setCell ⟨B, 1, none⟩ q).setCell ⟨B, 2, none⟩ r).setCell ⟨B, 3, none⟩ s) B p q r s := (((h.set0 p).set1 q).set2 r).set3 s
theorem DigS.far4 {w : World} {g cap : Nat} {x : Int} (h : DigS w g cap x) {B : Nat} {p1 p2 : Option Addr} {n1 c1 n2 c2 : Nat} {b c d : Value} (hB : Row4 w B (.slice p1 n1 c1) b c d) (q r s : Value) :
    DigS ((((w.setCell ⟨B, 0, none⟩ (.slice p2 n2 c2)).setCell ⟨B, 1, none⟩ q).setCell ⟨B, 2, none⟩ r).setCell ⟨B, 3, none⟩ s) g cap x :=
  (((h.far hB.1.1 0 _).far (hB.set0 _).1.1 1 _).far ((hB.set0 _).set1 _).1.1 2 _).far (((hB.set0 _).set1 _).set2 _).1.1 3 _

def OneR (w : World) (n : Int) (v : Value) (wr : World) : Prop := ∃ (k g cap : Nat), k ≤ 14 ∧ v = .slice (some ⟨g, 0, none⟩) (k + 2) cap ∧ Ints wr w.heap.size v (n % 65536 :: n / 65536 :: List.replicate k 0) ∧ Below w.heap.size w wr
end Go.Proofs.YtnfhfibbaeiglaaGreatDoor