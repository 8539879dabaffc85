/- Four words that lie in a block of their own: what becomes of them behind a store of four, and behind a call. -/
import Derived.Test.YtccjhlipcgpkmaaDoorLeaf
namespace Go.Proofs.YtccjhlipcgpkmaaDoor
open Go.RowKit

def Blk (w : World) (B : Nat) (a b c d : Int) : Prop :=
  (w.cell? ⟨B, 0, none⟩ = some (.int .u64 a) ∧ w.cell? ⟨B, 1, none⟩ = some (.int .u64 b) ∧ w.cell? ⟨B, 2, none⟩ = some (.int .u64 c) ∧ w.cell? ⟨B, 3, none⟩ = some (.int .u64 d)) ∧
  (w.frozen? ⟨B, 0, none⟩ = false ∧ w.frozen? ⟨B, 1, none⟩ = false ∧ w.frozen? ⟨B, 2, none⟩ = false ∧ w.frozen? ⟨B, 3, none⟩ = false)

theorem Blk.below {n B : Nat} {w w' : World} {a b c d : Int} (h : Blk w B a b c d) (hb : Below n w w') (hB : B < n) : Blk w' B a b c d := by
  obtain ⟨⟨h0, h1, h2, h3⟩, ⟨f0, f1, f2, f3⟩⟩ := h
  refine ⟨⟨?_, ?_, ?_, ?_⟩, ⟨?_, ?_, ?_, ?_⟩⟩
  all_goals first | rw [hb.cell (p := ⟨B, _, none⟩) hB]; assumption | rw [hb.frozen (p := ⟨B, _, none⟩) hB]; assumption

theorem Blk.lt {B : Nat} {w : World} {a b c d : Int} (h : Blk w B a b c d) : B < w.heap.size := World.block_lt_of_cell? w _ h.1.1

theorem Blk.drew {B : Nat} {w : World} {a b c d : Int} (h : Blk w B a b c d) : Blk w.drew B a b c d := h

theorem Blk.far {B : Nat} {w : World} {a b c d : Int} (h : Blk w B a b c d) {p : Addr} (hp : p.block ≠ B) (v : Value) : Blk (w.setCell p v) B a b c d := by
  obtain ⟨⟨h0, h1, h2, h3⟩, ⟨f0, f1, f2, f3⟩⟩ := h
  have key : ∀ o, (w.setCell p v).cell? ⟨B, o, none⟩ = w.cell? ⟨B, o, none⟩ := fun o => by
    rw [World.cell?_setCell_other]; intro e; subst e; exact hp rfl
  exact ⟨⟨(key _).trans h0, (key _).trans h1, (key _).trans h2, (key _).trans h3⟩, ⟨by simpa using f0, by simpa using f1, by simpa using f2, by simpa using f3⟩⟩

theorem Blk.alloc {B : Nat} {w : World} {a b c d : Int} (h : Blk w B a b c d) (o : Obj) : Blk (w.alloc o) B a b c d :=
  h.below ((Below.refl _ _).alloc (Nat.le_refl _) o) h.lt

theorem Blk.set0 {B : Nat} {w : World} {a b c d : Int} (h : Blk w B a b c d) (v : Int) : Blk (w.setCell ⟨B, 0, none⟩ (.int .u64 v)) B v b c d := by
  obtain ⟨⟨h0, h1, h2, h3⟩, ⟨f0, f1, f2, f3⟩⟩ := h
  refine ⟨⟨World.cell?_setCell_same _ _ _ h0, ?_, ?_, ?_⟩, ⟨by simpa using f0, by simpa using f1, by simpa using f2, by simpa using f3⟩⟩
  all_goals (rw [World.cell?_setCell_other]; assumption; simp)
theorem Blk.set1 {B : Nat} {w : World} {a b c d : Int} (h : Blk w B a b c d) (v : Int) : Blk (w.setCell ⟨B, 1, none⟩ (.int .u64 v)) B a v c d := by
  obtain ⟨⟨h0, h1, h2, h3⟩, ⟨f0, f1, f2, f3⟩⟩ := h
  refine ⟨⟨?_, World.cell?_setCell_same _ _ _ h1, ?_, ?_⟩, ⟨by simpa using f0, by simpa using f1, by simpa using f2, by simpa using f3⟩⟩
  all_goals (rw [World.cell?_setCell_other]; assumption; simp)
theorem Blk.set2 {B : Nat} {w : World} {a b c d : Int} (h : Blk w B a b c d) (v : Int) : Blk (w.setCell ⟨B, 2, none⟩ (.int .u64 v)) B a b v d := by
  obtain ⟨⟨h0, h1, h2, h3⟩, ⟨f0, f1, f2, f3⟩⟩ := h
  refine ⟨⟨?_, ?_, World.cell?_setCell_same _ _ _ h2, ?_⟩, ⟨by simpa using f0, by simpa using f1, by simpa using f2, by simpa using f3⟩⟩
  all_goals (rw [World.cell?_setCell_other]; assumption; simp)
theorem Blk.set3 {B : Nat} {w : World} {a b c d : Int} (h : Blk w B a b c d) (v : Int) : Blk (w.setCell ⟨B, 3, none⟩ (.int .u64 v)) B a b c v := by
  obtain ⟨⟨h0, h1, h2, h3⟩, ⟨f0, f1, f2, f3⟩⟩ := h
  refine ⟨⟨?_, ?_, ?_, World.cell?_setCell_same _ _ _ h3⟩, ⟨by simpa using f0, by simpa using f1, by simpa using f2, by simpa using f3⟩⟩
  all_goals (rw [World.cell?_setCell_other]; assumption; simp)
theorem Blk.set4 {B : Nat} {w : World} {a b c d : Int} (h : Blk w B a b c d) (p q r s : Int) :
    Blk ((((w.setCell ⟨B, 0, none⟩ (.int .u64 p)).setCell ⟨B, 1, none⟩ (.int .u64 q)).setCell ⟨B, 2, none⟩ (.int .u64 r)).setCell ⟨B, 3, none⟩ (.int .u64 s)) B p q r s :=
  (((h.set0 p).set1 q).set2 r).set3 s
theorem Blk.far4 {B B' : Nat} {w : World} {a b c d : Int} (h : Blk w B' a b c d) (hne : B ≠ B') (p q r s : Value) :
    Blk ((((w.setCell ⟨B, 0, none⟩ p).setCell ⟨B, 1, none⟩ q).setCell ⟨B, 2, none⟩ r).setCell ⟨B, 3, none⟩ s) B' a b c d :=
  (((h.far hne p).far hne q).far hne r).far hne s
theorem Blk.fresh (w : World) (a b c d : Int) (t : TypeId) : Blk (w.alloc (.cells #[.int .u64 a, .int .u64 b, .int .u64 c, .int .u64 d] t)) w.heap.size a b c d := by
  refine ⟨⟨?_, ?_, ?_, ?_⟩, ⟨?_, ?_, ?_, ?_⟩⟩ <;> simp
theorem Blk.fresh_at (w : World) (a b c d : Int) (t : TypeId) (n : Nat) (hn : n = w.heap.size) : Blk (w.alloc (.cells #[.int .u64 a, .int .u64 b, .int .u64 c, .int .u64 d] t)) n a b c d := by
  subst hn; exact Blk.fresh w a b c d t
theorem below_set4 {n B : Nat} {w0 w : World} (h : Below n w0 w) (hn : n ≤ B) (p q r s : Value) :
    Below n w0 ((((w.setCell ⟨B, 0, none⟩ p).setCell ⟨B, 1, none⟩ q).setCell ⟨B, 2, none⟩ r).setCell ⟨B, 3, none⟩ s) :=
  (((h.setCell hn p).setCell hn q).setCell hn r).setCell hn s
theorem size_set4 (w : World) (B : Nat) (p q r s : Value) : ((((w.setCell ⟨B, 0, none⟩ p).setCell ⟨B, 1, none⟩ q).setCell ⟨B, 2, none⟩ r).setCell ⟨B, 3, none⟩ s).heap.size = w.heap.size := by simp
theorem cell_far4 (w : World) {n X : Nat} (h : n ≠ X) (o : Nat) (p q r s : Value) :
    ((((w.setCell ⟨n, 0, none⟩ p).setCell ⟨n, 1, none⟩ q).setCell ⟨n, 2, none⟩ r).setCell ⟨n, 3, none⟩ s).cell? ⟨X, o, none⟩ = w.cell? ⟨X, o, none⟩ := by
  have key : ∀ (v : World) (k : Nat) (u : Value), (v.setCell ⟨n, k, none⟩ u).cell? ⟨X, o, none⟩ = v.cell? ⟨X, o, none⟩ := fun v k u => by
    rw [World.cell?_setCell_other]; intro e; cases e; exact h rfl
  rw [key, key, key, key]
theorem two_far4 {w' : World} {A B n : Nat} {a0 a1 a2 a3 b0 b1 b2 b3 : Value}
    (h : (w'.cell? ⟨A, 0, none⟩ = some a0 ∧ w'.cell? ⟨A, 1, none⟩ = some a1 ∧ w'.cell? ⟨A, 2, none⟩ = some a2 ∧ w'.cell? ⟨A, 3, none⟩ = some a3) ∧ (w'.cell? ⟨B, 0, none⟩ = some b0 ∧ w'.cell? ⟨B, 1, none⟩ = some b1 ∧ w'.cell? ⟨B, 2, none⟩ = some b2 ∧ w'.cell? ⟨B, 3, none⟩ = some b3))
    (h1 : n ≠ A) (h2 : n ≠ B) (p q r s : Value) :
    ((((((w'.setCell ⟨n, 0, none⟩ p).setCell ⟨n, 1, none⟩ q).setCell ⟨n, 2, none⟩ r).setCell ⟨n, 3, none⟩ s).cell? ⟨A, 0, none⟩ = some a0 ∧ ((((w'.setCell ⟨n, 0, none⟩ p).setCell ⟨n, 1, none⟩ q).setCell ⟨n, 2, none⟩ r).setCell ⟨n, 3, none⟩ s).cell? ⟨A, 1, none⟩ = some a1 ∧ ((((w'.setCell ⟨n, 0, none⟩ p).setCell ⟨n, 1, none⟩ q).setCell ⟨n, 2, none⟩ r).setCell ⟨n, 3, none⟩ s).cell? ⟨A, 2, none⟩ = some a2 ∧ ((((w'.setCell ⟨n, 0, none⟩ p).setCell ⟨n, 1, none⟩ q).setCell ⟨n, 2, none⟩ r).setCell ⟨n, 3, none⟩ s).cell? ⟨A, 3, none⟩ = some a3) ∧
     (((((w'.setCell ⟨n, 0, none⟩ p).setCell ⟨n, 1, none⟩ q).setCell ⟨n, 2, none⟩ r).setCell ⟨n, 3, none⟩ s).cell? ⟨B, 0, none⟩ = some b0 ∧ ((((w'.setCell ⟨n, 0, none⟩ p).setCell ⟨n, 1, none⟩ q).setCell ⟨n, 2, none⟩ r).setCell ⟨n, 3, none⟩ s).cell? ⟨B, 1, none⟩ = some b1 ∧ ((((w'.setCell ⟨n, 0, none⟩ p).setCell ⟨n, 1, none⟩ q).setCell ⟨n, 2, none⟩ r).setCell ⟨n, 3, none⟩ s).cell? ⟨B, 2, none⟩ = some b2 ∧ ((((w'.setCell ⟨n, 0, none⟩ p).setCell ⟨n, 1, none⟩ q).setCell ⟨n, 2, none⟩ r).setCell ⟨n, 3, none⟩ s).cell? ⟨B, 3, none⟩ = some b3)) := by
  simp only [cell_far4 w' h1, cell_far4 w' h2]
  exact h
theorem two_below {w' w1 : World} {A B n : Nat} {a0 a1 a2 a3 b0 b1 b2 b3 : Value}
    (h : (w'.cell? ⟨A, 0, none⟩ = some a0 ∧ w'.cell? ⟨A, 1, none⟩ = some a1 ∧ w'.cell? ⟨A, 2, none⟩ = some a2 ∧ w'.cell? ⟨A, 3, none⟩ = some a3) ∧ (w'.cell? ⟨B, 0, none⟩ = some b0 ∧ w'.cell? ⟨B, 1, none⟩ = some b1 ∧ w'.cell? ⟨B, 2, none⟩ = some b2 ∧ w'.cell? ⟨B, 3, none⟩ = some b3))
    (hb : Below n w' w1) (h1 : A < n) (h2 : B < n) :
    (w1.cell? ⟨A, 0, none⟩ = some a0 ∧ w1.cell? ⟨A, 1, none⟩ = some a1 ∧ w1.cell? ⟨A, 2, none⟩ = some a2 ∧ w1.cell? ⟨A, 3, none⟩ = some a3) ∧ (w1.cell? ⟨B, 0, none⟩ = some b0 ∧ w1.cell? ⟨B, 1, none⟩ = some b1 ∧ w1.cell? ⟨B, 2, none⟩ = some b2 ∧ w1.cell? ⟨B, 3, none⟩ = some b3) := by
  have k1 : ∀ o, w1.cell? ⟨A, o, none⟩ = w'.cell? ⟨A, o, none⟩ := fun o => hb.cell (p := ⟨A, o, none⟩) h1
  have k2 : ∀ o, w1.cell? ⟨B, o, none⟩ = w'.cell? ⟨B, o, none⟩ := fun o => hb.cell (p := ⟨B, o, none⟩) h2
  simp only [k1, k2]
  exact h
end Go.Proofs.YtccjhlipcgpkmaaDoor
