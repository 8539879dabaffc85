/- XQk's walk, where several operations may come up: one goal for each. -/
import Derived.Test.YtmmaimopombepaaQk
namespace Go.Proofs.Ytmmaimopombepaa
open Go.RowKit

section
variable {P : Program} {ops : Array Oper} {Q : Exit → Act → World → Prop} {md : Region.Mode} {S : World → Prop} {k : Nat}
def ReadyK (P : Program) (md : Region.Mode) (ops : Array Oper) (Q : Exit → Act → World → Prop) (S : World → Prop) (k n : Nat) (listed : Array Bool) (a : Act) (w : World) (rs : List Nat) : Prop :=
  ∀ i ∈ rs, wpOp P ops Q i (fun b v => ((listed.setIfInBounds i true).getD k true = false → S v) ∧ wpAnyK P md ops Q S k n (listed.setIfInBounds i true) b v) a w
theorem ReadyK.nil {n : Nat} {listed : Array Bool} {a : Act} {w : World} : ReadyK P md ops Q S k n listed a w [] := fun _ h => by cases h
theorem ReadyK.cons {n : Nat} {listed : Array Bool} {a : Act} {w : World} {i : Nat} {o : Oper} {rs : List Nat} (ho : ops[i]? = some o)
    (h : ∀ K : Act → World → Prop, (∀ b v, ((listed.setIfInBounds i true).getD k true = false → S v) → wpAnyK P md ops Q S k n (listed.setIfInBounds i true) b v → K b v) →
      if Region.wanted o (yielded ops a.tmps) = true then Oper.wp P o a w K Q else K (a.put o.dst undef) w)
    (hs : ReadyK P md ops Q S k n listed a w rs) : ReadyK P md ops Q S k n listed a w (i :: rs) := by
  intro j hj
  rcases List.mem_cons.1 hj with rfl | hj
  · unfold wpOp
    rw [ho]
    have := h (fun b v => ((listed.setIfInBounds j true).getD k true = false → S v) ∧ wpAnyK P md ops Q S k n (listed.setIfInBounds j true) b v) (fun _ _ h1 h2 => ⟨h1, h2⟩)
    by_cases hw : Region.wanted o (yielded ops a.tmps) = true
    · rw [if_pos hw] at this
      simp only [hw, if_true]
      exact Or.inl this
    · rw [if_neg hw] at this
      simp only [hw]
      exact this
  · exact hs j hj
theorem K_ready {rs : List Nat} {n : Nat} {listed : Array Bool} {a : Act} {w : World} (hr : Region.ready md ops listed = rs) (hne : rs ≠ [])
    (h : ReadyK P md ops Q S k n listed a w rs) : wpAnyK P md ops Q S k (n + 1) listed a w := K_all hr hne h
end
end Go.Proofs.Ytmmaimopombepaa
