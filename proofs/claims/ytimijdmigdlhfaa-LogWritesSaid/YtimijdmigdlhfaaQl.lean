/- A region that draws its order, whose operations only read or call (whatever the callees lay), and whose last operation, a store, waits for all others: one walk in the order of the text serves every order. -/
import Derived.WalkKit
import Derived.Lib.QuietBelow
import Derived.Test.YtimijdmigdlhfaaRows
namespace Go.Proofs.Ytimijdmigdlhfaa
open Go.RowKit Go.Sort
section
variable {P : Program} {ops opsq : Array Oper} {md : Region.Mode} {C : World → Prop}
/-- what is listed has had all listed that it waits for -/
def Closed (md : Region.Mode) (ops : Array Oper) (listed : Array Bool) : Prop :=
  ∀ (j : Nat) (o : Oper), ops[j]? = some o → listed.getD j true = true → ∀ e ∈ o.after, Region.binds md e = true → listed.getD e.on false = true

theorem Closed.set {listed : Array Bool} (h : Closed md ops listed) {i : Nat} (hi : i ∈ Region.ready md ops listed) : Closed md ops (listed.setIfInBounds i true) := by
  intro j o ho hl e he hb
  by_cases hij : i = j
  · subst hij
    obtain ⟨-, o', ho', hall⟩ := mem_ready.1 hi
    obtain rfl : o' = o := Option.some.inj (ho'.symm.trans ho)
    exact getD_set_true (hall e he hb)
  · rw [getD_set_ne true hij] at hl
    exact getD_set_true (h j o ho hl e he hb)

end
end Go.Proofs.Ytimijdmigdlhfaa