/- Rows of a frame's fields in plain mathematics: what the package looks at is what the document asks. -/
import Derived.Test.YtimijdmigdlhfaaSa
import Derived.Test.YtimijdmigdlhfaaPd
namespace Go.Proofs.Ytimijdmigdlhfaa
set_option maxRecDepth 100000
instance : DecidableEq Pt := fun p q => decidable_of_iff (p.text = q.text ∧ p.n = q.n ∧ p.s = q.s) (by cases p; cases q; simp)
end Go.Proofs.Ytimijdmigdlhfaa