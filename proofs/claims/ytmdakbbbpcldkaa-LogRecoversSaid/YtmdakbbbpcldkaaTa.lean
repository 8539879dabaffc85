/- Rows of a frame's fields in plain mathematics: what the package looks at is what the document asks. -/
import Derived.Test.YtmdakbbbpcldkaaSa
import Derived.Test.YtmdakbbbpcldkaaPd
namespace Go.Proofs.Ytmdakbbbpcldkaa
set_option maxRecDepth 100000
instance : DecidableEq Pt := fun p q => decidable_of_iff (p.text = q.text ∧ p.n = q.n ∧ p.s = q.s) (by cases p; cases q; simp)
end Go.Proofs.Ytmdakbbbpcldkaa