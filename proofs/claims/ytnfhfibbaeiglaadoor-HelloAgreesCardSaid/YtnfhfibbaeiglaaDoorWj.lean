/- Both tell the same secret, of the points of each other's keys: in plain mathematics. -/
import Derived.Test.YtnfhfibbaeiglaaDoorWb
import Derived.Test.YtnfhfibbaeiglaaDoorARg1
namespace Go.Proofs.YtnfhfibbaeiglaaDoor
open Go.RowKit
set_option maxRecDepth 100000

theorem pt_shares (a b : ByteArray) : pt a (bpt b) = pt b (bpt a) := by unfold pt bpt pt; rw [mult_shares]
/-- both tell the same, of the points of each other's keys -/
theorem pts_agree (a c b s o : ByteArray) : ptsI a c (bpt b) (bpt s) (if o.size = 0 then ⟨#[]⟩ else bpt o) = ptsR b s o (bpt a) (bpt c) := by
  have h0 : ∀ x y : ByteArray, pt x (bpt y) = pt y (bpt x) := pt_shares
  unfold ptsI ptsR
  by_cases h : o.size = 0
  · rw [if_pos h, if_pos h, if_pos (show (⟨#[]⟩ : ByteArray).size = 0 from rfl), h0 a s, h0 c b, h0 c s]
  · rw [if_neg h, if_neg h, if_neg (by unfold bpt; rw [pt_size]; decide), h0 a s, h0 c b, h0 c s, h0 c o]
end Go.Proofs.YtnfhfibbaeiglaaDoor
