/- The sum of the text abc, reckoned. Nothing of the program stands here. -/
import Derived.Test.YtolobdeilfgmnaaDoorDpub
namespace Go.Proofs.YtolobdeilfgmnaaDoor
open Go.RowKit
set_option maxRecDepth 100000 in
theorem abc_bytes : (sumL firstS [97, 98, 99] 3).take 2 = [186, 120] := by
  decide +kernel
end Go.Proofs.YtolobdeilfgmnaaDoor