/- A row of parts that came in: it can be read, and its numbers and texts are Go's. -/
import Derived.Test.YtollaaooinoafaaDoorPd
import Derived.Deep.Strs
import Derived.Carry
namespace Go.Proofs.YtollaaooinoafaaDoor
open Go.RowKit Go.ChangeShapes Go.WideShapes Go.Deep
set_option maxRecDepth 100000
theorem cellsStr : Tryd.prog.cellsOf 9 = 1 := by kernel_rfl
end Go.Proofs.YtollaaooinoafaaDoor