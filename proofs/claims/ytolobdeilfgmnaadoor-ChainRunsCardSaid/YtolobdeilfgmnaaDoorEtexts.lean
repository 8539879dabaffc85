/- DigestTexts: any text's sum, a new one, and which two are the same, is as the document says. -/
import Derived.Test.YtolobdeilfgmnaaDoorDopen
import Derived.Test.YtolobdeilfgmnaaDoorEsum
import Derived.Test.YtolobdeilfgmnaaDoorEkeys
import Derived.Test.YtolobdeilfgmnaaDoorDparts
import Derived.Test.YtolobdeilfgmnaaDoorQt
import Derived.Test.YtolobdeilfgmnaaDoorKa
namespace Go.Proofs.YtolobdeilfgmnaaDoor
open Go.RowKit Go.Sort
set_option maxRecDepth 100000
theorem KAt.bel {w0 w : World} {v : Value} (h : KAt w0 v) (hb : Bel w0 w) : KAt w v := h.on hb.b
theorem sameB_self (l : List (BitVec 32)) (x : ByteArray) (p : Nat) : sameB l l x x p p = true := by unfold sameB; simp

end Go.Proofs.YtolobdeilfgmnaaDoor