/- DigestTexts: any text's sum, a new one, and which two are the same, is as the document says. -/
import Derived.Test.YtikgefcbmoomjaaDoorZe
import Derived.Test.YtikgefcbmoomjaaDoorZa
import Derived.Test.YtikgefcbmoomjaaDoorEsum
import Derived.Test.YtikgefcbmoomjaaDoorEkeys
import Derived.Test.YtikgefcbmoomjaaDoorDparts
import Derived.Test.YtikgefcbmoomjaaDoorQl
import Derived.Carry
import Derived.Lib.SmallJoins
namespace Go.Proofs.YtikgefcbmoomjaaDoor
open Go.RowKit Go.Sort
set_option maxRecDepth 100000
theorem KAt.bel {w0 w : World} {v : Value} (h : KAt w0 v) (hb : Bel w0 w) : KAt w v := h.on hb.b
end Go.Proofs.YtikgefcbmoomjaaDoor