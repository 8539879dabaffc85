/- DigestParts: it does not matter in which parts bytes come. -/
import Derived.Test.YtikgefcbmoomjaaDoorZe
import Derived.Test.YtikgefcbmoomjaaDoorZa
namespace Go.Proofs.YtikgefcbmoomjaaDoor
open Go.RowKit
theorem FirstAt.bel {w0 w : World} (h : FirstAt w0) (hb : Bel w0 w) : FirstAt w := h.on hb.b
theorem KeysAt.bel {w0 w : World} (h : KeysAt w0) (hb : Bel w0 w) : KeysAt w := h.on hb.b
theorem HashAt.bel {w0 w : World} {B D : Nat} {u : S8} {x : ByteArray} {q : Nat} (h : HashAt w0 B D u x q) (hb : Bel w0 w) : HashAt w B D u x q := h.on hb.b
end Go.Proofs.YtikgefcbmoomjaaDoor