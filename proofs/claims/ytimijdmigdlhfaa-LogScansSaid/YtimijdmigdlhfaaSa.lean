/- Frames in plain mathematics: their bytes, the frame that bytes tell, and that what is put is got as it was. -/
import Derived.Test.YtimijdmigdlhfaaPa
namespace Go.Proofs.Ytimijdmigdlhfaa
set_option maxRecDepth 100000
def tp (s : ByteArray) : Pt := ⟨true, 0, s⟩
end Go.Proofs.Ytimijdmigdlhfaa