/- Frames in plain mathematics: their bytes, the frame that bytes tell, and that what is put is got as it was. -/
import Derived.Test.YtmdakbbbpcldkaaPa
namespace Go.Proofs.Ytmdakbbbpcldkaa
set_option maxRecDepth 100000
def tp (s : ByteArray) : Pt := ⟨true, 0, s⟩
end Go.Proofs.Ytmdakbbbpcldkaa