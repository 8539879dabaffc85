/- The chapter's example of a tag, reckoned. Nothing of the program stands here. -/
import Derived.Test.YtohoenkdfconpaaDoorFmask
namespace Go.Proofs.YtohoenkdfconpaaDoor
open Go.RowKit
set_option maxRecDepth 100000

def jefe : ByteArray := ⟨#[74, 101, 102, 101]⟩
def wants : ByteArray := ⟨#[119, 104, 97, 116, 32, 100, 111, 32, 121, 97, 32, 119, 97, 110, 116, 32, 102, 111, 114, 32, 110, 111, 116, 104, 105, 110, 103, 63]⟩
theorem jefe_bytes : (tagL (bl jefe) (bl wants)).take 2 = [91, 220] := by
  decide +kernel
end Go.Proofs.YtohoenkdfconpaaDoor
