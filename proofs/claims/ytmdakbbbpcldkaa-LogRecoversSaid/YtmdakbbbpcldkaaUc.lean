/- The reference's Crc. -/
import Derived.Test.YtmdakbbbpcldkaaUb
import Derived.Test.YtmdakbbbpcldkaaKb
namespace Go.Proofs.Ytmdakbbbpcldkaa
open Go.RowKit
set_option maxRecDepth 100000
/-- the law's own alive -/
theorem alive9_any (w : World) :
    Calls Try.prog 10 #[] w fun e w' => e = .returned (.bool true) ∧ Below w.heap.size w w' := by
  have h := Crc_any ⟨#[49, 50, 51, 52, 53, 54, 55, 56, 57]⟩ (by unfold maxLen; decide) w
  rw [show bl ⟨#[49, 50, 51, 52, 53, 54, 55, 56, 57]⟩ = [49, 50, 51, 52, 53, 54, 55, 56, 57] from rfl, crc_alive] at h
  have HC := Lib.hid h
  clear h
  go_enter Try.func10, Try.ntmps10
  go_wp2_with fail
  refine HC.out.mono ?_
  rintro e w1 ⟨rfl, hb⟩
  have HB := Lib.hid hb
  clear hb
  go_wp2_with fail
  go_ret
  exact ⟨rfl, HB.out⟩
end Go.Proofs.Ytmdakbbbpcldkaa