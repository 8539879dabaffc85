/- The contracts of the law's cut and alive, for chain. -/
import Derived.Test.YtolobdeilfgmnaaDoorVac
import Derived.Test.YtolobdeilfgmnaaDoorDcut
namespace Go.Proofs.YtolobdeilfgmnaaDoor
open Go.RowKit
set_option maxRecDepth 100000

set_option maxHeartbeats 400000 in
theorem cut10_any (x : ByteArray) (hx : x.size ≤ maxLen) (w : World) :
    Calls Tryd.prog 6 #[.string x] w fun e w' => e = .returned (.string (cutS x 40)) ∧ w = w' := by
  unfold maxLen at hx
  have hc := cut_min x 40
  have HC := Lib.hid hc
  clear hc
  go_enter Tryd.func6, Tryd.ntmps6
  go_wp2
  go_ret
  exact ⟨congrArg (fun z => Ending.returned (.string z)) HC.out, rfl⟩
def key10 : ByteArray := ⟨#[48, 49, 50, 51, 52, 53, 54, 55, 56, 57, 97, 98, 99, 100, 101, 102, 48, 49, 50, 51, 52, 53, 54, 55, 56, 57, 97, 98, 99, 100, 101, 102]⟩
set_option maxHeartbeats 400000 in
theorem alive10_any (w : World) (hF : FirstAt w) (hK : KeysAt w) :
    Calls Tryd.prog 11 #[] w fun e w' => e = .returned (.bool true) ∧ Below w.heap.size w w' := by
  have hs := Step_good key10 (by decide) w hF hK
  have hA := spA_size key10 stWord
  have hB := spB_size key10 stWord
  generalize spA key10 stWord = A at hs hA
  generalize spB key10 stWord = B at hs hB
  unfold key10 at hs
  have a0 : ((A.size : Int) == 32) = true := by rw [hA]; rfl
  have b0 : ((B.size : Int) == 32) = true := by rw [hB]; rfl
  have HS := Lib.hid hs
  clear hs hA hB hF hK
  go_enter Tryd.func11, Tryd.ntmps11
  go_wp2_with fail
  refine HS.out.mono ?_
  rintro e w1 ⟨rfl, hb⟩
  have HB := Lib.hid hb
  clear hb HS
  go_wp2_with fail
  go_ret
  exact ⟨by first | rfl | simp, HB.out⟩
end Go.Proofs.YtolobdeilfgmnaaDoor
