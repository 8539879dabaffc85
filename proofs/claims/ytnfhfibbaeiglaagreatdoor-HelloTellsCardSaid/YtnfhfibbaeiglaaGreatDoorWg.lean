/- The contracts of the law's cut and alive, for hello. -/
import Derived.Test.YtnfhfibbaeiglaaGreatDoorWk
namespace Go.Proofs.YtnfhfibbaeiglaaGreatDoor
open Go.RowKit
set_option maxRecDepth 100000

set_option maxHeartbeats 400000 in
theorem cut11_any (x : ByteArray) (hx : x.size ≤ maxLen) (w : World) :
    Calls Tryz.prog 5 #[.string x] w fun e w' => e = .returned (.string (cutH x 34)) ∧ w = w' := by
  unfold maxLen at hx
  have hc := cutH_min x 34
  have HC := Lib.hid hc
  clear hc
  go_enter Tryz.func5, Tryz.ntmps5
  go_wp2
  go_ret
  exact ⟨congrArg (fun z => Ending.returned (.string z)) HC.out, rfl⟩
def key11 : ByteArray := ⟨#[48, 49, 50, 51, 52, 53, 54, 55, 56, 57, 97, 98, 99, 100, 101, 102, 48, 49, 50, 51, 52, 53, 54, 55, 56, 57, 97, 98, 99, 100, 101, 102]⟩
theorem may11 : mayH key11 key11 key11 key11 ⟨#[]⟩ := ⟨by decide, by decide, by decide, by decide, Or.inl rfl⟩
set_option maxHeartbeats 400000 in
theorem alive11_any (w : World) (hT : TriAt w) :
    Calls Tryz.prog 8 #[] w fun e w' => e = .returned (.bool true) ∧ Below w.heap.size w w' := by
  have hs := Initiate_good key11 key11 key11 key11 ⟨#[]⟩ may11 w hT
  obtain ⟨S, eS⟩ : ∃ S, secB (ptsI key11 key11 key11 key11 ⟨#[]⟩) = S := ⟨_, rfl⟩
  have hS : S.size = 32 := by rw [← eS]; exact secB_size _
  rw [eS] at hs
  clear eS
  unfold key11 at hs
  have a0 : ((S.size : Int) == 32) = true := by rw [hS]; rfl
  have HS := Lib.hid hs
  clear hs hS hT
  go_enter Tryz.func8, Tryz.ntmps8
  go_wp2_with fail
  refine HS.out.mono ?_
  rintro e w1 ⟨rfl, hb⟩
  have HB := Lib.hid hb
  clear hb HS
  go_wp2_with fail
  go_ret
  exact ⟨by first | rfl | simp, HB.out⟩
end Go.Proofs.YtnfhfibbaeiglaaGreatDoor
