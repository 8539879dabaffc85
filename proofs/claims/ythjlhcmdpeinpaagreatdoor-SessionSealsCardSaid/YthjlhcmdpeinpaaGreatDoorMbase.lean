/- The reference's base point times a key. -/
import Derived.Test.YthjlhcmdpeinpaaGreatDoorRg2
namespace Go.Proofs.YthjlhcmdpeinpaaGreatDoor
set_option maxRecDepth 100000
open Go.RowKit Go.PlainAid
set_option maxHeartbeats 1000000 in
theorem refBase_any (k : ByteArray) (hk : k.size = 32) (w : World) :
    Calls Tryz.prog 41 #[.string k] w fun e w' => e = .returned (.string (leStr (multN k (leStr 9)))) ∧ Below w.heap.size w w' := by
  go_enter Tryz.func41, Tryz.ntmps41
  go_wp2_with fail
  refine (refSmall_any 9 (by omega) (by omega) _).mono ?_
  rintro e w1 ⟨v, rfl, D, hB1⟩
  have hs1 := hB1.size
  go_wp2_with fail
  refine (digText D).mono ?_
  rintro e w2 ⟨rfl, hb2⟩
  have hB2 := hB1.trans (hb2.mono hs1)
  have hs2 := hB2.size
  have HM := Lib.hid (refMult_any k (leStr 9) hk (leStr_size 9) w2)
  clear D hb2 hB1 hs1
  go_wp2_with fail
  refine HM.out.mono ?_
  rintro e w3 ⟨rfl, hb3⟩
  have hB3 := hB2.trans (hb3.mono hs2)
  clear hb3 hB2 HM
  go_wp2_with fail
  go_ret
  exact ⟨rfl, hB3⟩
end Go.Proofs.YthjlhcmdpeinpaaGreatDoor