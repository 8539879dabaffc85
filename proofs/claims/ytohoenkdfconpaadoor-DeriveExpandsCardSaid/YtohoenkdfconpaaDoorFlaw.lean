/- The contracts of the law's cut and alive, for derive. -/
import Derived.Test.YtohoenkdfconpaaDoorFhash
import Derived.Test.YtohoenkdfconpaaDoorFeval
namespace Go.Proofs.YtohoenkdfconpaaDoor
open Go.RowKit
set_option maxRecDepth 100000

set_option maxHeartbeats 400000 in
theorem cutd_any (x : ByteArray) (hx : x.size ≤ maxLen) (w : World) :
    Calls Tryd.prog 26 #[.string x] w fun e w' => e = .returned (.string (cutS x 150)) ∧ w = w' := by
  unfold maxLen at hx
  have hc := cut_min x 150
  have HC := Lib.hid hc
  clear hc
  go_enter Tryd.func26, Tryd.ntmps26
  go_wp2
  go_ret
  exact ⟨congrArg (fun z => Ending.returned (.string z)) HC.out, rfl⟩

theorem tagL_length (k s : List UInt8) : (tagL k s).length = 32 := ofL_length _

set_option maxHeartbeats 400000 in
theorem alived_any (w : World) (hF : FirstAt w) (hK : KeysAt w) :
    Calls Tryd.prog 28 #[] w fun e w' => e = .returned (.bool true) ∧ Below w.heap.size w w' := by
  have ho := tagd_any jefe wants (by decide) (by decide) w hF hK
  have hb := jefe_bytes
  obtain ⟨s, hs⟩ : ∃ s, strL (tagL (bl jefe) (bl wants)) = s := ⟨_, rfl⟩
  have hsz : s.size = 32 := by rw [← hs, strL_size, tagL_length]
  have hbs : bl s = tagL (bl jefe) (bl wants) := by rw [← hs, bl_strL]
  rw [← hbs] at hb
  have g0 : s[0] = 91 := by
    rw [← bl_get s 0 (by omega)]
    have := congrArg (fun l => l.getD 0 0) hb
    simpa [List.getElem?_take] using this
  have g1 : s[1] = 220 := by
    rw [← bl_get s 1 (by omega)]
    have := congrArg (fun l => l.getD 1 0) hb
    simpa [List.getElem?_take] using this
  rw [hs] at ho
  unfold jefe wants at ho
  have HO := Lib.hid ho
  clear ho hb hs hbs
  have z : (s.size : Int) = 32 := by omega
  have b0 : ((s.size : Int) == 32) = true := by rw [z]; rfl
  have l0 : (0 : Int) < (s.size : Int) := by omega
  have l1 : (1 : Int) < (s.size : Int) := by omega
  have q0 : ((s[0].toNat : Nat) : Int) = 91 := by rw [g0]; rfl
  have q1 : ((s[1].toNat : Nat) : Int) = 220 := by rw [g1]; rfl
  clear z g0 g1
  go_enter Tryd.func28, Tryd.ntmps28
  go_wp2_with fail
  refine HO.out.mono ?_
  rintro e w1 ⟨rfl, hb1⟩
  go_wp2_with fail
  go_ret
  exact ⟨rfl, hb1⟩
end Go.Proofs.YtohoenkdfconpaaDoor
