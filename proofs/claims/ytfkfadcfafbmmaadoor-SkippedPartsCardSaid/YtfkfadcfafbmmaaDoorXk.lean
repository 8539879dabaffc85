/- The law's alive, for skipped. -/
import Derived.Test.YtfkfadcfafbmmaaDoorXp
namespace Go.Proofs.YtfkfadcfafbmmaaDoor
open Go.RowKit
set_option maxRecDepth 100000

def key12 : ByteArray := ⟨#[48, 49, 50, 51, 52, 53, 54, 55, 56, 57, 97, 98, 99, 100, 101, 102, 48, 49, 50, 51, 52, 53, 54, 55, 56, 57, 97, 98, 99, 100, 101, 102]⟩
def kk12 : Kk := ⟨key12, 3, key12⟩
theorem right_nil : rightK [] := ⟨by simp, fun x hx => absurd hx List.not_mem_nil, trivial⟩
theorem sized12 : sizedK kk12 := ⟨by decide, by decide⟩
theorem put12 : putE [] kk12 = 0 ∧ putT [] kk12 = [kk12] := put_good right_nil sized12 rfl
theorem take12 : takeE [kk12] key12 3 = 0 ∧ takeS [kk12] key12 3 = key12 ∧ takeT [kk12] key12 3 = [] := by
  have hr : rightK [kk12] := rightK_put right_nil sized12 rfl
  have ha : atK [kk12] key12 3 = some 0 := atK_put (l := []) (x := kk12) rfl
  exact take_good hr ha
set_option maxHeartbeats 1000000 in
theorem alive12_any (w : World) :
    Calls Tryd.prog 8 #[] w fun e w' => e = .returned (.bool true) ∧ Below w.heap.size w w' := by
  have hp := Put_any none 0 [] kk12 (by simp) (by simp) w (KSl.nil _ _)
  have ht := fun (a : Option Addr) (c : Nat) (hc : [kk12].length ≤ c) (W : World) => Take_any a c [kk12] key12 3 (by simp) hc W
  rw [put12.1, put12.2] at hp
  rw [take12.1, take12.2.1, take12.2.2] at ht
  unfold kkv kk12 key12 at hp
  unfold kk12 key12 at ht
  have HP := Lib.hid hp; have HT := Lib.hid ht
  clear hp ht
  go_enter Tryd.func8, Tryd.ntmps8
  go_wp2_with fail
  refine HP.out.mono ?_
  rintro e w1 ⟨a1, c1, rfl, hc1, hk, hb⟩
  have HT1 := Lib.hid (HT.out a1 c1 hc1 w1 hk); have HB := Lib.hid hb
  clear hk hb HP HT
  go_wp2_with fail
  refine HT1.out.mono ?_
  rintro e w2 ⟨a2, c2, rfl, hc2, hk, hb⟩
  have HB2 := Lib.hid (HB.out.trans (hb.mono HB.out.size))
  clear hk hb HT1 HB
  go_wp2_with fail
  go_ret
  exact ⟨by first | rfl | simp, HB2.out⟩
end Go.Proofs.YtfkfadcfafbmmaaDoor
