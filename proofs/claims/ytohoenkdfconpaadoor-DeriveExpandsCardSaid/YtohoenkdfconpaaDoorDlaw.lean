/- The law's own helpers: cut, few, alive. -/
import Derived.Test.YtohoenkdfconpaaDoorDeval
import Derived.RegionTactic
import Derived.ChangeAlike
namespace Go.Proofs.YtohoenkdfconpaaDoor
open Go.RowKit

def cutS (x : ByteArray) (k : Nat) : ByteArray := strL ((bl x).take k)
theorem cutS_size (x : ByteArray) (k : Nat) : (cutS x k).size ≤ k := by unfold cutS; rw [strL_size, List.length_take]; omega
theorem bl_cutS (x : ByteArray) (k : Nat) : bl (cutS x k) = (bl x).take k := bl_strL _
theorem cut_min (x : ByteArray) (k : Nat) : x.extract 0 (min (x.size : Int) (k : Int)).toNat = cutS x k := by
  apply bl_inj
  rw [bl_cutS, bl_extract, List.drop_zero]
  by_cases h : x.size ≤ k
  · rw [show (min (x.size : Int) (k : Int)).toNat = x.size by omega, List.take_of_length_le (by rw [bl_length]; exact Nat.le_refl _), List.take_of_length_le (by rw [bl_length]; exact h)]
  · rw [show (min (x.size : Int) (k : Int)).toNat = k by omega]

set_option maxRecDepth 100000 in
set_option maxHeartbeats 400000 in
theorem cut_any (x : ByteArray) (hx : x.size ≤ maxLen) (w : World) :
    Calls Tryd.prog 11 #[.string x] w fun e w' => e = .returned (.string (cutS x 300)) ∧ w = w' := by
  unfold maxLen at hx
  have hc := cut_min x 300
  have HC := Lib.hid hc
  clear hc
  go_enter Tryd.func11, Tryd.ntmps11
  go_wp2
  go_ret
  exact ⟨congrArg (fun z => Ending.returned (.string z)) HC.out, rfl⟩

set_option maxRecDepth 100000 in
set_option maxHeartbeats 400000 in
theorem few_some (a : Addr) (n c : Nat) (x : ByteArray) (m : Nat) (hx : x.size ≤ maxLen) (hn : n ≤ maxLen) (hnc : n ≤ c) (w : World) :
    Calls Tryd.prog 10 #[.agg #[.slice (some a) n c, .string x, .int .u64 (m : Int)]] w fun e w' => e = .returned (.agg #[.slice (some a) (min n 9) c, .string (cutS x 66), .int .u64 (m : Int)]) ∧ Below w.heap.size w w' := by
  unfold maxLen at hx hn
  have hc : x.extract 0 (min (x.size : Int) 66).toNat = cutS x 66 := cut_min x 66
  have hm : (min (n : Int) 9).toNat = min n 9 := by omega
  have HC := Lib.hid hc; have HM := Lib.hid hm
  clear hc hm
  go_enter Tryd.func10, Tryd.ntmps10
  go_wp2
  go_region
  go_wp2_with fail
  refine bodyPost_ret (v := .agg #[.slice (some a) (min (n : Int) 9).toNat c, .string (x.extract 0 (min (x.size : Int) 66).toNat), .int .u64 (m : Int)]) (by simp [results, Tryd.results10, go_sem]) rfl ⟨?_, by go_grown⟩
  rw [HC.out, HM.out]

set_option maxRecDepth 100000 in
set_option maxHeartbeats 400000 in
theorem few_none (x : ByteArray) (m : Nat) (hx : x.size ≤ maxLen) (w : World) :
    Calls Tryd.prog 10 #[.agg #[.slice none 0 0, .string x, .int .u64 (m : Int)]] w fun e w' => e = .returned (.agg #[.slice none 0 0, .string (cutS x 66), .int .u64 (m : Int)]) ∧ Below w.heap.size w w' := by
  unfold maxLen at hx
  have hc : x.extract 0 (min (x.size : Int) 66).toNat = cutS x 66 := cut_min x 66
  have hz0 : min (0 : Int) 9 = 0 := by decide
  have HC := Lib.hid hc
  clear hc
  go_enter Tryd.func10, Tryd.ntmps10
  go_wp2
  go_region
  go_wp2_with fail
  refine bodyPost_ret (v := .agg #[.slice none 0 0, .string (x.extract 0 (min (x.size : Int) 66).toNat), .int .u64 (m : Int)]) (by simp [results, Tryd.results10, go_sem]) rfl ⟨?_, by go_grown⟩
  rw [HC.out]

set_option maxRecDepth 100000 in
set_option maxHeartbeats 400000 in
theorem alive_any (w : World) (hF : FirstAt w) (hK : KeysAt w) :
    Calls Tryd.prog 16 #[] w fun e w' => e = .returned (.bool true) ∧ Below w.heap.size w w' := by
  have ho := of_any ⟨#[97, 98, 99]⟩ (by decide) w hF hK
  have hl : (sumL (mixAll firstS (bl ⟨#[97, 98, 99]⟩)) (restOf (bl ⟨#[97, 98, 99]⟩)) 3).length = 32 := sumL_length _ _ _
  have he : sumL (mixAll firstS (bl ⟨#[97, 98, 99]⟩)) (restOf (bl ⟨#[97, 98, 99]⟩)) 3 = sumL firstS [97, 98, 99] 3 := rfl
  have hb := abc_bytes
  rw [← he] at hb
  change Calls _ _ _ _ _ at ho
  obtain ⟨s, hs⟩ : ∃ s, strL (sumL (mixAll firstS (bl ⟨#[97, 98, 99]⟩)) (restOf (bl ⟨#[97, 98, 99]⟩)) (ByteArray.size ⟨#[97, 98, 99]⟩)) = s := ⟨_, rfl⟩
  have hs' : strL (sumL (mixAll firstS (bl ⟨#[97, 98, 99]⟩)) (restOf (bl ⟨#[97, 98, 99]⟩)) 3) = s := hs
  have hsz : s.size = 32 := by rw [← hs', strL_size, hl]
  have hbs : bl s = sumL (mixAll firstS (bl ⟨#[97, 98, 99]⟩)) (restOf (bl ⟨#[97, 98, 99]⟩)) 3 := by rw [← hs', bl_strL]
  rw [← hbs] at hb
  have g0 : s[0] = 186 := by
    rw [← bl_get s 0 (by omega)]
    have := congrArg (fun l => l.getD 0 0) hb
    simpa [List.getElem?_take] using this
  have g1 : s[1] = 120 := by
    rw [← bl_get s 1 (by omega)]
    have := congrArg (fun l => l.getD 1 0) hb
    simpa [List.getElem?_take] using this
  rw [hs] at ho
  have HO := Lib.hid ho
  clear ho hl he hb hs hs' hbs
  have z : (s.size : Int) = 32 := by omega
  have b0 : ((s.size : Int) == 32) = true := by rw [z]; rfl
  have l0 : (0 : Int) < (s.size : Int) := by omega
  have l1 : (1 : Int) < (s.size : Int) := by omega
  have q0 : ((s[0].toNat : Nat) : Int) = 186 := by rw [g0]; rfl
  have q1 : ((s[1].toNat : Nat) : Int) = 120 := by rw [g1]; rfl
  clear z g0 g1
  go_enter Tryd.func16, Tryd.ntmps16
  go_wp2_with fail
  refine HO.out.mono ?_
  rintro e w1 ⟨rfl, hb1⟩
  go_wp2_with fail
  go_ret
  exact ⟨rfl, hb1⟩
end Go.Proofs.YtohoenkdfconpaaDoor
