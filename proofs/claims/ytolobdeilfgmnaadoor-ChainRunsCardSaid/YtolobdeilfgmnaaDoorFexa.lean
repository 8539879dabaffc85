/- What is expanded, as plain lists; the contracts of derive's Split. -/
import Derived.Test.YtolobdeilfgmnaaDoorFrow
namespace Go.Proofs.YtolobdeilfgmnaaDoor
open Go.RowKit
set_option maxRecDepth 100000
theorem flat_row (k wd : List UInt8) (n : Nat) : (flat (rowT k wd n)).length = 32 * n := by
  induction n with
  | zero => rfl
  | succ n ih =>
    unfold flat at *
    rw [rowT, List.flatMap_append, List.length_append, ih, List.flatMap_singleton, bl_strL, lastT]
    rw [show (tagL k (lastT k wd n ++ wd ++ [UInt8.ofNat (n + 1)])).length = 32 from ofL_length _]
    omega
/-- a secret expanded to m bytes -/
def expL (k wd : List UInt8) (m : Nat) : List UInt8 := (flat (rowT k wd ((m + 31) / 32))).take m
theorem expL_length (k wd : List UInt8) (m : Nat) : (expL k wd m).length = m := by
  unfold expL
  rw [List.length_take, flat_row]; omega

set_option maxHeartbeats 1000000 in
theorem split_bad (k wd : ByteArray) (i : Int) (hi : i < 0 ∨ 255 < i) (w : World) :
    Calls Tryd.prog 25 #[.string k, .string wd, .int .i64 i] w fun e w' => e = .returned (.tuple #[.slice none 0 0, .int .i64 2]) ∧ w = w' := by
  by_cases h0 : i < 0
  · go_enter Tryd.func25, Tryd.ntmps25
    go_wp2
    go_ret2
    exact ⟨rfl, rfl⟩
  · have h1 : 255 < i := by omega
    have b0 : decide (i < 0) = false := by simpa using h0
    have b1 : decide (255 < i) = true := by simpa using h1
    go_enter Tryd.func25, Tryd.ntmps25
    go_wp2
    go_ret2
    exact ⟨rfl, rfl⟩
set_option maxHeartbeats 1000000 in
theorem split_good (k wd : ByteArray) (n : Nat) (hk : k.size ≤ 1000000) (hwd : wd.size ≤ 80000) (hn : n ≤ 255) (w : World) (hF : FirstAt w) (hK : KeysAt w) :
    Calls Tryd.prog 25 #[.string k, .string wd, .int .i64 (n : Int)] w fun e w' => ∃ g cap, e = .returned (.tuple #[.slice (some ⟨g, 0, none⟩) n cap, .int .i64 0]) ∧ StrsAt w' (.slice (some ⟨g, 0, none⟩) n cap) (rowT (bl k) (bl wd) n) ∧ n ≤ cap ∧ Below w.heap.size w w' := by
  have HR := Lib.hid (row_any k wd n hk hwd hn w hF hK)
  have b0 : decide ((n : Int) < 0) = false := by simp
  have b1 : decide (255 < (n : Int)) = false := by simp; omega
  go_enter Tryd.func25, Tryd.ntmps25
  go_wp2_with fail
  refine HR.out.mono ?_
  rintro e w1 ⟨g, cap, rfl, hs, hc, hb⟩
  have HS := Lib.hid hs
  clear HR hs
  go_wp2_with fail
  go_ret2
  exact ⟨g, cap, rfl, HS.out, hc, hb⟩
end Go.Proofs.YtolobdeilfgmnaaDoor