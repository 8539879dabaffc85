/- The reference's bit of a key, and its exchange of the points. -/
import Derived.Test.YtccjhlipcgpkmaaDoorMsmall
namespace Go.Proofs.YtccjhlipcgpkmaaDoor
open Go.RowKit Go.PlainAid

def BitRel (s : ByteArray) (i : Nat) (w : World) (n j : Value) (wr : World) : Prop := ∃ k : Nat, k ≤ i % 8 ∧ n = .int .i64 (bt s (i / 8) / 2 ^ k) ∧ j = .int .i64 k ∧ wr = w
theorem half_div (b : Int) (k : Nat) : b / 2 ^ k / 2 = b / 2 ^ (k + 1) := by
  rw [Int.pow_succ, Int.ediv_ediv_of_nonneg (Int.le_of_lt (Int.pow_pos (by omega)))]

set_option maxHeartbeats 1000000 in
theorem refBit_any (s : ByteArray) (hs : s.size = 32) (i : Nat) (hi : i < 256) (w : World) :
    Calls Tryd.prog 50 #[.string s, .int .i64 i] w fun e w' => e = .returned (.bool (bitAt s i)) ∧ w = w' := by
  have hget := get_bt s
  have hb0 := bt_nonneg s (i / 8); have hb1 := bt_le s (i / 8)
  have hi8 : i / 8 < s.size := by omega
  go_enter Tryd.func50, Tryd.ntmps50
  go_wp2_with fail
  go_loopw [5, 6] (BitRel s i w) (fun _ j _ => 8 - (intOf j).toNat)
  case atStart => exact ⟨0, by omega, by simp, rfl, rfl⟩
  case round =>
    obtain ⟨k, hk, rfl, rfl, rfl⟩ := hrel
    have hd := half_div (bt s (i / 8)) k
    have p : (0 : Int) < 2 ^ k := Int.pow_pos (by omega)
    have d0 : 0 ≤ bt s (i / 8) / 2 ^ k := Int.ediv_nonneg hb0 (by omega)
    have d1 : bt s (i / 8) / 2 ^ k ≤ bt s (i / 8) := Int.ediv_le_self _ hb0
    by_cases hlt : k < i % 8
    · have h1 : ((k : Int) < (i : Int) % 8) := by omega
      generalize hn : bt s (i / 8) / 2 ^ k = n at *
      go_wp2_with fail
      go_roundw
      case rel => exact ⟨k + 1, by omega, by rw [← hd], by simp, rfl⟩
      case measure => simp [intOf]; omega
    · have h1 : ¬ ((k : Int) < (i : Int) % 8) := by omega
      obtain rfl : k = i % 8 := by omega
      have hbit : bitAt s i = decide (bt s (i / 8) / 2 ^ (i % 8) % 2 = 1) := rfl
      generalize hn : bt s (i / 8) / 2 ^ (i % 8) = n at *
      go_wp2_with fail
      go_ret
      exact ⟨rfl, rfl⟩

set_option maxHeartbeats 1000000 in
theorem refSwap_any (ga ca gb cb gc cc gd cd : Nat) (w : World) :
    Calls Tryd.prog 51 #[.agg #[.slice (some ⟨ga, 0, none⟩) 16 ca, .slice (some ⟨gb, 0, none⟩) 16 cb, .slice (some ⟨gc, 0, none⟩) 16 cc, .slice (some ⟨gd, 0, none⟩) 16 cd]] w fun e w' =>
      e = .returned (.agg #[.slice (some ⟨gc, 0, none⟩) 16 cc, .slice (some ⟨gd, 0, none⟩) 16 cd, .slice (some ⟨ga, 0, none⟩) 16 ca, .slice (some ⟨gb, 0, none⟩) 16 cb]) ∧ Below w.heap.size w w' := by
  go_enter Tryd.func51, Tryd.ntmps51
  go_wp2_with fail
  refine bodyPost_ret (v := .agg #[.slice (some ⟨gc, 0, none⟩) 16 cc, .slice (some ⟨gd, 0, none⟩) 16 cd, .slice (some ⟨ga, 0, none⟩) 16 ca, .slice (some ⟨gb, 0, none⟩) 16 cb]) (by simp [results, Tryd.results51, go_sem]) rfl ⟨rfl, by go_grown⟩
end Go.Proofs.YtccjhlipcgpkmaaDoor
