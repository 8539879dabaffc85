/- Digits of a text tell the number that its bytes tell. Nothing of the program's runs stands here. -/
import Derived.Test.YtccjhlipcgpkmaaDoorRefi
import Derived.Test.YtccjhlipcgpkmaaDoorLe
namespace Go.Proofs.YtccjhlipcgpkmaaDoor
open Go.RowKit Go.PlainAid

theorem digs_small (s : ByteArray) (k : Nat) : Small (digs s k) := by
  intro d hd
  obtain ⟨i, -, rfl⟩ := List.mem_map.1 hd
  have a1 := bt_nonneg s (2 * i); have a2 := bt_le s (2 * i); have a3 := bt_nonneg s (2 * i + 1); have a4 := bt_le s (2 * i + 1)
  unfold dig
  omega
theorem digs_val (s : ByteArray) (hs : s.size = 32) : valD (digs s 16) = leNum s := by
  rw [leNum_bt s hs]
  have e : digs s 16 = [dig s 0, dig s 1, dig s 2, dig s 3, dig s 4, dig s 5, dig s 6, dig s 7, dig s 8, dig s 9, dig s 10, dig s 11, dig s 12, dig s 13, dig s 14, dig s 15] := rfl
  rw [e]
  simp only [valD, valLE, dig, Nat.reduceMul, Nat.reduceAdd]
  generalize bt s 0 = d0; generalize bt s 1 = d1; generalize bt s 2 = d2; generalize bt s 3 = d3; generalize bt s 4 = d4; generalize bt s 5 = d5; generalize bt s 6 = d6; generalize bt s 7 = d7
  generalize bt s 8 = d8; generalize bt s 9 = d9; generalize bt s 10 = d10; generalize bt s 11 = d11; generalize bt s 12 = d12; generalize bt s 13 = d13; generalize bt s 14 = d14; generalize bt s 15 = d15
  generalize bt s 16 = d16; generalize bt s 17 = d17; generalize bt s 18 = d18; generalize bt s 19 = d19; generalize bt s 20 = d20; generalize bt s 21 = d21; generalize bt s 22 = d22; generalize bt s 23 = d23
  generalize bt s 24 = d24; generalize bt s 25 = d25; generalize bt s 26 = d26; generalize bt s 27 = d27; generalize bt s 28 = d28; generalize bt s 29 = d29; generalize bt s 30 = d30; generalize bt s 31 = d31
  omega
theorem pow_left (x : Int) : ∀ n : Nat, (x % Pr) ^ n % Pr = x ^ n % Pr
  | 0 => by simp
  | n + 1 => by rw [Int.pow_succ, Int.pow_succ, Int.mul_emod, pow_left x n, Int.emod_emod, ← Int.mul_emod]

set_option maxHeartbeats 1000000 in
theorem cut_any (s : ByteArray) (_hs : s.size ≤ maxLen) (w : World) :
    Calls Tryd.prog 9 #[.string s] w fun e w' => ∃ t : ByteArray, e = .returned (.string t) ∧ t.size ≤ 34 ∧ w = w' := by
  go_enter Tryd.func9, Tryd.ntmps9
  go_wp2_with fail
  all_goals go_ret
  · exact ⟨_, rfl, by rw [ByteArray.size_extract]; omega, rfl⟩
  · exact ⟨_, rfl, by omega, rfl⟩
end Go.Proofs.YtccjhlipcgpkmaaDoor
