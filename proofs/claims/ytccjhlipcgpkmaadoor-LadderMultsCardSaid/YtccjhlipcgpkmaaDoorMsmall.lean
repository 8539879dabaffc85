/- The reference's small numbers and its bits. -/
import Derived.Test.YtccjhlipcgpkmaaDoorMrow
import Derived.Test.YtccjhlipcgpkmaaDoorLclampw
namespace Go.Proofs.YtccjhlipcgpkmaaDoor
open Go.RowKit Go.PlainAid

theorem Ints.lit2 (w : World) (base : Nat) (hb : base ≤ w.heap.size) (x y : Int) : Ints (w.alloc (.cells #[.int .i64 x, .int .i64 y] 3)) base (.slice (some ⟨w.heap.size, 0, none⟩) 2 2) [x, y] :=
  World.ownsRow_lit w #[.int .i64 x, .int .i64 y] 2 hb (by decide) rfl
theorem valD_zeros : ∀ k : Nat, valD (List.replicate k 0) = 0
  | 0 => rfl
  | k + 1 => by rw [List.replicate_succ, valD, valD_zeros k]; rfl

set_option maxHeartbeats 1000000 in
theorem refSmall_any (n : Int) (h0 : 0 ≤ n) (h1 : n < 1000000) (w : World) :
    Calls Tryd.prog 49 #[.int .i64 n] w (DigPost n w) := by
  have e1 : n.tmod 65536 = n % 65536 := by rw [Int.tmod_eq_emod_of_nonneg h0]
  have e2 : n.tdiv 65536 = n / 65536 := by rw [Int.tdiv_eq_ediv_of_nonneg h0]
  go_enter Tryd.func49, Tryd.ntmps49
  go_wp2_with fail
  go_loopw [3] (OneR w n) (fun v _ => 16 - lenOf v)
  case atStart => exact ⟨0, _, _, by omega, rfl, Ints.lit2 w _ (Nat.le_refl _) _ _, by go_grown⟩
  case round =>
    obtain ⟨k, g, cap, hk, rfl, hI, hB⟩ := hrel
    have hsz := hB.size
    by_cases hlt : k < 14
    · have h1 : ((k : Int) + 2 < 16) := by omega
      go_wp2_with (at_builtin; refine append_int rfl _ _ rfl w.heap.size _ (n % 65536 :: n / 65536 :: List.replicate k 0) 0 wr.heap.size rfl ?c0 rfl ?c1 ?c2 ?c3 ?_)
      case c0 => exact hI.alloc _
      case c1 => simp
      case c2 => simp; omega
      case c3 => simp; omega
      intro g' cap' w' hI' hg'
      have hB' := hI.below_grown hB hsz hg'
      clear hI hg' hB
      go_wp2_with fail
      refine ⟨⟨k + 1, g', cap', by omega, by simp, ?_, hB'⟩, by simp [lenOf]; omega⟩
      rw [List.replicate_succ']
      simpa using hI'
    · obtain rfl : k = 14 := by omega
      go_wp2_with fail
      go_ret
      refine ⟨_, rfl, ⟨_, by simp, ?_, ?_, hI.at (by simp)⟩, hB⟩
      · intro d hd
        simp only [List.mem_cons, List.mem_replicate] at hd
        rcases hd with rfl | rfl | ⟨-, rfl⟩ <;> omega
      · simp only [valD, valD_zeros]
        omega
end Go.Proofs.YtccjhlipcgpkmaaDoor
