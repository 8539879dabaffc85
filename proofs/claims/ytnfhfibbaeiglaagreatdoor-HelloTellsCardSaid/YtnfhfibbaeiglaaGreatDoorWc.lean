/- The reference 11: which keys and points may be. -/
import Derived.Test.YtnfhfibbaeiglaaGreatDoorWb
namespace Go.Proofs.YtnfhfibbaeiglaaGreatDoor
open Go.RowKit Go.Sort
set_option maxRecDepth 100000

set_option maxHeartbeats 1000000 in
theorem mayH_any (a b c d o : ByteArray) (w : World) :
    Calls Tryz.prog 7 #[.string a, .string b, .string c, .string d, .string o] w fun e w' => e = .returned (.bool (decide (mayH a b c d o))) ∧ w = w' := by
  have hn := str_nilH o
  obtain ⟨A, eA⟩ : ∃ A, ((a.size : Int) == 32) = A := ⟨_, rfl⟩
  obtain ⟨B, eB⟩ : ∃ B, ((b.size : Int) == 32) = B := ⟨_, rfl⟩
  obtain ⟨C, eC⟩ : ∃ C, ((c.size : Int) == 32) = C := ⟨_, rfl⟩
  obtain ⟨D, eD⟩ : ∃ D, ((d.size : Int) == 32) = D := ⟨_, rfl⟩
  obtain ⟨O, eO⟩ : ∃ O, ((o.size : Int) == 32) = O := ⟨_, rfl⟩
  obtain ⟨Z, eZ⟩ : ∃ Z, (o.toList == []) = Z := ⟨_, rfl⟩
  have key : decide (mayH a b c d o) = (A && B && C && D && (Z || O)) := by
    rw [← eA, ← eB, ← eC, ← eD, ← eO, ← eZ, hn]
    rw [Bool.eq_iff_iff, decide_eq_true_iff]
    simp only [Bool.and_eq_true, Bool.or_eq_true, beq_iff_eq, decide_eq_true_iff]
    unfold mayH
    omega
  rw [key]
  clear key hn
  go_enter Tryz.func7, Tryz.ntmps7
  cases A
  · (go_wp2_with fail; go_ret; exact ⟨rfl, rfl⟩)
  cases B
  · (go_wp2_with fail; go_ret; exact ⟨rfl, rfl⟩)
  cases C
  · (go_wp2_with fail; go_ret; exact ⟨rfl, rfl⟩)
  cases D
  · (go_wp2_with fail; go_ret; exact ⟨rfl, rfl⟩)
  cases Z
  · cases O
    · (go_wp2_with fail; go_ret; exact ⟨rfl, rfl⟩)
    · (go_wp2_with fail; go_ret; exact ⟨rfl, rfl⟩)
  · (go_wp2_with fail; go_ret; exact ⟨rfl, rfl⟩)
end Go.Proofs.YtnfhfibbaeiglaaGreatDoor
