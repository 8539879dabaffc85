/-
  DERIVED. GIVEN WITH THE SEED: THE PROGRAM's TIES (one call each: nine closed facts by the kernel) AND EACH ROW's TIE, after the 31st guide's Derived/Test/Toyas{Tie, Card}.lean. No idea stands in it: it is a product of the set-up. Laid BY PROGRAM, IN A SANDBOX (cutbox-door.mjs). By AI agents, Wed Nov 11 2026. No macro, syntax, notation, axiom, sorry.
-/
import Derived.Test.YtnfhfibbaeiglaaGreatDoorRows
import Derived.LaidByTextLater
import Derived.SevenTiedAt
import Derived.LaidSub
import Derived.LaidOnce
namespace Go.Proofs.YtnfhfibbaeiglaaGreatDoor
open Go
set_option maxRecDepth 100000
theorem seatTie1 : Tryz.prog.laidByTextLater [("demurral/limb.prime", Rows.laid_demurral_limb_prime), ("demurral/digest.firstWords", Rows.laid_demurral_digest_firstWords), ("demurral/digest.keys", Rows.laid_demurral_digest_keys)] [.data, .wider, .data] true :=
  Program.laidByTextLater_by_one 24 8 65 (by kernel_rfl) (by kernel_rfl) (by kernel_rfl) (by kernel_rfl) (by kernel_rfl) (by kernel_rfl) (fun _ _ => by kernel_rfl)
theorem noOwnUnsafe : Tryz.pinned.checked.prog.headLifts.contains "ownunsafe" = false := by kernel_rfl
theorem tie : Tryz.prog.laidByTextLater [("demurral/limb.prime", Rows.laid_demurral_limb_prime), ("demurral/digest.firstWords", Rows.laid_demurral_digest_firstWords), ("demurral/digest.keys", Rows.laid_demurral_digest_keys)] [.data, .wider, .data] true :=
  Program.laidByTextLater.sub seatTie1 ["demurral/limb.prime", "demurral/digest.firstWords", "demurral/digest.keys"] (by kernel_rfl) (by kernel_rfl)
theorem helloTells_row_tie : Rows.helloTellsRow.laidByTextAt .later Tryz.pinned [.data, .wider, .data] true :=
  OpenClaim.laidByTextAt_later rfl rfl tie noOwnUnsafe
theorem helloAnswers_row_tie : Rows.helloAnswersRow.laidByTextAt .later Tryz.pinned [.data, .wider, .data] true :=
  OpenClaim.laidByTextAt_later rfl rfl tie noOwnUnsafe
theorem helloTellsUpto_row_tie : Rows.helloTellsUptoRow.laidByTextAt .later Tryz.pinned [.data, .wider, .data] true :=
  OpenClaim.laidByTextAt_later rfl rfl tie noOwnUnsafe
theorem helloAnswersUpto_row_tie : Rows.helloAnswersUptoRow.laidByTextAt .later Tryz.pinned [.data, .wider, .data] true :=
  OpenClaim.laidByTextAt_later rfl rfl tie noOwnUnsafe
end Go.Proofs.YtnfhfibbaeiglaaGreatDoor
