/-
  DERIVED. GIVEN WITH THE SEED: THE PROGRAM's TIES (one call each: nine closed facts by the kernel) AND EACH ROW's TIE, after the 31st guide's Derived/Test/Toyas{Tie, Card}.lean. No idea stands in it: it is a product of the set-up. Laid BY PROGRAM, IN A SANDBOX (cutbox-door.mjs). By AI agents, Wed Nov 11 2026. No macro, syntax, notation, axiom, sorry.
-/
import Derived.Test.YthjlhcmdpeinpaaGreatDoorRows
import Derived.LaidByTextLater
import Derived.SevenTiedAt
import Derived.LaidSub
import Derived.LaidOnce
namespace Go.Proofs.YthjlhcmdpeinpaaGreatDoor
open Go
set_option maxRecDepth 100000
theorem seatTie1 : Tryz.prog.laidByTextLater [("demurral/limb.prime", Rows.laid_demurral_limb_prime), ("demurral/digest.firstWords", Rows.laid_demurral_digest_firstWords), ("demurral/digest.keys", Rows.laid_demurral_digest_keys), ("demurral/frame.formats", Rows.laid_demurral_frame_formats)] [.data, .wider, .data, .data] true :=
  Program.laidByTextLater_by_one 32 8 65 (by kernel_rfl) (by kernel_rfl) (by kernel_rfl) (by kernel_rfl) (by kernel_rfl) (by kernel_rfl) (fun _ _ => by kernel_rfl)
theorem noOwnUnsafe : Tryz.pinned.checked.prog.headLifts.contains "ownunsafe" = false := by kernel_rfl
theorem tie : Tryz.prog.laidByTextLater [("demurral/limb.prime", Rows.laid_demurral_limb_prime), ("demurral/digest.firstWords", Rows.laid_demurral_digest_firstWords), ("demurral/digest.keys", Rows.laid_demurral_digest_keys), ("demurral/frame.formats", Rows.laid_demurral_frame_formats)] [.data, .wider, .data, .data] true :=
  Program.laidByTextLater.sub seatTie1 ["demurral/limb.prime", "demurral/digest.firstWords", "demurral/digest.keys", "demurral/frame.formats"] (by kernel_rfl) (by kernel_rfl)
theorem sessionMakes_row_tie : Rows.sessionMakesRow.laidByTextAt .later Tryz.pinned [.data, .wider, .data, .data] true :=
  OpenClaim.laidByTextAt_later rfl rfl tie noOwnUnsafe
theorem sessionSeals_row_tie : Rows.sessionSealsRow.laidByTextAt .later Tryz.pinned [.data, .wider, .data, .data] true :=
  OpenClaim.laidByTextAt_later rfl rfl tie noOwnUnsafe
theorem sessionBoth_row_tie : Rows.sessionBothRow.laidByTextAt .later Tryz.pinned [.data, .wider, .data, .data] true :=
  OpenClaim.laidByTextAt_later rfl rfl tie noOwnUnsafe
theorem sessionMakesUpto_row_tie : Rows.sessionMakesUptoRow.laidByTextAt .later Tryz.pinned [.data, .wider, .data, .data] true :=
  OpenClaim.laidByTextAt_later rfl rfl tie noOwnUnsafe
theorem sessionSealsUpto_row_tie : Rows.sessionSealsUptoRow.laidByTextAt .later Tryz.pinned [.data, .wider, .data, .data] true :=
  OpenClaim.laidByTextAt_later rfl rfl tie noOwnUnsafe
theorem sessionBothUpto_row_tie : Rows.sessionBothUptoRow.laidByTextAt .later Tryz.pinned [.data, .wider, .data, .data] true :=
  OpenClaim.laidByTextAt_later rfl rfl tie noOwnUnsafe
end Go.Proofs.YthjlhcmdpeinpaaGreatDoor
