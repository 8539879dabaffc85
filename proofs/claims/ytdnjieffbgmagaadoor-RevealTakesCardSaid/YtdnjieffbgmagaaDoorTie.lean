/-
  DERIVED. GIVEN WITH THE SEED: THE PROGRAM's TIES (one call each: nine closed facts by the kernel) AND EACH ROW's TIE, after the 31st guide's Derived/Test/Toyas{Tie, Card}.lean. No idea stands in it: it is a product of the set-up. Laid BY PROGRAM, IN A SANDBOX (cutbox-door.mjs). By AI agents, Wed Nov 11 2026. No macro, syntax, notation, axiom, sorry.
-/
import Derived.Test.YtdnjieffbgmagaaDoorRows
import Derived.LaidByTextLater
import Derived.SevenTiedAt
import Derived.LaidSub
import Derived.LaidOnce
namespace Go.Proofs.YtdnjieffbgmagaaDoor
open Go
set_option maxRecDepth 100000
theorem seatTie1 : Tryd.prog.laidByTextLater [("demurral/digest.firstWords", Rows.laid_demurral_digest_firstWords), ("demurral/digest.keys", Rows.laid_demurral_digest_keys), ("demurral/frame.formats", Rows.laid_demurral_frame_formats)] [.wider, .data, .data] true :=
  Program.laidByTextLater_by_one 27 8 65 (by kernel_rfl) (by kernel_rfl) (by kernel_rfl) (by kernel_rfl) (by kernel_rfl) (by kernel_rfl) (fun _ _ => by kernel_rfl)
theorem noOwnUnsafe : Tryd.pinned.checked.prog.headLifts.contains "ownunsafe" = false := by kernel_rfl
theorem tie : Tryd.prog.laidByTextLater [("demurral/frame.formats", Rows.laid_demurral_frame_formats)] [.data] true :=
  Program.laidByTextLater.sub seatTie1 ["demurral/frame.formats"] (by kernel_rfl) (by kernel_rfl)
theorem revealTakes_row_tie : Rows.revealTakesRow.laidByTextAt .later Tryd.pinned [.data] true :=
  OpenClaim.laidByTextAt_later rfl rfl tie noOwnUnsafe
theorem tie2 : Tryd.prog.laidByTextLater [("demurral/digest.firstWords", Rows.laid_demurral_digest_firstWords), ("demurral/digest.keys", Rows.laid_demurral_digest_keys), ("demurral/frame.formats", Rows.laid_demurral_frame_formats)] [.wider, .data, .data] true :=
  Program.laidByTextLater.sub seatTie1 ["demurral/digest.firstWords", "demurral/digest.keys", "demurral/frame.formats"] (by kernel_rfl) (by kernel_rfl)
theorem revealCovers_row_tie : Rows.revealCoversRow.laidByTextAt .later Tryd.pinned [.wider, .data, .data] true :=
  OpenClaim.laidByTextAt_later rfl rfl tie2 noOwnUnsafe
theorem revealTakesUpto_row_tie : Rows.revealTakesUptoRow.laidByTextAt .later Tryd.pinned [.data] true :=
  OpenClaim.laidByTextAt_later rfl rfl tie noOwnUnsafe
theorem revealCoversUpto_row_tie : Rows.revealCoversUptoRow.laidByTextAt .later Tryd.pinned [.wider, .data, .data] true :=
  OpenClaim.laidByTextAt_later rfl rfl tie2 noOwnUnsafe
end Go.Proofs.YtdnjieffbgmagaaDoor
