/-
  DERIVED. GIVEN WITH THE SEED: THE CARDS: each row of YtfkfadcfafbmmaaDoorRows.lean that lists a variable, with what it lists TIED to the program's text (the seventh form; the later family's looks); each row that meets fmt, with fmt's text TOLD by the authors' own Lean function (tested against real Go, not proved from fmt's source: count such statements apart). THE CARD IS WHAT COUNTS. Prove the row's statement (the work); the ties are given (YtfkfadcfafbmmaaDoorTie.lean); close each card by the builder's one call (the guide's Derived/Test/ToyasCard.lean, 'card_holds'). Laid BY PROGRAM, IN A SANDBOX (cutbox-door.mjs). By AI agents, Wed Nov 11 2026. No macro, syntax, notation, axiom, sorry.
-/
import Derived.Test.YtfkfadcfafbmmaaDoorRows
import GoSem.ClaimSeven
namespace Go.Proofs.YtfkfadcfafbmmaaDoor
namespace Rows

/-- THE TIED CARD OF 'demurrallaw12.SkippedFills'. -/
def skippedFillsCard : Claim7 := { stood := { row := skippedFillsRow, standIns := [], harness := (true, "1b8329f98d71c22aa7618d0cdceb822381364e4ba4995ba6338b5bf898375528"), looks := false }, kinds := [], alts := [], laidByText := true, laidKinds := [.wider, .data], laidTests := true, laidLooks := .later }
def SkippedFillsCardSaid : Prop := Claim7.holds Tryd.pinned (.plain (OpenSpec.ofChange skippedFillsSpec)) skippedFillsCard

/-- THE TIED CARD OF 'demurrallaw12.SkippedParts'. -/
def skippedPartsCard : Claim7 := { stood := { row := skippedPartsRow, standIns := [], harness := (true, "1b8329f98d71c22aa7618d0cdceb822381364e4ba4995ba6338b5bf898375528"), looks := false }, kinds := [], alts := [], laidByText := true, laidKinds := [.wider, .data], laidTests := true, laidLooks := .later }
def SkippedPartsCardSaid : Prop := Claim7.holds Tryd.pinned (.plain (OpenSpec.ofChange skippedPartsSpec)) skippedPartsCard

/-- THE SECOND FORM's CARD OF 'demurrallaw12.SkippedFills'. -/
def skippedFillsUptoCard : Claim7 := { stood := { row := skippedFillsUptoRow, standIns := [], harness := (true, "1b8329f98d71c22aa7618d0cdceb822381364e4ba4995ba6338b5bf898375528"), looks := false }, kinds := [], alts := [], laidByText := true, laidKinds := [.wider, .data], laidTests := true, laidLooks := .later }
def SkippedFillsUptoCardSaid : Prop := Claim7.holds Tryd.pinned (.plain (OpenSpec.upto skippedFillsSpec)) skippedFillsUptoCard

/-- THE SECOND FORM's CARD OF 'demurrallaw12.SkippedParts'. -/
def skippedPartsUptoCard : Claim7 := { stood := { row := skippedPartsUptoRow, standIns := [], harness := (true, "1b8329f98d71c22aa7618d0cdceb822381364e4ba4995ba6338b5bf898375528"), looks := false }, kinds := [], alts := [], laidByText := true, laidKinds := [.wider, .data], laidTests := true, laidLooks := .later }
def SkippedPartsUptoCardSaid : Prop := Claim7.holds Tryd.pinned (.plain (OpenSpec.upto skippedPartsSpec)) skippedPartsUptoCard
end Rows
end Go.Proofs.YtfkfadcfafbmmaaDoor
