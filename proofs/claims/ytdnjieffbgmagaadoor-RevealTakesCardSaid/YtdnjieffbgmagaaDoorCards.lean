/-
  DERIVED. GIVEN WITH THE SEED: THE CARDS: each row of YtdnjieffbgmagaaDoorRows.lean that lists a variable, with what it lists TIED to the program's text (the seventh form; the later family's looks); each row that meets fmt, with fmt's text TOLD by the authors' own Lean function (tested against real Go, not proved from fmt's source: count such statements apart). THE CARD IS WHAT COUNTS. Prove the row's statement (the work); the ties are given (YtdnjieffbgmagaaDoorTie.lean); close each card by the builder's one call (the guide's Derived/Test/ToyasCard.lean, 'card_holds'). Laid BY PROGRAM, IN A SANDBOX (cutbox-door.mjs). By AI agents, Wed Nov 11 2026. No macro, syntax, notation, axiom, sorry.
-/
import Derived.Test.YtdnjieffbgmagaaDoorRows
import GoSem.ClaimSeven
namespace Go.Proofs.YtdnjieffbgmagaaDoor
namespace Rows

/-- THE TIED CARD OF 'demurrallaw14.RevealTakes'. -/
def revealTakesCard : Claim7 := { stood := { row := revealTakesRow, standIns := [], harness := (true, "b3ebac9e3d563996cb3074b5de26fdec79c4f0f3f78bdfe7238d3bb465ad987c"), looks := false }, kinds := [], alts := [], laidByText := true, laidKinds := [.data], laidTests := true, laidLooks := .later }
def RevealTakesCardSaid : Prop := Claim7.holds Tryd.pinned (.plain (OpenSpec.ofChange revealTakesSpec)) revealTakesCard

/-- THE TIED CARD OF 'demurrallaw14.RevealCovers'. -/
def revealCoversCard : Claim7 := { stood := { row := revealCoversRow, standIns := [], harness := (true, "b3ebac9e3d563996cb3074b5de26fdec79c4f0f3f78bdfe7238d3bb465ad987c"), looks := false }, kinds := [], alts := [], laidByText := true, laidKinds := [.wider, .data, .data], laidTests := true, laidLooks := .later }
def RevealCoversCardSaid : Prop := Claim7.holds Tryd.pinned (.plain (OpenSpec.ofChange revealCoversSpec)) revealCoversCard

/-- THE SECOND FORM's CARD OF 'demurrallaw14.RevealTakes'. -/
def revealTakesUptoCard : Claim7 := { stood := { row := revealTakesUptoRow, standIns := [], harness := (true, "b3ebac9e3d563996cb3074b5de26fdec79c4f0f3f78bdfe7238d3bb465ad987c"), looks := false }, kinds := [], alts := [], laidByText := true, laidKinds := [.data], laidTests := true, laidLooks := .later }
def RevealTakesUptoCardSaid : Prop := Claim7.holds Tryd.pinned (.plain (OpenSpec.upto revealTakesSpec)) revealTakesUptoCard

/-- THE SECOND FORM's CARD OF 'demurrallaw14.RevealCovers'. -/
def revealCoversUptoCard : Claim7 := { stood := { row := revealCoversUptoRow, standIns := [], harness := (true, "b3ebac9e3d563996cb3074b5de26fdec79c4f0f3f78bdfe7238d3bb465ad987c"), looks := false }, kinds := [], alts := [], laidByText := true, laidKinds := [.wider, .data, .data], laidTests := true, laidLooks := .later }
def RevealCoversUptoCardSaid : Prop := Claim7.holds Tryd.pinned (.plain (OpenSpec.upto revealCoversSpec)) revealCoversUptoCard
end Rows
end Go.Proofs.YtdnjieffbgmagaaDoor
