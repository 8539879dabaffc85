/-
  DERIVED. GIVEN WITH THE SEED: THE CARDS: each row of YtccjhlipcgpkmaaDoorRows.lean that lists a variable, with what it lists TIED to the program's text (the seventh form; the later family's looks); each row that meets fmt, with fmt's text TOLD by the authors' own Lean function (tested against real Go, not proved from fmt's source: count such statements apart). THE CARD IS WHAT COUNTS. Prove the row's statement (the work); the ties are given (YtccjhlipcgpkmaaDoorTie.lean); close each card by the builder's one call (the guide's Derived/Test/ToyasCard.lean, 'card_holds'). Laid BY PROGRAM, IN A SANDBOX (cutbox-door.mjs). By AI agents, Wed Nov 11 2026. No macro, syntax, notation, axiom, sorry.
-/
import Derived.Test.YtccjhlipcgpkmaaDoorRows
import GoSem.ClaimSeven
namespace Go.Proofs.YtccjhlipcgpkmaaDoor
namespace Rows

/-- THE TIED CARD OF 'demurrallaw01.LimbTells'. -/
def limbTellsCard : Claim7 := { stood := { row := limbTellsRow, standIns := [], harness := (true, "79459261f03765efedfb4b8c752eabdb01de84b1b878814a111007a5a634553c"), looks := false }, kinds := [], alts := [], laidByText := true, laidKinds := [.data], laidTests := true, laidLooks := .later }
def LimbTellsCardSaid : Prop := Claim7.holds Tryd.pinned (.plain (OpenSpec.ofChange limbTellsSpec)) limbTellsCard

/-- THE TIED CARD OF 'demurrallaw01.LimbInverses'. -/
def limbInversesCard : Claim7 := { stood := { row := limbInversesRow, standIns := [], harness := (true, "79459261f03765efedfb4b8c752eabdb01de84b1b878814a111007a5a634553c"), looks := false }, kinds := [], alts := [], laidByText := true, laidKinds := [.data], laidTests := true, laidLooks := .later }
def LimbInversesCardSaid : Prop := Claim7.holds Tryd.pinned (.plain (OpenSpec.ofChange limbInversesSpec)) limbInversesCard

/-- THE TIED CARD OF 'demurrallaw01.LimbField'. -/
def limbFieldCard : Claim7 := { stood := { row := limbFieldRow, standIns := [], harness := (true, "79459261f03765efedfb4b8c752eabdb01de84b1b878814a111007a5a634553c"), looks := false }, kinds := [], alts := [], laidByText := true, laidKinds := [.data], laidTests := true, laidLooks := .later }
def LimbFieldCardSaid : Prop := Claim7.holds Tryd.pinned (.plain (OpenSpec.ofChange limbFieldSpec)) limbFieldCard

/-- THE TIED CARD OF 'demurrallaw02.LadderMults'. -/
def ladderMultsCard : Claim7 := { stood := { row := ladderMultsRow, standIns := [], harness := (true, "79459261f03765efedfb4b8c752eabdb01de84b1b878814a111007a5a634553c"), looks := false }, kinds := [], alts := [], laidByText := true, laidKinds := [.data], laidTests := true, laidLooks := .later }
def LadderMultsCardSaid : Prop := Claim7.holds Tryd.pinned (.plain (OpenSpec.ofChange ladderMultsSpec)) ladderMultsCard

/-- THE TIED CARD OF 'demurrallaw02.LadderShares'. -/
def ladderSharesCard : Claim7 := { stood := { row := ladderSharesRow, standIns := [], harness := (true, "79459261f03765efedfb4b8c752eabdb01de84b1b878814a111007a5a634553c"), looks := false }, kinds := [], alts := [], laidByText := true, laidKinds := [.data], laidTests := true, laidLooks := .later }
def LadderSharesCardSaid : Prop := Claim7.holds Tryd.pinned (.plain (OpenSpec.ofChange ladderSharesSpec)) ladderSharesCard

/-- THE TIED CARD OF 'demurrallaw02.LadderClamps'. -/
def ladderClampsCard : Claim7 := { stood := { row := ladderClampsRow, standIns := [], harness := (true, "79459261f03765efedfb4b8c752eabdb01de84b1b878814a111007a5a634553c"), looks := false }, kinds := [], alts := [], laidByText := true, laidKinds := [.data], laidTests := true, laidLooks := .later }
def LadderClampsCardSaid : Prop := Claim7.holds Tryd.pinned (.plain (OpenSpec.ofChange ladderClampsSpec)) ladderClampsCard

/-- THE SECOND FORM's CARD OF 'demurrallaw01.LimbTells'. -/
def limbTellsUptoCard : Claim7 := { stood := { row := limbTellsUptoRow, standIns := [], harness := (true, "79459261f03765efedfb4b8c752eabdb01de84b1b878814a111007a5a634553c"), looks := false }, kinds := [], alts := [], laidByText := true, laidKinds := [.data], laidTests := true, laidLooks := .later }
def LimbTellsUptoCardSaid : Prop := Claim7.holds Tryd.pinned (.plain (OpenSpec.upto limbTellsSpec)) limbTellsUptoCard

/-- THE SECOND FORM's CARD OF 'demurrallaw01.LimbInverses'. -/
def limbInversesUptoCard : Claim7 := { stood := { row := limbInversesUptoRow, standIns := [], harness := (true, "79459261f03765efedfb4b8c752eabdb01de84b1b878814a111007a5a634553c"), looks := false }, kinds := [], alts := [], laidByText := true, laidKinds := [.data], laidTests := true, laidLooks := .later }
def LimbInversesUptoCardSaid : Prop := Claim7.holds Tryd.pinned (.plain (OpenSpec.upto limbInversesSpec)) limbInversesUptoCard

/-- THE SECOND FORM's CARD OF 'demurrallaw01.LimbField'. -/
def limbFieldUptoCard : Claim7 := { stood := { row := limbFieldUptoRow, standIns := [], harness := (true, "79459261f03765efedfb4b8c752eabdb01de84b1b878814a111007a5a634553c"), looks := false }, kinds := [], alts := [], laidByText := true, laidKinds := [.data], laidTests := true, laidLooks := .later }
def LimbFieldUptoCardSaid : Prop := Claim7.holds Tryd.pinned (.plain (OpenSpec.upto limbFieldSpec)) limbFieldUptoCard

/-- THE SECOND FORM's CARD OF 'demurrallaw02.LadderMults'. -/
def ladderMultsUptoCard : Claim7 := { stood := { row := ladderMultsUptoRow, standIns := [], harness := (true, "79459261f03765efedfb4b8c752eabdb01de84b1b878814a111007a5a634553c"), looks := false }, kinds := [], alts := [], laidByText := true, laidKinds := [.data], laidTests := true, laidLooks := .later }
def LadderMultsUptoCardSaid : Prop := Claim7.holds Tryd.pinned (.plain (OpenSpec.upto ladderMultsSpec)) ladderMultsUptoCard

/-- THE SECOND FORM's CARD OF 'demurrallaw02.LadderShares'. -/
def ladderSharesUptoCard : Claim7 := { stood := { row := ladderSharesUptoRow, standIns := [], harness := (true, "79459261f03765efedfb4b8c752eabdb01de84b1b878814a111007a5a634553c"), looks := false }, kinds := [], alts := [], laidByText := true, laidKinds := [.data], laidTests := true, laidLooks := .later }
def LadderSharesUptoCardSaid : Prop := Claim7.holds Tryd.pinned (.plain (OpenSpec.upto ladderSharesSpec)) ladderSharesUptoCard

/-- THE SECOND FORM's CARD OF 'demurrallaw02.LadderClamps'. -/
def ladderClampsUptoCard : Claim7 := { stood := { row := ladderClampsUptoRow, standIns := [], harness := (true, "79459261f03765efedfb4b8c752eabdb01de84b1b878814a111007a5a634553c"), looks := false }, kinds := [], alts := [], laidByText := true, laidKinds := [.data], laidTests := true, laidLooks := .later }
def LadderClampsUptoCardSaid : Prop := Claim7.holds Tryd.pinned (.plain (OpenSpec.upto ladderClampsSpec)) ladderClampsUptoCard
end Rows
end Go.Proofs.YtccjhlipcgpkmaaDoor
