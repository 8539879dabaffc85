/-
  DERIVED. GIVEN WITH THE SEED: THE CARDS: each row of YtnfhfibbaeiglaaGreatDoorRows.lean that lists a variable, with what it lists TIED to the program's text (the seventh form; the later family's looks); each row that meets fmt, with fmt's text TOLD by the authors' own Lean function (tested against real Go, not proved from fmt's source: count such statements apart). THE CARD IS WHAT COUNTS. Prove the row's statement (the work); the ties are given (YtnfhfibbaeiglaaGreatDoorTie.lean); close each card by the builder's one call (the guide's Derived/Test/ToyasCard.lean, 'card_holds'). Laid BY PROGRAM, IN A SANDBOX (cutbox-door.mjs). By AI agents, Wed Nov 11 2026. No macro, syntax, notation, axiom, sorry.
-/
import Derived.Test.YtnfhfibbaeiglaaGreatDoorRows
import GoSem.ClaimSeven
namespace Go.Proofs.YtnfhfibbaeiglaaGreatDoor
namespace Rows

/-- THE TIED CARD OF 'demurrallaw11.HelloTells'. -/
def helloTellsCard : Claim7 := { stood := { row := helloTellsRow, standIns := [], harness := (true, "583b4a9a9216a55367d380bc4852e54412b887290c0b55cf23419d9dd9cd2489"), looks := false }, kinds := [], alts := [], laidByText := true, laidKinds := [.data, .wider, .data], laidTests := true, laidLooks := .later }
def HelloTellsCardSaid : Prop := Claim7.holds Tryz.pinned (.plain (OpenSpec.ofChange helloTellsSpec)) helloTellsCard

/-- THE TIED CARD OF 'demurrallaw11.HelloAnswers'. -/
def helloAnswersCard : Claim7 := { stood := { row := helloAnswersRow, standIns := [], harness := (true, "583b4a9a9216a55367d380bc4852e54412b887290c0b55cf23419d9dd9cd2489"), looks := false }, kinds := [], alts := [], laidByText := true, laidKinds := [.data, .wider, .data], laidTests := true, laidLooks := .later }
def HelloAnswersCardSaid : Prop := Claim7.holds Tryz.pinned (.plain (OpenSpec.ofChange helloAnswersSpec)) helloAnswersCard

/-- THE SECOND FORM's CARD OF 'demurrallaw11.HelloTells'. -/
def helloTellsUptoCard : Claim7 := { stood := { row := helloTellsUptoRow, standIns := [], harness := (true, "583b4a9a9216a55367d380bc4852e54412b887290c0b55cf23419d9dd9cd2489"), looks := false }, kinds := [], alts := [], laidByText := true, laidKinds := [.data, .wider, .data], laidTests := true, laidLooks := .later }
def HelloTellsUptoCardSaid : Prop := Claim7.holds Tryz.pinned (.plain (OpenSpec.upto helloTellsSpec)) helloTellsUptoCard

/-- THE SECOND FORM's CARD OF 'demurrallaw11.HelloAnswers'. -/
def helloAnswersUptoCard : Claim7 := { stood := { row := helloAnswersUptoRow, standIns := [], harness := (true, "583b4a9a9216a55367d380bc4852e54412b887290c0b55cf23419d9dd9cd2489"), looks := false }, kinds := [], alts := [], laidByText := true, laidKinds := [.data, .wider, .data], laidTests := true, laidLooks := .later }
def HelloAnswersUptoCardSaid : Prop := Claim7.holds Tryz.pinned (.plain (OpenSpec.upto helloAnswersSpec)) helloAnswersUptoCard
end Rows
end Go.Proofs.YtnfhfibbaeiglaaGreatDoor
