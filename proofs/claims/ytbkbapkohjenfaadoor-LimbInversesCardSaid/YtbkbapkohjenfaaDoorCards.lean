/-
  DERIVED. GIVEN WITH THE SEED: THE CARDS: each row of YtbkbapkohjenfaaDoorRows.lean that lists a variable, with what it lists TIED to the program's text (the seventh form; the later family's looks); each row that meets fmt, with fmt's text TOLD by the authors' own Lean function (tested against real Go, not proved from fmt's source: count such statements apart). THE CARD IS WHAT COUNTS. Prove the row's statement (the work); the ties are given (YtbkbapkohjenfaaDoorTie.lean); close each card by the builder's one call (the guide's Derived/Test/ToyasCard.lean, 'card_holds'). Laid BY PROGRAM, IN A SANDBOX (cutbox-door.mjs). By AI agents, Wed Nov 11 2026. No macro, syntax, notation, axiom, sorry.
-/
import Derived.Test.YtbkbapkohjenfaaDoorRows
import GoSem.ClaimSeven
namespace Go.Proofs.YtbkbapkohjenfaaDoor
namespace Rows

/-- THE TIED CARD OF 'demurrallaw01.LimbTells'. -/
def limbTellsCard : Claim7 := { stood := { row := limbTellsRow, standIns := [], harness := (true, "d21945e7fd956c16808c2d7cf3745c633fddfa81141d58d91697bd6793704902"), looks := false }, kinds := [], alts := [], laidByText := true, laidKinds := [.data], laidTests := true, laidLooks := .later }
def LimbTellsCardSaid : Prop := Claim7.holds Tryd.pinned (.plain (OpenSpec.ofChange limbTellsSpec)) limbTellsCard

/-- THE TIED CARD OF 'demurrallaw01.LimbInverses'. -/
def limbInversesCard : Claim7 := { stood := { row := limbInversesRow, standIns := [], harness := (true, "d21945e7fd956c16808c2d7cf3745c633fddfa81141d58d91697bd6793704902"), looks := false }, kinds := [], alts := [], laidByText := true, laidKinds := [.data], laidTests := true, laidLooks := .later }
def LimbInversesCardSaid : Prop := Claim7.holds Tryd.pinned (.plain (OpenSpec.ofChange limbInversesSpec)) limbInversesCard

/-- THE TIED CARD OF 'demurrallaw01.LimbField'. -/
def limbFieldCard : Claim7 := { stood := { row := limbFieldRow, standIns := [], harness := (true, "d21945e7fd956c16808c2d7cf3745c633fddfa81141d58d91697bd6793704902"), looks := false }, kinds := [], alts := [], laidByText := true, laidKinds := [.data], laidTests := true, laidLooks := .later }
def LimbFieldCardSaid : Prop := Claim7.holds Tryd.pinned (.plain (OpenSpec.ofChange limbFieldSpec)) limbFieldCard

/-- THE SECOND FORM's CARD OF 'demurrallaw01.LimbTells'. -/
def limbTellsUptoCard : Claim7 := { stood := { row := limbTellsUptoRow, standIns := [], harness := (true, "d21945e7fd956c16808c2d7cf3745c633fddfa81141d58d91697bd6793704902"), looks := false }, kinds := [], alts := [], laidByText := true, laidKinds := [.data], laidTests := true, laidLooks := .later }
def LimbTellsUptoCardSaid : Prop := Claim7.holds Tryd.pinned (.plain (OpenSpec.upto limbTellsSpec)) limbTellsUptoCard

/-- THE SECOND FORM's CARD OF 'demurrallaw01.LimbInverses'. -/
def limbInversesUptoCard : Claim7 := { stood := { row := limbInversesUptoRow, standIns := [], harness := (true, "d21945e7fd956c16808c2d7cf3745c633fddfa81141d58d91697bd6793704902"), looks := false }, kinds := [], alts := [], laidByText := true, laidKinds := [.data], laidTests := true, laidLooks := .later }
def LimbInversesUptoCardSaid : Prop := Claim7.holds Tryd.pinned (.plain (OpenSpec.upto limbInversesSpec)) limbInversesUptoCard

/-- THE SECOND FORM's CARD OF 'demurrallaw01.LimbField'. -/
def limbFieldUptoCard : Claim7 := { stood := { row := limbFieldUptoRow, standIns := [], harness := (true, "d21945e7fd956c16808c2d7cf3745c633fddfa81141d58d91697bd6793704902"), looks := false }, kinds := [], alts := [], laidByText := true, laidKinds := [.data], laidTests := true, laidLooks := .later }
def LimbFieldUptoCardSaid : Prop := Claim7.holds Tryd.pinned (.plain (OpenSpec.upto limbFieldSpec)) limbFieldUptoCard
end Rows
end Go.Proofs.YtbkbapkohjenfaaDoor
