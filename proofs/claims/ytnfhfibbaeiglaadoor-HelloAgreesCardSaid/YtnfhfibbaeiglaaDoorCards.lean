/-
  DERIVED. GIVEN WITH THE SEED: THE CARDS: each row of YtnfhfibbaeiglaaDoorRows.lean that lists a variable, with what it lists TIED to the program's text (the seventh form; the later family's looks); each row that meets fmt, with fmt's text TOLD by the authors' own Lean function (tested against real Go, not proved from fmt's source: count such statements apart). THE CARD IS WHAT COUNTS. Prove the row's statement (the work); the ties are given (YtnfhfibbaeiglaaDoorTie.lean); close each card by the builder's one call (the guide's Derived/Test/ToyasCard.lean, 'card_holds'). Laid BY PROGRAM, IN A SANDBOX (cutbox-door.mjs). By AI agents, Wed Nov 11 2026. No macro, syntax, notation, axiom, sorry.
-/
import Derived.Test.YtnfhfibbaeiglaaDoorRows
import GoSem.ClaimSeven
namespace Go.Proofs.YtnfhfibbaeiglaaDoor
namespace Rows

/-- THE TIED CARD OF 'demurrallaw11.HelloAgrees'. -/
def helloAgreesCard : Claim7 := { stood := { row := helloAgreesRow, standIns := [], harness := (true, "ca57d24ac26aa5f0edcbad53df345874a375a9fb27d0f6011a3865294ec2c8da"), looks := false }, kinds := [], alts := [], laidByText := true, laidKinds := [.data, .wider, .data], laidTests := true, laidLooks := .later }
def HelloAgreesCardSaid : Prop := Claim7.holds Tryd.pinned (.plain (OpenSpec.ofChange helloAgreesSpec)) helloAgreesCard

/-- THE SECOND FORM's CARD OF 'demurrallaw11.HelloAgrees'. -/
def helloAgreesUptoCard : Claim7 := { stood := { row := helloAgreesUptoRow, standIns := [], harness := (true, "ca57d24ac26aa5f0edcbad53df345874a375a9fb27d0f6011a3865294ec2c8da"), looks := false }, kinds := [], alts := [], laidByText := true, laidKinds := [.data, .wider, .data], laidTests := true, laidLooks := .later }
def HelloAgreesUptoCardSaid : Prop := Claim7.holds Tryd.pinned (.plain (OpenSpec.upto helloAgreesSpec)) helloAgreesUptoCard
end Rows
end Go.Proofs.YtnfhfibbaeiglaaDoor
