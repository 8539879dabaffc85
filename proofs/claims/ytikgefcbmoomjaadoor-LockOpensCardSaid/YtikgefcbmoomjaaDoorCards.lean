/-
  DERIVED. GIVEN WITH THE SEED: THE CARDS: each row of YtikgefcbmoomjaaDoorRows.lean that lists a variable, with what it lists TIED to the program's text (the seventh form; the later family's looks); each row that meets fmt, with fmt's text TOLD by the authors' own Lean function (tested against real Go, not proved from fmt's source: count such statements apart). THE CARD IS WHAT COUNTS. Prove the row's statement (the work); the ties are given (YtikgefcbmoomjaaDoorTie.lean); close each card by the builder's one call (the guide's Derived/Test/ToyasCard.lean, 'card_holds'). Laid BY PROGRAM, IN A SANDBOX (cutbox-door.mjs). By AI agents, Wed Nov 11 2026. No macro, syntax, notation, axiom, sorry.
-/
import Derived.Test.YtikgefcbmoomjaaDoorRows
import GoSem.ClaimSeven
namespace Go.Proofs.YtikgefcbmoomjaaDoor
namespace Rows

/-- THE TIED CARD OF 'demurrallaw06.LockTells'. -/
def lockTellsCard : Claim7 := { stood := { row := lockTellsRow, standIns := [], harness := (true, "ea131354a8f74b8ae3ed91ec4544f83d55b2949700c440d19ff39ae5fbea5e39"), looks := false }, kinds := [], alts := [], laidByText := true, laidKinds := [.wider, .data], laidTests := true, laidLooks := .later }
def LockTellsCardSaid : Prop := Claim7.holds Tryd.pinned (.plain (OpenSpec.ofChange lockTellsSpec)) lockTellsCard

/-- THE TIED CARD OF 'demurrallaw06.LockOpens'. -/
def lockOpensCard : Claim7 := { stood := { row := lockOpensRow, standIns := [], harness := (true, "ea131354a8f74b8ae3ed91ec4544f83d55b2949700c440d19ff39ae5fbea5e39"), looks := false }, kinds := [], alts := [], laidByText := true, laidKinds := [.wider, .data], laidTests := true, laidLooks := .later }
def LockOpensCardSaid : Prop := Claim7.holds Tryd.pinned (.plain (OpenSpec.ofChange lockOpensSpec)) lockOpensCard

/-- THE TIED CARD OF 'demurrallaw06.LockProves'. -/
def lockProvesCard : Claim7 := { stood := { row := lockProvesRow, standIns := [], harness := (true, "ea131354a8f74b8ae3ed91ec4544f83d55b2949700c440d19ff39ae5fbea5e39"), looks := false }, kinds := [], alts := [], laidByText := true, laidKinds := [.wider, .data], laidTests := true, laidLooks := .later }
def LockProvesCardSaid : Prop := Claim7.holds Tryd.pinned (.plain (OpenSpec.ofChange lockProvesSpec)) lockProvesCard

/-- THE SECOND FORM's CARD OF 'demurrallaw06.LockTells'. -/
def lockTellsUptoCard : Claim7 := { stood := { row := lockTellsUptoRow, standIns := [], harness := (true, "ea131354a8f74b8ae3ed91ec4544f83d55b2949700c440d19ff39ae5fbea5e39"), looks := false }, kinds := [], alts := [], laidByText := true, laidKinds := [.wider, .data], laidTests := true, laidLooks := .later }
def LockTellsUptoCardSaid : Prop := Claim7.holds Tryd.pinned (.plain (OpenSpec.upto lockTellsSpec)) lockTellsUptoCard

/-- THE SECOND FORM's CARD OF 'demurrallaw06.LockOpens'. -/
def lockOpensUptoCard : Claim7 := { stood := { row := lockOpensUptoRow, standIns := [], harness := (true, "ea131354a8f74b8ae3ed91ec4544f83d55b2949700c440d19ff39ae5fbea5e39"), looks := false }, kinds := [], alts := [], laidByText := true, laidKinds := [.wider, .data], laidTests := true, laidLooks := .later }
def LockOpensUptoCardSaid : Prop := Claim7.holds Tryd.pinned (.plain (OpenSpec.upto lockOpensSpec)) lockOpensUptoCard

/-- THE SECOND FORM's CARD OF 'demurrallaw06.LockProves'. -/
def lockProvesUptoCard : Claim7 := { stood := { row := lockProvesUptoRow, standIns := [], harness := (true, "ea131354a8f74b8ae3ed91ec4544f83d55b2949700c440d19ff39ae5fbea5e39"), looks := false }, kinds := [], alts := [], laidByText := true, laidKinds := [.wider, .data], laidTests := true, laidLooks := .later }
def LockProvesUptoCardSaid : Prop := Claim7.holds Tryd.pinned (.plain (OpenSpec.upto lockProvesSpec)) lockProvesUptoCard
end Rows
end Go.Proofs.YtikgefcbmoomjaaDoor
