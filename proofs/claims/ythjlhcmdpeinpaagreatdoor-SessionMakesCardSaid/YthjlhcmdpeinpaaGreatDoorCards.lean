/-
  DERIVED. GIVEN WITH THE SEED: THE CARDS: each row of YthjlhcmdpeinpaaGreatDoorRows.lean that lists a variable, with what it lists TIED to the program's text (the seventh form; the later family's looks); each row that meets fmt, with fmt's text TOLD by the authors' own Lean function (tested against real Go, not proved from fmt's source: count such statements apart). THE CARD IS WHAT COUNTS. Prove the row's statement (the work); the ties are given (YthjlhcmdpeinpaaGreatDoorTie.lean); close each card by the builder's one call (the guide's Derived/Test/ToyasCard.lean, 'card_holds'). Laid BY PROGRAM, IN A SANDBOX (cutbox-door.mjs). By AI agents, Wed Nov 11 2026. No macro, syntax, notation, axiom, sorry.
-/
import Derived.Test.YthjlhcmdpeinpaaGreatDoorRows
import GoSem.ClaimSeven
namespace Go.Proofs.YthjlhcmdpeinpaaGreatDoor
namespace Rows

/-- THE TIED CARD OF 'demurrallaw13.SessionMakes'. -/
def sessionMakesCard : Claim7 := { stood := { row := sessionMakesRow, standIns := [], harness := (true, "63b4f9651ac7922766955c08e0071d436f1609ded04c54928ac59898aeb14c6c"), looks := true }, kinds := [], alts := [], laidByText := true, laidKinds := [.data, .wider, .data, .data], laidTests := true, laidLooks := .later }
def SessionMakesCardSaid : Prop := Claim7.holds Tryz.pinned (.plain (OpenSpec.ofChange sessionMakesSpec)) sessionMakesCard

/-- THE TIED CARD OF 'demurrallaw13.SessionSeals'. -/
def sessionSealsCard : Claim7 := { stood := { row := sessionSealsRow, standIns := [], harness := (true, "63b4f9651ac7922766955c08e0071d436f1609ded04c54928ac59898aeb14c6c"), looks := true }, kinds := [], alts := [], laidByText := true, laidKinds := [.data, .wider, .data, .data], laidTests := true, laidLooks := .later }
def SessionSealsCardSaid : Prop := Claim7.holds Tryz.pinned (.plain (OpenSpec.ofChange sessionSealsSpec)) sessionSealsCard

/-- THE TIED CARD OF 'demurrallaw13.SessionBoth'. -/
def sessionBothCard : Claim7 := { stood := { row := sessionBothRow, standIns := [], harness := (true, "63b4f9651ac7922766955c08e0071d436f1609ded04c54928ac59898aeb14c6c"), looks := true }, kinds := [], alts := [], laidByText := true, laidKinds := [.data, .wider, .data, .data], laidTests := true, laidLooks := .later }
def SessionBothCardSaid : Prop := Claim7.holds Tryz.pinned (.plain (OpenSpec.ofChange sessionBothSpec)) sessionBothCard

/-- THE SECOND FORM's CARD OF 'demurrallaw13.SessionMakes'. -/
def sessionMakesUptoCard : Claim7 := { stood := { row := sessionMakesUptoRow, standIns := [], harness := (true, "63b4f9651ac7922766955c08e0071d436f1609ded04c54928ac59898aeb14c6c"), looks := true }, kinds := [], alts := [], laidByText := true, laidKinds := [.data, .wider, .data, .data], laidTests := true, laidLooks := .later }
def SessionMakesUptoCardSaid : Prop := Claim7.holds Tryz.pinned (.plain (OpenSpec.upto sessionMakesSpec)) sessionMakesUptoCard

/-- THE SECOND FORM's CARD OF 'demurrallaw13.SessionSeals'. -/
def sessionSealsUptoCard : Claim7 := { stood := { row := sessionSealsUptoRow, standIns := [], harness := (true, "63b4f9651ac7922766955c08e0071d436f1609ded04c54928ac59898aeb14c6c"), looks := true }, kinds := [], alts := [], laidByText := true, laidKinds := [.data, .wider, .data, .data], laidTests := true, laidLooks := .later }
def SessionSealsUptoCardSaid : Prop := Claim7.holds Tryz.pinned (.plain (OpenSpec.upto sessionSealsSpec)) sessionSealsUptoCard

/-- THE SECOND FORM's CARD OF 'demurrallaw13.SessionBoth'. -/
def sessionBothUptoCard : Claim7 := { stood := { row := sessionBothUptoRow, standIns := [], harness := (true, "63b4f9651ac7922766955c08e0071d436f1609ded04c54928ac59898aeb14c6c"), looks := true }, kinds := [], alts := [], laidByText := true, laidKinds := [.data, .wider, .data, .data], laidTests := true, laidLooks := .later }
def SessionBothUptoCardSaid : Prop := Claim7.holds Tryz.pinned (.plain (OpenSpec.upto sessionBothSpec)) sessionBothUptoCard
end Rows
end Go.Proofs.YthjlhcmdpeinpaaGreatDoor
