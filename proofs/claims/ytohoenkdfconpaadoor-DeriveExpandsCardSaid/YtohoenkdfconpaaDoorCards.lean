/-
  DERIVED. GIVEN WITH THE SEED: THE CARDS: each row of YtohoenkdfconpaaDoorRows.lean that lists a variable, with what it lists TIED to the program's text (the seventh form; the later family's looks); each row that meets fmt, with fmt's text TOLD by the authors' own Lean function (tested against real Go, not proved from fmt's source: count such statements apart). THE CARD IS WHAT COUNTS. Prove the row's statement (the work); the ties are given (YtohoenkdfconpaaDoorTie.lean); close each card by the builder's one call (the guide's Derived/Test/ToyasCard.lean, 'card_holds'). Laid BY PROGRAM, IN A SANDBOX (cutbox-door.mjs). By AI agents, Wed Nov 11 2026. No macro, syntax, notation, axiom, sorry.
-/
import Derived.Test.YtohoenkdfconpaaDoorRows
import GoSem.ClaimSeven
namespace Go.Proofs.YtohoenkdfconpaaDoor
namespace Rows

/-- THE TIED CARD OF 'demurrallaw03.DigestSums'. -/
def digestSumsCard : Claim7 := { stood := { row := digestSumsRow, standIns := [], harness := (true, "4b05210e65d07326a6ad32799ecd6671482ed8d26d024d36c57cbd6fcb3e9f16"), looks := false }, kinds := [], alts := [], laidByText := true, laidKinds := [.wider, .data], laidTests := true, laidLooks := .later }
def DigestSumsCardSaid : Prop := Claim7.holds Tryd.pinned (.plain (OpenSpec.ofChange digestSumsSpec)) digestSumsCard

/-- THE TIED CARD OF 'demurrallaw03.DigestTexts'. -/
def digestTextsCard : Claim7 := { stood := { row := digestTextsRow, standIns := [], harness := (true, "4b05210e65d07326a6ad32799ecd6671482ed8d26d024d36c57cbd6fcb3e9f16"), looks := false }, kinds := [], alts := [], laidByText := true, laidKinds := [.wider, .data], laidTests := true, laidLooks := .later }
def DigestTextsCardSaid : Prop := Claim7.holds Tryd.pinned (.plain (OpenSpec.ofChange digestTextsSpec)) digestTextsCard

/-- THE TIED CARD OF 'demurrallaw03.DigestParts'. -/
def digestPartsCard : Claim7 := { stood := { row := digestPartsRow, standIns := [], harness := (true, "4b05210e65d07326a6ad32799ecd6671482ed8d26d024d36c57cbd6fcb3e9f16"), looks := false }, kinds := [], alts := [], laidByText := true, laidKinds := [.wider, .data], laidTests := true, laidLooks := .later }
def DigestPartsCardSaid : Prop := Claim7.holds Tryd.pinned (.plain (OpenSpec.ofChange digestPartsSpec)) digestPartsCard

/-- THE TIED CARD OF 'demurrallaw03.DigestNew'. -/
def digestNewCard : Claim7 := { stood := { row := digestNewRow, standIns := [], harness := (true, "4b05210e65d07326a6ad32799ecd6671482ed8d26d024d36c57cbd6fcb3e9f16"), looks := false }, kinds := [], alts := [], laidByText := true, laidKinds := [.wider, .data], laidTests := true, laidLooks := .later }
def DigestNewCardSaid : Prop := Claim7.holds Tryd.pinned (.plain (OpenSpec.ofChange digestNewSpec)) digestNewCard

/-- THE TIED CARD OF 'demurrallaw04.DeriveTags'. -/
def deriveTagsCard : Claim7 := { stood := { row := deriveTagsRow, standIns := [], harness := (true, "4b05210e65d07326a6ad32799ecd6671482ed8d26d024d36c57cbd6fcb3e9f16"), looks := false }, kinds := [], alts := [], laidByText := true, laidKinds := [.wider, .data], laidTests := true, laidLooks := .later }
def DeriveTagsCardSaid : Prop := Claim7.holds Tryd.pinned (.plain (OpenSpec.ofChange deriveTagsSpec)) deriveTagsCard

/-- THE TIED CARD OF 'demurrallaw04.DeriveExpands'. -/
def deriveExpandsCard : Claim7 := { stood := { row := deriveExpandsRow, standIns := [], harness := (true, "4b05210e65d07326a6ad32799ecd6671482ed8d26d024d36c57cbd6fcb3e9f16"), looks := false }, kinds := [], alts := [], laidByText := true, laidKinds := [.wider, .data], laidTests := true, laidLooks := .later }
def DeriveExpandsCardSaid : Prop := Claim7.holds Tryd.pinned (.plain (OpenSpec.ofChange deriveExpandsSpec)) deriveExpandsCard

/-- THE TIED CARD OF 'demurrallaw04.DeriveBegins'. -/
def deriveBeginsCard : Claim7 := { stood := { row := deriveBeginsRow, standIns := [], harness := (true, "4b05210e65d07326a6ad32799ecd6671482ed8d26d024d36c57cbd6fcb3e9f16"), looks := false }, kinds := [], alts := [], laidByText := true, laidKinds := [.wider, .data], laidTests := true, laidLooks := .later }
def DeriveBeginsCardSaid : Prop := Claim7.holds Tryd.pinned (.plain (OpenSpec.ofChange deriveBeginsSpec)) deriveBeginsCard

/-- THE SECOND FORM's CARD OF 'demurrallaw03.DigestSums'. -/
def digestSumsUptoCard : Claim7 := { stood := { row := digestSumsUptoRow, standIns := [], harness := (true, "4b05210e65d07326a6ad32799ecd6671482ed8d26d024d36c57cbd6fcb3e9f16"), looks := false }, kinds := [], alts := [], laidByText := true, laidKinds := [.wider, .data], laidTests := true, laidLooks := .later }
def DigestSumsUptoCardSaid : Prop := Claim7.holds Tryd.pinned (.plain (OpenSpec.upto digestSumsSpec)) digestSumsUptoCard

/-- THE SECOND FORM's CARD OF 'demurrallaw03.DigestTexts'. -/
def digestTextsUptoCard : Claim7 := { stood := { row := digestTextsUptoRow, standIns := [], harness := (true, "4b05210e65d07326a6ad32799ecd6671482ed8d26d024d36c57cbd6fcb3e9f16"), looks := false }, kinds := [], alts := [], laidByText := true, laidKinds := [.wider, .data], laidTests := true, laidLooks := .later }
def DigestTextsUptoCardSaid : Prop := Claim7.holds Tryd.pinned (.plain (OpenSpec.upto digestTextsSpec)) digestTextsUptoCard

/-- THE SECOND FORM's CARD OF 'demurrallaw03.DigestParts'. -/
def digestPartsUptoCard : Claim7 := { stood := { row := digestPartsUptoRow, standIns := [], harness := (true, "4b05210e65d07326a6ad32799ecd6671482ed8d26d024d36c57cbd6fcb3e9f16"), looks := false }, kinds := [], alts := [], laidByText := true, laidKinds := [.wider, .data], laidTests := true, laidLooks := .later }
def DigestPartsUptoCardSaid : Prop := Claim7.holds Tryd.pinned (.plain (OpenSpec.upto digestPartsSpec)) digestPartsUptoCard

/-- THE SECOND FORM's CARD OF 'demurrallaw03.DigestNew'. -/
def digestNewUptoCard : Claim7 := { stood := { row := digestNewUptoRow, standIns := [], harness := (true, "4b05210e65d07326a6ad32799ecd6671482ed8d26d024d36c57cbd6fcb3e9f16"), looks := false }, kinds := [], alts := [], laidByText := true, laidKinds := [.wider, .data], laidTests := true, laidLooks := .later }
def DigestNewUptoCardSaid : Prop := Claim7.holds Tryd.pinned (.plain (OpenSpec.upto digestNewSpec)) digestNewUptoCard

/-- THE SECOND FORM's CARD OF 'demurrallaw04.DeriveTags'. -/
def deriveTagsUptoCard : Claim7 := { stood := { row := deriveTagsUptoRow, standIns := [], harness := (true, "4b05210e65d07326a6ad32799ecd6671482ed8d26d024d36c57cbd6fcb3e9f16"), looks := false }, kinds := [], alts := [], laidByText := true, laidKinds := [.wider, .data], laidTests := true, laidLooks := .later }
def DeriveTagsUptoCardSaid : Prop := Claim7.holds Tryd.pinned (.plain (OpenSpec.upto deriveTagsSpec)) deriveTagsUptoCard

/-- THE SECOND FORM's CARD OF 'demurrallaw04.DeriveExpands'. -/
def deriveExpandsUptoCard : Claim7 := { stood := { row := deriveExpandsUptoRow, standIns := [], harness := (true, "4b05210e65d07326a6ad32799ecd6671482ed8d26d024d36c57cbd6fcb3e9f16"), looks := false }, kinds := [], alts := [], laidByText := true, laidKinds := [.wider, .data], laidTests := true, laidLooks := .later }
def DeriveExpandsUptoCardSaid : Prop := Claim7.holds Tryd.pinned (.plain (OpenSpec.upto deriveExpandsSpec)) deriveExpandsUptoCard

/-- THE SECOND FORM's CARD OF 'demurrallaw04.DeriveBegins'. -/
def deriveBeginsUptoCard : Claim7 := { stood := { row := deriveBeginsUptoRow, standIns := [], harness := (true, "4b05210e65d07326a6ad32799ecd6671482ed8d26d024d36c57cbd6fcb3e9f16"), looks := false }, kinds := [], alts := [], laidByText := true, laidKinds := [.wider, .data], laidTests := true, laidLooks := .later }
def DeriveBeginsUptoCardSaid : Prop := Claim7.holds Tryd.pinned (.plain (OpenSpec.upto deriveBeginsSpec)) deriveBeginsUptoCard
end Rows
end Go.Proofs.YtohoenkdfconpaaDoor
