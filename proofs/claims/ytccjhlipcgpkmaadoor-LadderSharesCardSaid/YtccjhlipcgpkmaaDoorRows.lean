/-
  NARROWER THAN 'FOR EVERY INPUT', by the rows' own cells (each row's printed sentence says how): LimbTells: laid · LimbInverses: laid · LimbField: laid · LadderMults: laid · LadderShares: laid · LadderClamps: laid.
  DERIVED. THE GIVEN ROWS OF THIS SEAT. 6 by the template 'for every input the law returns true; each argument reads behind the call as it read before'; 0 by the template 'total and deterministic' (their statements: YtccjhlipcgpkmaaDoorTotals.lean).
  GIVEN WITH THE SEED: the statements are not yours to turn. If you find one false, say at which input.
  Laid BY PROGRAM, IN A SANDBOX (cutbox-rows.mjs): the forced cells as the released guide's own fill.sh prints them over the translation 4902439e2d8e50e8… (all of the seat's roots in one cut). By AI agents, Wed Nov 11 2026. No macro, syntax, notation, axiom, sorry.
-/
import Derived.Test.YtccjhlipcgpkmaaDoorChecked
import GoSem.Claim
import GoSem.ClaimJoined
import GoSem.ClaimMapViews
import Derived.JoinedTies
import Derived.KernelRfl
namespace Go.Proofs.YtccjhlipcgpkmaaDoor
/- THE CELL 'sum', in the pinned program and in every row, IS THE sha256 OF THE DUMP (.gsa) THAT YtccjhlipcgpkmaaDoorProg.lean LOADS. Nothing in Lean hashes anything: it is a label: what it is worth is what the hold of that sum in a sandbox is worth. -/
noncomputable def Tryd.pinned : Pinned := { name := "ytccjhlipcgpkmaadoor", sum := "4902439e2d8e50e895c5a089c74228181686c630327b3723aedf214735f0760e", checked := Tryd.checked }
namespace Rows
def none {H : Type} : Left H := { results := [], args := [] }

/- WHAT THE LISTED PACKAGE-LEVEL VARIABLES READ AS WHEN THE CALL BEGINS. Each datum BY PROGRAM (the guide's laid-datum.mjs) off the statement by which the dump's own 'gosem.cut.vars' lays the variable. In a bare row this is a premise. The card (YtccjhlipcgpkmaaDoorCards.lean) ties it to the program's text. -/
def laid_demurral_limb_prime {H : Type} : DataW H := .agg [.lit (.int .u64 18446744073709551597), .lit (.int .u64 18446744073709551615), .lit (.int .u64 18446744073709551615), .lit (.int .u64 9223372036854775807)]

/-- 'demurrallaw01.LimbTells': WHATEVER THE INPUT: true; the input reads as it did. -/
def limbTellsSpec : ChangeSpec := { name := "limbTells", fn := fun _ => fun
  | [d1, d2] => { results := [.lit (.bool true)], args := [d1, d2] }
  | _ => none }
def limbTellsRow : OpenClaim := { program := "ytccjhlipcgpkmaadoor", sum := "4902439e2d8e50e895c5a089c74228181686c630327b3723aedf214735f0760e", func := "demurral/demurrallaw01.LimbTells", spec := "limbTells", inPlace := ["math/bits.Add64", "math/bits.Sub64"], unfollowed := true, recurses := true, named := ["demurral/limb.prime"], apart := false, laid := [("demurral/limb.prime", laid_demurral_limb_prime)] }
def LimbTellsSaid : Prop := limbTellsRow.holds Tryd.pinned (OpenSpec.ofChange limbTellsSpec)

/-- ITS FALSE NEIGHBOUR: 'it returns false'. Refute it at one input. -/
def limbTellsWrong : ChangeSpec := { name := "limbTells", fn := fun _ => fun
  | [d1, d2] => { results := [.lit (.bool false)], args := [d1, d2] }
  | _ => none }
def LimbTellsWrongFalsely : Prop := limbTellsRow.holds Tryd.pinned (OpenSpec.ofChange limbTellsWrong)

/-- 'demurrallaw01.LimbInverses': WHATEVER THE INPUT: true; the input reads as it did. -/
def limbInversesSpec : ChangeSpec := { name := "limbInverses", fn := fun _ => fun
  | [d] => { results := [.lit (.bool true)], args := [d] }
  | _ => none }
def limbInversesRow : OpenClaim := { program := "ytccjhlipcgpkmaadoor", sum := "4902439e2d8e50e895c5a089c74228181686c630327b3723aedf214735f0760e", func := "demurral/demurrallaw01.LimbInverses", spec := "limbInverses", inPlace := ["math/bits.Sub64", "math/bits.Add64"], unfollowed := true, recurses := true, named := ["demurral/limb.prime"], apart := false, laid := [("demurral/limb.prime", laid_demurral_limb_prime)] }
def LimbInversesSaid : Prop := limbInversesRow.holds Tryd.pinned (OpenSpec.ofChange limbInversesSpec)

/-- ITS FALSE NEIGHBOUR: 'it returns false'. Refute it at one input. -/
def limbInversesWrong : ChangeSpec := { name := "limbInverses", fn := fun _ => fun
  | [d] => { results := [.lit (.bool false)], args := [d] }
  | _ => none }
def LimbInversesWrongFalsely : Prop := limbInversesRow.holds Tryd.pinned (OpenSpec.ofChange limbInversesWrong)

/-- 'demurrallaw01.LimbField': WHATEVER THE INPUT: true; the input reads as it did. -/
def limbFieldSpec : ChangeSpec := { name := "limbField", fn := fun _ => fun
  | [d1, d2, d3] => { results := [.lit (.bool true)], args := [d1, d2, d3] }
  | _ => none }
def limbFieldRow : OpenClaim := { program := "ytccjhlipcgpkmaadoor", sum := "4902439e2d8e50e895c5a089c74228181686c630327b3723aedf214735f0760e", func := "demurral/demurrallaw01.LimbField", spec := "limbField", inPlace := ["math/bits.Add64", "math/bits.Sub64"], unfollowed := true, recurses := true, named := ["demurral/limb.prime"], apart := false, laid := [("demurral/limb.prime", laid_demurral_limb_prime)] }
def LimbFieldSaid : Prop := limbFieldRow.holds Tryd.pinned (OpenSpec.ofChange limbFieldSpec)

/-- ITS FALSE NEIGHBOUR: 'it returns false'. Refute it at one input. -/
def limbFieldWrong : ChangeSpec := { name := "limbField", fn := fun _ => fun
  | [d1, d2, d3] => { results := [.lit (.bool false)], args := [d1, d2, d3] }
  | _ => none }
def LimbFieldWrongFalsely : Prop := limbFieldRow.holds Tryd.pinned (OpenSpec.ofChange limbFieldWrong)

/-- 'demurrallaw02.LadderMults': WHATEVER THE INPUT: true; the input reads as it did. -/
def ladderMultsSpec : ChangeSpec := { name := "ladderMults", fn := fun _ => fun
  | [d1, d2] => { results := [.lit (.bool true)], args := [d1, d2] }
  | _ => none }
def ladderMultsRow : OpenClaim := { program := "ytccjhlipcgpkmaadoor", sum := "4902439e2d8e50e895c5a089c74228181686c630327b3723aedf214735f0760e", func := "demurral/demurrallaw02.LadderMults", spec := "ladderMults", inPlace := ["math/bits.Add64", "math/bits.Sub64"], unfollowed := true, recurses := true, named := ["demurral/limb.prime"], apart := false, laid := [("demurral/limb.prime", laid_demurral_limb_prime)] }
def LadderMultsSaid : Prop := ladderMultsRow.holds Tryd.pinned (OpenSpec.ofChange ladderMultsSpec)

/-- ITS FALSE NEIGHBOUR: 'it returns false'. Refute it at one input. -/
def ladderMultsWrong : ChangeSpec := { name := "ladderMults", fn := fun _ => fun
  | [d1, d2] => { results := [.lit (.bool false)], args := [d1, d2] }
  | _ => none }
def LadderMultsWrongFalsely : Prop := ladderMultsRow.holds Tryd.pinned (OpenSpec.ofChange ladderMultsWrong)

/-- 'demurrallaw02.LadderShares': WHATEVER THE INPUT: true; the input reads as it did. -/
def ladderSharesSpec : ChangeSpec := { name := "ladderShares", fn := fun _ => fun
  | [d1, d2] => { results := [.lit (.bool true)], args := [d1, d2] }
  | _ => none }
def ladderSharesRow : OpenClaim := { program := "ytccjhlipcgpkmaadoor", sum := "4902439e2d8e50e895c5a089c74228181686c630327b3723aedf214735f0760e", func := "demurral/demurrallaw02.LadderShares", spec := "ladderShares", inPlace := ["math/bits.Add64", "math/bits.Sub64"], unfollowed := true, recurses := true, named := ["demurral/limb.prime"], apart := false, laid := [("demurral/limb.prime", laid_demurral_limb_prime)] }
def LadderSharesSaid : Prop := ladderSharesRow.holds Tryd.pinned (OpenSpec.ofChange ladderSharesSpec)

/-- ITS FALSE NEIGHBOUR: 'it returns false'. Refute it at one input. -/
def ladderSharesWrong : ChangeSpec := { name := "ladderShares", fn := fun _ => fun
  | [d1, d2] => { results := [.lit (.bool false)], args := [d1, d2] }
  | _ => none }
def LadderSharesWrongFalsely : Prop := ladderSharesRow.holds Tryd.pinned (OpenSpec.ofChange ladderSharesWrong)

/-- 'demurrallaw02.LadderClamps': WHATEVER THE INPUT: true; the input reads as it did. -/
def ladderClampsSpec : ChangeSpec := { name := "ladderClamps", fn := fun _ => fun
  | [d1, d2] => { results := [.lit (.bool true)], args := [d1, d2] }
  | _ => none }
def ladderClampsRow : OpenClaim := { program := "ytccjhlipcgpkmaadoor", sum := "4902439e2d8e50e895c5a089c74228181686c630327b3723aedf214735f0760e", func := "demurral/demurrallaw02.LadderClamps", spec := "ladderClamps", inPlace := ["math/bits.Add64", "math/bits.Sub64"], unfollowed := true, recurses := true, named := ["demurral/limb.prime"], apart := false, laid := [("demurral/limb.prime", laid_demurral_limb_prime)] }
def LadderClampsSaid : Prop := ladderClampsRow.holds Tryd.pinned (OpenSpec.ofChange ladderClampsSpec)

/-- ITS FALSE NEIGHBOUR: 'it returns false'. Refute it at one input. -/
def ladderClampsWrong : ChangeSpec := { name := "ladderClamps", fn := fun _ => fun
  | [d1, d2] => { results := [.lit (.bool false)], args := [d1, d2] }
  | _ => none }
def LadderClampsWrongFalsely : Prop := ladderClampsRow.holds Tryd.pinned (OpenSpec.ofChange ladderClampsWrong)

/- THE SECOND FORM. 'bulk': how many values and letters a reading holds, each counted each time it is reached (what is shared counts as often as it is met; a slice's spare places count too). A statement '..UptoSaid' is the law's where the arguments, and the package variables that the reading takes, are together of bulk at most 1048576: NARROWER than '..Said'. Prove '..Said' where nothing that the law and all that it calls make is longer than what came in: it says more and counts as full. Else prove '..UptoSaid'. A law counts once. -/
mutual
def uptoBulk {H : Type} : DataW H → Nat
  | .lit (.string bytes) => bytes.length + 1
  | .lit _ => 1
  | .nil => 1
  | .ptr d => uptoBulk d + 1
  | .slice elems spare => uptoBulkAll elems + uptoBulkAll spare + 1
  | .agg parts => uptoBulkAll parts + 1
  | .iface _ d => uptoBulk d + 1
  | .map entries => uptoBulkEntries entries + 1
  | .held _ => 1
def uptoBulkAll {H : Type} : List (DataW H) → Nat
  | [] => 0
  | d :: r => uptoBulk d + uptoBulkAll r
def uptoBulkEntries {H : Type} : List (Lit × DataW H) → Nat
  | [] => 0
  | x :: r => uptoBulkEntry x + uptoBulkEntries r
def uptoBulkEntry {H : Type} : Lit × DataW H → Nat
  | (.string bytes, d) => bytes.length + uptoBulk d + 1
  | (_, d) => uptoBulk d + 1
 end
def uptoSmall : (H : Type) → List (DataW H) → Bool := fun _ ds => decide (uptoBulkAll ds ≤ 1048576)
def OpenSpec.upto (s : _root_.Go.ChangeSpec) : _root_.Go.OpenSpec := { _root_.Go.OpenSpec.ofChange s with cond := some uptoSmall }

/-- 'demurrallaw01.LimbTells', WHERE WHAT IT READS IS OF BULK AT MOST 1048576: true; the input reads as it did. -/
def limbTellsUptoRow : OpenClaim := { program := "ytccjhlipcgpkmaadoor", sum := "4902439e2d8e50e895c5a089c74228181686c630327b3723aedf214735f0760e", func := "demurral/demurrallaw01.LimbTells", spec := "limbTells", inPlace := ["math/bits.Add64", "math/bits.Sub64"], unfollowed := true, recurses := true, named := ["demurral/limb.prime"], apart := false, laid := [("demurral/limb.prime", laid_demurral_limb_prime)], narrowed := true }
def LimbTellsUptoSaid : Prop := limbTellsUptoRow.holds Tryd.pinned (OpenSpec.upto limbTellsSpec)

/-- 'demurrallaw01.LimbInverses', WHERE WHAT IT READS IS OF BULK AT MOST 1048576: true; the input reads as it did. -/
def limbInversesUptoRow : OpenClaim := { program := "ytccjhlipcgpkmaadoor", sum := "4902439e2d8e50e895c5a089c74228181686c630327b3723aedf214735f0760e", func := "demurral/demurrallaw01.LimbInverses", spec := "limbInverses", inPlace := ["math/bits.Sub64", "math/bits.Add64"], unfollowed := true, recurses := true, named := ["demurral/limb.prime"], apart := false, laid := [("demurral/limb.prime", laid_demurral_limb_prime)], narrowed := true }
def LimbInversesUptoSaid : Prop := limbInversesUptoRow.holds Tryd.pinned (OpenSpec.upto limbInversesSpec)

/-- 'demurrallaw01.LimbField', WHERE WHAT IT READS IS OF BULK AT MOST 1048576: true; the input reads as it did. -/
def limbFieldUptoRow : OpenClaim := { program := "ytccjhlipcgpkmaadoor", sum := "4902439e2d8e50e895c5a089c74228181686c630327b3723aedf214735f0760e", func := "demurral/demurrallaw01.LimbField", spec := "limbField", inPlace := ["math/bits.Add64", "math/bits.Sub64"], unfollowed := true, recurses := true, named := ["demurral/limb.prime"], apart := false, laid := [("demurral/limb.prime", laid_demurral_limb_prime)], narrowed := true }
def LimbFieldUptoSaid : Prop := limbFieldUptoRow.holds Tryd.pinned (OpenSpec.upto limbFieldSpec)

/-- 'demurrallaw02.LadderMults', WHERE WHAT IT READS IS OF BULK AT MOST 1048576: true; the input reads as it did. -/
def ladderMultsUptoRow : OpenClaim := { program := "ytccjhlipcgpkmaadoor", sum := "4902439e2d8e50e895c5a089c74228181686c630327b3723aedf214735f0760e", func := "demurral/demurrallaw02.LadderMults", spec := "ladderMults", inPlace := ["math/bits.Add64", "math/bits.Sub64"], unfollowed := true, recurses := true, named := ["demurral/limb.prime"], apart := false, laid := [("demurral/limb.prime", laid_demurral_limb_prime)], narrowed := true }
def LadderMultsUptoSaid : Prop := ladderMultsUptoRow.holds Tryd.pinned (OpenSpec.upto ladderMultsSpec)

/-- 'demurrallaw02.LadderShares', WHERE WHAT IT READS IS OF BULK AT MOST 1048576: true; the input reads as it did. -/
def ladderSharesUptoRow : OpenClaim := { program := "ytccjhlipcgpkmaadoor", sum := "4902439e2d8e50e895c5a089c74228181686c630327b3723aedf214735f0760e", func := "demurral/demurrallaw02.LadderShares", spec := "ladderShares", inPlace := ["math/bits.Add64", "math/bits.Sub64"], unfollowed := true, recurses := true, named := ["demurral/limb.prime"], apart := false, laid := [("demurral/limb.prime", laid_demurral_limb_prime)], narrowed := true }
def LadderSharesUptoSaid : Prop := ladderSharesUptoRow.holds Tryd.pinned (OpenSpec.upto ladderSharesSpec)

/-- 'demurrallaw02.LadderClamps', WHERE WHAT IT READS IS OF BULK AT MOST 1048576: true; the input reads as it did. -/
def ladderClampsUptoRow : OpenClaim := { program := "ytccjhlipcgpkmaadoor", sum := "4902439e2d8e50e895c5a089c74228181686c630327b3723aedf214735f0760e", func := "demurral/demurrallaw02.LadderClamps", spec := "ladderClamps", inPlace := ["math/bits.Add64", "math/bits.Sub64"], unfollowed := true, recurses := true, named := ["demurral/limb.prime"], apart := false, laid := [("demurral/limb.prime", laid_demurral_limb_prime)], narrowed := true }
def LadderClampsUptoSaid : Prop := ladderClampsUptoRow.holds Tryd.pinned (OpenSpec.upto ladderClampsSpec)

end Rows
end Go.Proofs.YtccjhlipcgpkmaaDoor
