/-
  No cell of these rows narrows 'for every input' (looked for: loops, veiled, ifaces, maps, wideKeys, modest, calm, conditions, laid).
  DERIVED. THE GIVEN ROWS OF THIS SEAT. 10 by the template 'for every input the law returns true; each argument reads behind the call as it read before'; 0 by the template 'total and deterministic' (their statements: YtmmaimopombepaaTotals.lean).
  GIVEN WITH THE SEED: the statements are not yours to turn. If you find one false, say at which input.
  Laid BY PROGRAM, IN A SANDBOX (cutbox-rows.mjs): the forced cells as the released guide's own fill.sh prints them over the translation 3e1075e476cdf33b… (all of the seat's roots in one cut). By AI agents, Wed Nov 11 2026. No macro, syntax, notation, axiom, sorry.
-/
import Derived.Test.YtmmaimopombepaaChecked
import GoSem.Claim
import GoSem.ClaimJoined
import GoSem.ClaimMapViews
import Derived.JoinedTies
import Derived.KernelRfl
namespace Go.Proofs.Ytmmaimopombepaa
/- THE CELL 'sum', in the pinned program and in every row, IS THE sha256 OF THE DUMP (.gsa) THAT YtmmaimopombepaaProg.lean LOADS. Nothing in Lean hashes anything: it is a label: what it is worth is what the hold of that sum in a sandbox is worth. -/
noncomputable def Try.pinned : Pinned := { name := "ytmmaimopombepaa", sum := "3e1075e476cdf33bbbe39423bda475be11f185f936e054f45b86bdbd5bfa7c3c", checked := Try.checked }
namespace Rows
def none {H : Type} : Left H := { results := [], args := [] }

/-- 'demurrallaw15.PrekeysPublish': WHATEVER THE INPUT: true; the input reads as it did. -/
def prekeysPublishSpec : ChangeSpec := { name := "prekeysPublish", fn := fun _ => fun
  | [d1, d2, d3] => { results := [.lit (.bool true)], args := [d1, d2, d3] }
  | _ => none }
def prekeysPublishRow : OpenClaim := { program := "ytmmaimopombepaa", sum := "3e1075e476cdf33bbbe39423bda475be11f185f936e054f45b86bdbd5bfa7c3c", func := "demurral/demurrallaw15.PrekeysPublish", spec := "prekeysPublish", inPlace := ["slices.overlaps[demurral/api.Shelf]"], unfollowed := true, recurses := true, apart := false }
def PrekeysPublishSaid : Prop := prekeysPublishRow.holds Try.pinned (OpenSpec.ofChange prekeysPublishSpec)

/-- ITS FALSE NEIGHBOUR: 'it returns false'. Refute it at one input. -/
def prekeysPublishWrong : ChangeSpec := { name := "prekeysPublish", fn := fun _ => fun
  | [d1, d2, d3] => { results := [.lit (.bool false)], args := [d1, d2, d3] }
  | _ => none }
def PrekeysPublishWrongFalsely : Prop := prekeysPublishRow.holds Try.pinned (OpenSpec.ofChange prekeysPublishWrong)

/-- 'demurrallaw15.PrekeysFetch': WHATEVER THE INPUT: true; the input reads as it did. -/
def prekeysFetchSpec : ChangeSpec := { name := "prekeysFetch", fn := fun _ => fun
  | [d1, d2] => { results := [.lit (.bool true)], args := [d1, d2] }
  | _ => none }
def prekeysFetchRow : OpenClaim := { program := "ytmmaimopombepaa", sum := "3e1075e476cdf33bbbe39423bda475be11f185f936e054f45b86bdbd5bfa7c3c", func := "demurral/demurrallaw15.PrekeysFetch", spec := "prekeysFetch", inPlace := ["slices.overlaps[demurral/api.Shelf]"], unfollowed := true, recurses := true, apart := false }
def PrekeysFetchSaid : Prop := prekeysFetchRow.holds Try.pinned (OpenSpec.ofChange prekeysFetchSpec)

/-- ITS FALSE NEIGHBOUR: 'it returns false'. Refute it at one input. -/
def prekeysFetchWrong : ChangeSpec := { name := "prekeysFetch", fn := fun _ => fun
  | [d1, d2] => { results := [.lit (.bool false)], args := [d1, d2] }
  | _ => none }
def PrekeysFetchWrongFalsely : Prop := prekeysFetchRow.holds Try.pinned (OpenSpec.ofChange prekeysFetchWrong)

/-- 'demurrallaw15.PrekeysMore': WHATEVER THE INPUT: true; the input reads as it did. -/
def prekeysMoreSpec : ChangeSpec := { name := "prekeysMore", fn := fun _ => fun
  | [d1, d2, d3] => { results := [.lit (.bool true)], args := [d1, d2, d3] }
  | _ => none }
def prekeysMoreRow : OpenClaim := { program := "ytmmaimopombepaa", sum := "3e1075e476cdf33bbbe39423bda475be11f185f936e054f45b86bdbd5bfa7c3c", func := "demurral/demurrallaw15.PrekeysMore", spec := "prekeysMore", inPlace := ["slices.overlaps[demurral/api.Shelf]"], unfollowed := true, recurses := true, apart := false }
def PrekeysMoreSaid : Prop := prekeysMoreRow.holds Try.pinned (OpenSpec.ofChange prekeysMoreSpec)

/-- ITS FALSE NEIGHBOUR: 'it returns false'. Refute it at one input. -/
def prekeysMoreWrong : ChangeSpec := { name := "prekeysMore", fn := fun _ => fun
  | [d1, d2, d3] => { results := [.lit (.bool false)], args := [d1, d2, d3] }
  | _ => none }
def PrekeysMoreWrongFalsely : Prop := prekeysMoreRow.holds Try.pinned (OpenSpec.ofChange prekeysMoreWrong)

/-- 'demurrallaw15.PrekeysOnce': WHATEVER THE INPUT: true; the input reads as it did. -/
def prekeysOnceSpec : ChangeSpec := { name := "prekeysOnce", fn := fun _ => fun
  | [d1, d2] => { results := [.lit (.bool true)], args := [d1, d2] }
  | _ => none }
def prekeysOnceRow : OpenClaim := { program := "ytmmaimopombepaa", sum := "3e1075e476cdf33bbbe39423bda475be11f185f936e054f45b86bdbd5bfa7c3c", func := "demurral/demurrallaw15.PrekeysOnce", spec := "prekeysOnce", inPlace := ["slices.overlaps[demurral/api.Shelf]"], unfollowed := true, recurses := true, apart := false }
def PrekeysOnceSaid : Prop := prekeysOnceRow.holds Try.pinned (OpenSpec.ofChange prekeysOnceSpec)

/-- ITS FALSE NEIGHBOUR: 'it returns false'. Refute it at one input. -/
def prekeysOnceWrong : ChangeSpec := { name := "prekeysOnce", fn := fun _ => fun
  | [d1, d2] => { results := [.lit (.bool false)], args := [d1, d2] }
  | _ => none }
def PrekeysOnceWrongFalsely : Prop := prekeysOnceRow.holds Try.pinned (OpenSpec.ofChange prekeysOnceWrong)

/-- 'demurrallaw15.PrekeysPublished': WHATEVER THE INPUT: true; the input reads as it did. -/
def prekeysPublishedSpec : ChangeSpec := { name := "prekeysPublished", fn := fun _ => fun
  | [d1, d2] => { results := [.lit (.bool true)], args := [d1, d2] }
  | _ => none }
def prekeysPublishedRow : OpenClaim := { program := "ytmmaimopombepaa", sum := "3e1075e476cdf33bbbe39423bda475be11f185f936e054f45b86bdbd5bfa7c3c", func := "demurral/demurrallaw15.PrekeysPublished", spec := "prekeysPublished", inPlace := ["slices.overlaps[demurral/api.Shelf]"], unfollowed := true, recurses := true, apart := false }
def PrekeysPublishedSaid : Prop := prekeysPublishedRow.holds Try.pinned (OpenSpec.ofChange prekeysPublishedSpec)

/-- ITS FALSE NEIGHBOUR: 'it returns false'. Refute it at one input. -/
def prekeysPublishedWrong : ChangeSpec := { name := "prekeysPublished", fn := fun _ => fun
  | [d1, d2] => { results := [.lit (.bool false)], args := [d1, d2] }
  | _ => none }
def PrekeysPublishedWrongFalsely : Prop := prekeysPublishedRow.holds Try.pinned (OpenSpec.ofChange prekeysPublishedWrong)

/-- 'demurrallaw16.RelayPushes': WHATEVER THE INPUT: true; the input reads as it did. -/
def relayPushesSpec : ChangeSpec := { name := "relayPushes", fn := fun _ => fun
  | [d1, d2, d3, d4] => { results := [.lit (.bool true)], args := [d1, d2, d3, d4] }
  | _ => none }
def relayPushesRow : OpenClaim := { program := "ytmmaimopombepaa", sum := "3e1075e476cdf33bbbe39423bda475be11f185f936e054f45b86bdbd5bfa7c3c", func := "demurral/demurrallaw16.RelayPushes", spec := "relayPushes", unfollowed := true, recurses := true, apart := false }
def RelayPushesSaid : Prop := relayPushesRow.holds Try.pinned (OpenSpec.ofChange relayPushesSpec)

/-- ITS FALSE NEIGHBOUR: 'it returns false'. Refute it at one input. -/
def relayPushesWrong : ChangeSpec := { name := "relayPushes", fn := fun _ => fun
  | [d1, d2, d3, d4] => { results := [.lit (.bool false)], args := [d1, d2, d3, d4] }
  | _ => none }
def RelayPushesWrongFalsely : Prop := relayPushesRow.holds Try.pinned (OpenSpec.ofChange relayPushesWrong)

/-- 'demurrallaw16.RelayPulls': WHATEVER THE INPUT: true; the input reads as it did. -/
def relayPullsSpec : ChangeSpec := { name := "relayPulls", fn := fun _ => fun
  | [d1, d2, d3] => { results := [.lit (.bool true)], args := [d1, d2, d3] }
  | _ => none }
def relayPullsRow : OpenClaim := { program := "ytmmaimopombepaa", sum := "3e1075e476cdf33bbbe39423bda475be11f185f936e054f45b86bdbd5bfa7c3c", func := "demurral/demurrallaw16.RelayPulls", spec := "relayPulls", unfollowed := true, recurses := true, apart := false }
def RelayPullsSaid : Prop := relayPullsRow.holds Try.pinned (OpenSpec.ofChange relayPullsSpec)

/-- ITS FALSE NEIGHBOUR: 'it returns false'. Refute it at one input. -/
def relayPullsWrong : ChangeSpec := { name := "relayPulls", fn := fun _ => fun
  | [d1, d2, d3] => { results := [.lit (.bool false)], args := [d1, d2, d3] }
  | _ => none }
def RelayPullsWrongFalsely : Prop := relayPullsRow.holds Try.pinned (OpenSpec.ofChange relayPullsWrong)

/-- 'demurrallaw16.RelayTicks': WHATEVER THE INPUT: true; the input reads as it did. -/
def relayTicksSpec : ChangeSpec := { name := "relayTicks", fn := fun _ => fun
  | [d1, d2] => { results := [.lit (.bool true)], args := [d1, d2] }
  | _ => none }
def relayTicksRow : OpenClaim := { program := "ytmmaimopombepaa", sum := "3e1075e476cdf33bbbe39423bda475be11f185f936e054f45b86bdbd5bfa7c3c", func := "demurral/demurrallaw16.RelayTicks", spec := "relayTicks", unfollowed := true, recurses := true, apart := false }
def RelayTicksSaid : Prop := relayTicksRow.holds Try.pinned (OpenSpec.ofChange relayTicksSpec)

/-- ITS FALSE NEIGHBOUR: 'it returns false'. Refute it at one input. -/
def relayTicksWrong : ChangeSpec := { name := "relayTicks", fn := fun _ => fun
  | [d1, d2] => { results := [.lit (.bool false)], args := [d1, d2] }
  | _ => none }
def RelayTicksWrongFalsely : Prop := relayTicksRow.holds Try.pinned (OpenSpec.ofChange relayTicksWrong)

/-- 'demurrallaw16.RelayWaits': WHATEVER THE INPUT: true; the input reads as it did. -/
def relayWaitsSpec : ChangeSpec := { name := "relayWaits", fn := fun _ => fun
  | [d] => { results := [.lit (.bool true)], args := [d] }
  | _ => none }
def relayWaitsRow : OpenClaim := { program := "ytmmaimopombepaa", sum := "3e1075e476cdf33bbbe39423bda475be11f185f936e054f45b86bdbd5bfa7c3c", func := "demurral/demurrallaw16.RelayWaits", spec := "relayWaits", unfollowed := true, recurses := true, apart := false }
def RelayWaitsSaid : Prop := relayWaitsRow.holds Try.pinned (OpenSpec.ofChange relayWaitsSpec)

/-- ITS FALSE NEIGHBOUR: 'it returns false'. Refute it at one input. -/
def relayWaitsWrong : ChangeSpec := { name := "relayWaits", fn := fun _ => fun
  | [d] => { results := [.lit (.bool false)], args := [d] }
  | _ => none }
def RelayWaitsWrongFalsely : Prop := relayWaitsRow.holds Try.pinned (OpenSpec.ofChange relayWaitsWrong)

/-- 'demurrallaw16.RelayApart': WHATEVER THE INPUT: true; the input reads as it did. -/
def relayApartSpec : ChangeSpec := { name := "relayApart", fn := fun _ => fun
  | [d1, d2, d3, d4] => { results := [.lit (.bool true)], args := [d1, d2, d3, d4] }
  | _ => none }
def relayApartRow : OpenClaim := { program := "ytmmaimopombepaa", sum := "3e1075e476cdf33bbbe39423bda475be11f185f936e054f45b86bdbd5bfa7c3c", func := "demurral/demurrallaw16.RelayApart", spec := "relayApart", unfollowed := true, recurses := true, apart := false }
def RelayApartSaid : Prop := relayApartRow.holds Try.pinned (OpenSpec.ofChange relayApartSpec)

/-- ITS FALSE NEIGHBOUR: 'it returns false'. Refute it at one input. -/
def relayApartWrong : ChangeSpec := { name := "relayApart", fn := fun _ => fun
  | [d1, d2, d3, d4] => { results := [.lit (.bool false)], args := [d1, d2, d3, d4] }
  | _ => none }
def RelayApartWrongFalsely : Prop := relayApartRow.holds Try.pinned (OpenSpec.ofChange relayApartWrong)

/- THE SECOND FORM. 'bulk': how many values and letters a reading holds, each counted each time it is reached (what is shared counts as often as it is met; a slice's spare places count too). A statement '..UptoSaid' is the law's where the arguments, and the package variables that the reading takes, are together of bulk at most 1048576: NARROWER than '..Said'. Prove '..Said' where nothing that the law and all that it calls make is longer than what came in: it says more and counts as full. Else prove '..UptoSaid'. A law counts once. -/
mutual
def uptoBulk {H : Type} : DataW H → Nat
  | .lit (.string bytes) => bytes.length + 1
  | .lit _ => 1
  | .nil => 1
  | .ptr d => uptoBulk d + 1
  | .slice elems spare => uptoBulkAll elems + uptoBulkAll spare + 1
  | .agg parts => uptoBulkAll parts + 1
  | .iface _ d => uptoBulk d + 1
  | .map entries => uptoBulkEntries entries + 1
  | .held _ => 1
def uptoBulkAll {H : Type} : List (DataW H) → Nat
  | [] => 0
  | d :: r => uptoBulk d + uptoBulkAll r
def uptoBulkEntries {H : Type} : List (Lit × DataW H) → Nat
  | [] => 0
  | x :: r => uptoBulkEntry x + uptoBulkEntries r
def uptoBulkEntry {H : Type} : Lit × DataW H → Nat
  | (.string bytes, d) => bytes.length + uptoBulk d + 1
  | (_, d) => uptoBulk d + 1
 end
def uptoSmall : (H : Type) → List (DataW H) → Bool := fun _ ds => decide (uptoBulkAll ds ≤ 1048576)
def OpenSpec.upto (s : _root_.Go.ChangeSpec) : _root_.Go.OpenSpec := { _root_.Go.OpenSpec.ofChange s with cond := some uptoSmall }

/-- 'demurrallaw15.PrekeysPublish', WHERE WHAT IT READS IS OF BULK AT MOST 1048576: true; the input reads as it did. -/
def prekeysPublishUptoRow : OpenClaim := { program := "ytmmaimopombepaa", sum := "3e1075e476cdf33bbbe39423bda475be11f185f936e054f45b86bdbd5bfa7c3c", func := "demurral/demurrallaw15.PrekeysPublish", spec := "prekeysPublish", inPlace := ["slices.overlaps[demurral/api.Shelf]"], unfollowed := true, recurses := true, apart := false, narrowed := true }
def PrekeysPublishUptoSaid : Prop := prekeysPublishUptoRow.holds Try.pinned (OpenSpec.upto prekeysPublishSpec)

/-- 'demurrallaw15.PrekeysFetch', WHERE WHAT IT READS IS OF BULK AT MOST 1048576: true; the input reads as it did. -/
def prekeysFetchUptoRow : OpenClaim := { program := "ytmmaimopombepaa", sum := "3e1075e476cdf33bbbe39423bda475be11f185f936e054f45b86bdbd5bfa7c3c", func := "demurral/demurrallaw15.PrekeysFetch", spec := "prekeysFetch", inPlace := ["slices.overlaps[demurral/api.Shelf]"], unfollowed := true, recurses := true, apart := false, narrowed := true }
def PrekeysFetchUptoSaid : Prop := prekeysFetchUptoRow.holds Try.pinned (OpenSpec.upto prekeysFetchSpec)

/-- 'demurrallaw15.PrekeysMore', WHERE WHAT IT READS IS OF BULK AT MOST 1048576: true; the input reads as it did. -/
def prekeysMoreUptoRow : OpenClaim := { program := "ytmmaimopombepaa", sum := "3e1075e476cdf33bbbe39423bda475be11f185f936e054f45b86bdbd5bfa7c3c", func := "demurral/demurrallaw15.PrekeysMore", spec := "prekeysMore", inPlace := ["slices.overlaps[demurral/api.Shelf]"], unfollowed := true, recurses := true, apart := false, narrowed := true }
def PrekeysMoreUptoSaid : Prop := prekeysMoreUptoRow.holds Try.pinned (OpenSpec.upto prekeysMoreSpec)

/-- 'demurrallaw15.PrekeysOnce', WHERE WHAT IT READS IS OF BULK AT MOST 1048576: true; the input reads as it did. -/
def prekeysOnceUptoRow : OpenClaim := { program := "ytmmaimopombepaa", sum := "3e1075e476cdf33bbbe39423bda475be11f185f936e054f45b86bdbd5bfa7c3c", func := "demurral/demurrallaw15.PrekeysOnce", spec := "prekeysOnce", inPlace := ["slices.overlaps[demurral/api.Shelf]"], unfollowed := true, recurses := true, apart := false, narrowed := true }
def PrekeysOnceUptoSaid : Prop := prekeysOnceUptoRow.holds Try.pinned (OpenSpec.upto prekeysOnceSpec)

/-- 'demurrallaw15.PrekeysPublished', WHERE WHAT IT READS IS OF BULK AT MOST 1048576: true; the input reads as it did. -/
def prekeysPublishedUptoRow : OpenClaim := { program := "ytmmaimopombepaa", sum := "3e1075e476cdf33bbbe39423bda475be11f185f936e054f45b86bdbd5bfa7c3c", func := "demurral/demurrallaw15.PrekeysPublished", spec := "prekeysPublished", inPlace := ["slices.overlaps[demurral/api.Shelf]"], unfollowed := true, recurses := true, apart := false, narrowed := true }
def PrekeysPublishedUptoSaid : Prop := prekeysPublishedUptoRow.holds Try.pinned (OpenSpec.upto prekeysPublishedSpec)

/-- 'demurrallaw16.RelayPushes', WHERE WHAT IT READS IS OF BULK AT MOST 1048576: true; the input reads as it did. -/
def relayPushesUptoRow : OpenClaim := { program := "ytmmaimopombepaa", sum := "3e1075e476cdf33bbbe39423bda475be11f185f936e054f45b86bdbd5bfa7c3c", func := "demurral/demurrallaw16.RelayPushes", spec := "relayPushes", unfollowed := true, recurses := true, apart := false, narrowed := true }
def RelayPushesUptoSaid : Prop := relayPushesUptoRow.holds Try.pinned (OpenSpec.upto relayPushesSpec)

/-- 'demurrallaw16.RelayPulls', WHERE WHAT IT READS IS OF BULK AT MOST 1048576: true; the input reads as it did. -/
def relayPullsUptoRow : OpenClaim := { program := "ytmmaimopombepaa", sum := "3e1075e476cdf33bbbe39423bda475be11f185f936e054f45b86bdbd5bfa7c3c", func := "demurral/demurrallaw16.RelayPulls", spec := "relayPulls", unfollowed := true, recurses := true, apart := false, narrowed := true }
def RelayPullsUptoSaid : Prop := relayPullsUptoRow.holds Try.pinned (OpenSpec.upto relayPullsSpec)

/-- 'demurrallaw16.RelayTicks', WHERE WHAT IT READS IS OF BULK AT MOST 1048576: true; the input reads as it did. -/
def relayTicksUptoRow : OpenClaim := { program := "ytmmaimopombepaa", sum := "3e1075e476cdf33bbbe39423bda475be11f185f936e054f45b86bdbd5bfa7c3c", func := "demurral/demurrallaw16.RelayTicks", spec := "relayTicks", unfollowed := true, recurses := true, apart := false, narrowed := true }
def RelayTicksUptoSaid : Prop := relayTicksUptoRow.holds Try.pinned (OpenSpec.upto relayTicksSpec)

/-- 'demurrallaw16.RelayWaits', WHERE WHAT IT READS IS OF BULK AT MOST 1048576: true; the input reads as it did. -/
def relayWaitsUptoRow : OpenClaim := { program := "ytmmaimopombepaa", sum := "3e1075e476cdf33bbbe39423bda475be11f185f936e054f45b86bdbd5bfa7c3c", func := "demurral/demurrallaw16.RelayWaits", spec := "relayWaits", unfollowed := true, recurses := true, apart := false, narrowed := true }
def RelayWaitsUptoSaid : Prop := relayWaitsUptoRow.holds Try.pinned (OpenSpec.upto relayWaitsSpec)

/-- 'demurrallaw16.RelayApart', WHERE WHAT IT READS IS OF BULK AT MOST 1048576: true; the input reads as it did. -/
def relayApartUptoRow : OpenClaim := { program := "ytmmaimopombepaa", sum := "3e1075e476cdf33bbbe39423bda475be11f185f936e054f45b86bdbd5bfa7c3c", func := "demurral/demurrallaw16.RelayApart", spec := "relayApart", unfollowed := true, recurses := true, apart := false, narrowed := true }
def RelayApartUptoSaid : Prop := relayApartUptoRow.holds Try.pinned (OpenSpec.upto relayApartSpec)

end Rows
end Go.Proofs.Ytmmaimopombepaa
