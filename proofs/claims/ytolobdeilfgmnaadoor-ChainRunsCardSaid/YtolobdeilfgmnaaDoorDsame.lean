/- The contract of the reference's Same: whether two sums on their way are the same. -/
import Derived.Test.YtolobdeilfgmnaaDoorDcut
import Derived.Test.YtolobdeilfgmnaaDoorKa
namespace Go.Proofs.YtolobdeilfgmnaaDoor
open Go.RowKit
def sameB (la lb : List (BitVec 32)) (x y : ByteArray) (p q : Nat) : Bool := decide (la = lb ∧ x = y ∧ p = q)
def SameRel (w0 : World) (la lb : List (BitVec 32)) (n : Nat) (i : Value) (wr : World) : Prop := ∃ k : Nat, k ≤ n ∧ i = .int .i64 (k : Int) ∧ la.take k = lb.take k ∧ Bel w0 wr

end Go.Proofs.YtolobdeilfgmnaaDoor