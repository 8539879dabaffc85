/- The secret of two who never met, in plain mathematics: points one behind the other. -/
import Derived.Test.YtnfhfibbaeiglaaGreatDoorARg1
import Derived.Test.YtnfhfibbaeiglaaGreatDoorFmask
namespace Go.Proofs.YtnfhfibbaeiglaaGreatDoor
open Go.RowKit
set_option maxRecDepth 100000

def helloW : ByteArray := ⟨#[104, 101, 108, 108, 111]⟩
/-- a point times a key -/
def pt (k u : ByteArray) : ByteArray := leStr (multN k u)
/-- a key's point -/
def bpt (k : ByteArray) : ByteArray := pt k (leStr 9)
theorem pt_size (k u : ByteArray) : (pt k u).size = 32 := leStr_size _
/-- the points of who begins, one behind the other -/
def ptsI (i b p s o : ByteArray) : ByteArray := pt i s ++ pt b p ++ pt b s ++ (if o.size = 0 then ⟨#[]⟩ else pt b o)
/-- the points of who is asked -/
def ptsR (i s o p b : ByteArray) : ByteArray := pt s p ++ pt i b ++ pt s b ++ (if o.size = 0 then ⟨#[]⟩ else pt o b)
/-- the secret of some points -/
def secB (x : ByteArray) : ByteArray := strL (tagL (bl helloW) (bl x))
theorem secB_size (x : ByteArray) : (secB x).size = 32 := by unfold secB; rw [strL_size]; exact ofL_length _
theorem ptsI_size (i b p s o : ByteArray) : (ptsI i b p s o).size ≤ 128 := by
  unfold ptsI
  have h : (if o.size = 0 then (⟨#[]⟩ : ByteArray) else pt b o).size ≤ 32 := by
    split
    · exact Nat.zero_le _
    · rw [pt_size]; exact Nat.le_refl _
  simp only [ByteArray.size_append, pt_size]
  omega
theorem ptsR_size (i s o p b : ByteArray) : (ptsR i s o p b).size ≤ 128 := by
  unfold ptsR
  have h : (if o.size = 0 then (⟨#[]⟩ : ByteArray) else pt o b).size ≤ 32 := by
    split
    · exact Nat.zero_le _
    · rw [pt_size]; exact Nat.le_refl _
  simp only [ByteArray.size_append, pt_size]
  omega
end Go.Proofs.YtnfhfibbaeiglaaGreatDoor
