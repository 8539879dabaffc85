/- DigestParts: it does not matter in which parts bytes come. -/
import Derived.Test.YtolobdeilfgmnaaDoorDsame
import Derived.Test.YtolobdeilfgmnaaDoorKa
namespace Go.Proofs.YtolobdeilfgmnaaDoor
open Go.RowKit
def WRel (w : World) (u : S8) (r : List UInt8) (q : Nat) (s5 s6 : Value) (W : World) : Prop :=
  ∃ (B D : Nat) (x : ByteArray), s5 = .pointer (some ⟨B, 0, none⟩) ∧ s6 = .int .i64 0 ∧ HashAt W B D u x q ∧ bl x = r ∧ Bel w W
theorem FirstAt.bel {w0 w : World} (h : FirstAt w0) (hb : Bel w0 w) : FirstAt w := h.on hb.b
theorem KeysAt.bel {w0 w : World} (h : KeysAt w0) (hb : Bel w0 w) : KeysAt w := h.on hb.b
theorem HashAt.bel {w0 w : World} {B D : Nat} {u : S8} {x : ByteArray} {q : Nat} (h : HashAt w0 B D u x q) (hb : Bel w0 w) : HashAt w B D u x q := h.on hb.b
/-- a sum on its way behind more bytes may be -/
theorem right_next {x y p : ByteArray} {m : Nat} (hr : rightB 8 x.size m = true) (hy : bl y = restOf (bl x ++ bl p)) : rightB 8 y.size ((m + p.size) % 18446744073709551616) = true := by
  unfold rightB at *
  have h1 := restOf_length (bl x ++ bl p)
  rw [← hy, List.length_append, bl_length, bl_length, bl_length] at h1
  simp at hr ⊢
  omega
end Go.Proofs.YtolobdeilfgmnaaDoor