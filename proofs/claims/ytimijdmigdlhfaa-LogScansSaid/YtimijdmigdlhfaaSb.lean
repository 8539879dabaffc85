/- Frames in memory; the reference's text, keys, Right. -/
import Derived.Test.YtimijdmigdlhfaaSa
import Derived.Test.YtimijdmigdlhfaaPg
namespace Go.Proofs.Ytimijdmigdlhfaa
open Go.RowKit Go.Sort
set_option maxRecDepth 100000
/-- a slice of texts, nil or not, that reads as l -/
def SSl (w : World) (a : Option Addr) (l : List ByteArray) : Prop :=
  0 < l.length → ∃ b off : Nat, a = some ⟨b, off, none⟩ ∧ b < w.heap.size ∧ ∀ i, i < l.length → w.cell? ⟨b, off + i, none⟩ = some (.string (l.getD i ⟨#[]⟩))
theorem SSl.on {w w' : World} {a : Option Addr} {l : List ByteArray} (h : SSl w a l) (hb : Below w.heap.size w w') : SSl w' a l := by
  intro h0
  obtain ⟨b, off, ha, hlt, hc⟩ := h h0
  exact ⟨b, off, ha, Nat.lt_of_lt_of_le hlt hb.size, fun i hi => by rw [hb.cell (p := ⟨b, off + i, none⟩) hlt]; exact hc i hi⟩
end Go.Proofs.Ytimijdmigdlhfaa