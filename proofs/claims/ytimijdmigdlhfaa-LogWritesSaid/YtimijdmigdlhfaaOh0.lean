/- A slice of bytes that a conversion has laid: what it holds, stores into it, and the text that is made of it. -/
import Derived.Test.YtimijdmigdlhfaaRows
import Derived.Test.YtimijdmigdlhfaaKa
import Derived.Lib.ConvBytes
namespace Go.Proofs.Ytimijdmigdlhfaa
open Go.RowKit
set_option maxRecDepth 100000
/-- block g begins with the bytes l, and they may be turned -/
structure BytesAt (w : World) (g : Nat) (l : List UInt8) : Prop where
  lt : g < w.heap.size
  cell : ∀ i, i < l.length → w.cell? ⟨g, i, none⟩ = some (.int .u8 ((l.getD i 0).toNat : Int))
  free : ∀ i, i < l.length → w.frozen? ⟨g, i, none⟩ = false
theorem BytesAt.on {w w' : World} {g : Nat} {l : List UInt8} (h : BytesAt w g l) (hb : Below w.heap.size w w') : BytesAt w' g l :=
  ⟨Nat.lt_of_lt_of_le h.lt hb.size, fun i hi => by rw [hb.cell (p := ⟨g, i, none⟩) h.lt]; exact h.cell i hi, fun i hi => by rw [hb.frozen (p := ⟨g, i, none⟩) h.lt]; exact h.free i hi⟩
theorem BytesAt.set {w : World} {g : Nat} {l : List UInt8} (h : BytesAt w g l) (i : Nat) (x : UInt8) : BytesAt (w.setCell ⟨g, i, none⟩ (.int .u8 (x.toNat : Int))) g (l.set i x) := by
  refine ⟨by simpa using h.lt, fun j hj => ?_, fun j hj => ?_⟩
  · rw [List.length_set] at hj
    by_cases e : i = j
    · subst e
      rw [World.cell?_setCell_same _ _ _ (h.cell i hj)]
      simp [hj]
    · rw [setCell_far (h.cell j hj) (fun h => e h.symm)]
      congr 3
      simp [List.getD, List.getElem?_set_ne e]
  · rw [List.length_set] at hj
    have := World.frozen?_setCells g [.int .u8 (x.toNat : Int)] i w ⟨g, j, none⟩
    rw [show w.setCell ⟨g, i, none⟩ (.int .u8 (x.toNat : Int)) = w.setCells g i [.int .u8 (x.toNat : Int)] from rfl, this]
    exact h.free j hj
theorem BytesAt.far {w : World} {g : Nat} {l : List UInt8} (h : BytesAt w g l) (b i : Nat) (hne : b ≠ g) (v : Value) : BytesAt (w.setCell ⟨b, i, none⟩ v) g l := by
  refine ⟨by simpa using h.lt, fun j hj => ?_, fun j hj => ?_⟩
  · rw [World.cell?_setCell_other _ _ _ _ (fun e => hne (by cases e; rfl))]
    exact h.cell j hj
  · have := World.frozen?_setCells b [v] i w ⟨g, j, none⟩
    rw [show w.setCell ⟨b, i, none⟩ v = w.setCells b i [v] from rfl, this]
    exact h.free j hj
/-- string(b) -/
theorem BytesAt.text {w : World} {g : Nat} {l : List UInt8} (h : BytesAt w g l) (n c : Nat) (hn : n = l.length) :
    (convert 53 9 (.slice (some ⟨g, 0, none⟩) n c)).run Try.prog w = .ok (.string (strL l)) w := by
  subst hn
  exact run_convert_bytes_back (P := Try.prog) w 53 9 5 ⟨g, 0, none⟩ c l Try.underlying53 Try.underlying5 Try.underlying9 (fun j hj => by
    rw [Addr.add_mid, Nat.zero_add, h.cell j hj]
    simp [hj])
/-- []byte(s) -/
theorem made_of (s : ByteArray) (w : World) : ∃ c W, (convert 9 53 (.string s)).run Try.prog w = .ok (.slice (some ⟨w.heap.size, 0, none⟩) s.size c) W ∧ BytesAt W w.heap.size (bl s) ∧ Below w.heap.size w W ∧ W.heap.size = w.heap.size + 1 := by
  refine ⟨_, _, Lib.run_convert_string_bytes w 9 53 5 s Try.underlying9 Try.underlying53 Try.underlying5, ⟨?_, fun i hi => ?_, fun i hi => ?_⟩, ⟨rfl, rfl, rfl, by rw [Lib.bytesWorld_size]; omega, fun k hk => Lib.bytesWorld_at_old w _ s k hk⟩, Lib.bytesWorld_size _ _ _⟩
  · rw [Lib.bytesWorld_size]; omega
  · exact Lib.bytesWorld_cell w _ s i hi
  · have h2 : (Lib.bytesCells w 5 s).size ≥ s.size := by
      unfold Lib.bytesCells
      simp
    rw [bl_length] at hi
    unfold World.frozen?
    rw [Lib.bytesWorld_at_new]
    simp
    omega
end Go.Proofs.Ytimijdmigdlhfaa