/- Slices of bytes of a call's own: what they hold, appends, makes, and the text that is made of them. -/
import Derived.Test.YtmdakbbbpcldkaaRows
import Derived.Test.YtmdakbbbpcldkaaKa
namespace Go.Proofs.Ytmdakbbbpcldkaa
open Go.RowKit
set_option maxRecDepth 100000
theorem infoB : (Try.prog.info? 5).map (fun i => (i.zero, i.size, i.bytes)) = some (some (.int .u8 0), 1, 1) := by kernel_rfl
/-- a slice of bytes of the call's own (blocks from base on) that reads as l -/
def Own (w : World) (base : Nat) (v : Value) (l : List UInt8) : Prop := w.ownsRow base 5 1 v l.length (Lib.byteCells l)
theorem Own.alloc {w : World} {base : Nat} {v : Value} {l : List UInt8} (h : Own w base v l) (o : Obj) : Own (w.alloc o) base v l := World.ownsRow.alloc h o
theorem Own.drew {w : World} {base : Nat} {v : Value} {l : List UInt8} (h : Own w base v l) : Own w.drew base v l := h
theorem Own.block {w : World} (g cap base : Nat) (cur : Array Value) (l : List UInt8) (hg : w.heap[g]? = some (.cells cur 5 (0, 0))) (hb : base ≤ g) (hc : l.length ≤ cap) (hm : cap ≤ maxLen) (hs : cur.size = cap) (ht : cur.toList.take l.length = Lib.byteCells l) :
    Own w base (.slice (some ⟨g, 0, none⟩) l.length cap) l :=
  ⟨by rw [Lib.byteCells_length, Nat.mul_one], .inr ⟨g, cap, cur, rfl, hb, hg, hc, hm, by rw [hs, Nat.mul_one], by rw [Nat.mul_one]; exact ht⟩⟩
theorem Own.below {w wr w' : World} {n : Nat} {v : Value} {l : List UInt8} {o : Obj} (hI : Own wr n v l) (hB : Below n w wr) (hn : n ≤ wr.heap.size) (hg : (wr.alloc o).grownBy w' v.ownBlock) : Below n w w' :=
  (hB.alloc hn o).grown hg (by simp; omega) fun k hk => (World.ownsRow.lt hI k hk).1
/-- string(b) -/
theorem Own.text {w : World} {base g n cap : Nat} {l : List UInt8} (h : Own w base (.slice (some ⟨g, 0, none⟩) n cap) l) (hn : n = l.length) :
    (convert 57 9 (.slice (some ⟨g, 0, none⟩) n cap)).run Try.prog w = .ok (.string ⟨l.toArray⟩) w := by
  subst hn
  have hcell : ∀ i, i < l.length → w.cell? ⟨g, 0 + i, none⟩ = some (.int .u8 ((l.map fun b => (b.toNat : Int)).getD i 0)) := by
    intro i hi
    have := World.ownsRow.cellAt h i (by omega)
    rw [Nat.zero_add, this]
    simp [Lib.byteCells, hi]
  have := run_convert_bytes_arg (P := Try.prog) w 57 5 Try.underlying57 Try.underlying5 g 0 l.length cap (l.map fun b => (b.toNat : Int)) (by simp) hcell 9 Try.underlying9
  rw [this]
  congr 3
  apply ByteArray.ext
  simp [strOfNums, Function.comp_def]
theorem Own.onB {w w' : World} {base : Nat} {v : Value} {l : List UInt8} (h : Own w base v l) (hb : Below w.heap.size w w') : Own w' base v l := by
  refine ⟨h.1, ?_⟩
  rcases h.2 with h2 | ⟨g, cap, cur, e, hg, hc, h3⟩
  · exact Or.inl h2
  · exact Or.inr ⟨g, cap, cur, e, hg, by rw [hb.block g (Array.getElem?_eq_some_iff.1 hc).1]; exact hc, h3⟩
/-- string(b[:]) -/
theorem BlkB.text {w : World} {B : Nat} {t : TypeId} {l : List UInt8} (h : BlkB w B t l) (n c : Nat) (hn : n = l.length) :
    (convert 57 9 (.slice (some ⟨B, 0, none⟩) n c)).run Try.prog w = .ok (.string (strL l)) w := by
  subst hn
  exact run_convert_bytes_back (P := Try.prog) w 57 9 5 ⟨B, 0, none⟩ c l Try.underlying57 Try.underlying5 Try.underlying9 (fun j hj => by
    rw [Addr.add_mid, Nat.zero_add, h.cell j hj]
    simp [hj])
theorem str_index (s : ByteArray) (i : Int) (k : Nat) (hi : i = k) (hk : k < s.size) (W : World) : (Instr.index 9 (.string s) (.int .i64 i)).run Try.prog W = .ok (.int .u8 (s[k].toNat : Int)) W := by
  subst hi
  rw [run_index_string (P := Try.prog) (w := W) 9 s .i64 (k : Int) Try.underlying9, dif_pos ⟨by omega, by omega⟩]
  simp
end Go.Proofs.Ytmdakbbbpcldkaa