/- Slices of bytes of a call's own: what they hold, appends to them, and the text that is made of them. -/
import Derived.Test.YtohoenkdfconpaaDoorDclone
import Derived.Laws.OwnMore
import Derived.Deep.AppendLies
import Derived.Laws.BytesArg
namespace Go.Proofs.YtohoenkdfconpaaDoor
open Go.RowKit
set_option maxRecDepth 100000

/-- a slice of bytes of the call's own (blocks from base on) that reads as l -/
def Own (w : World) (base : Nat) (v : Value) (l : List UInt8) : Prop := w.ownsRow base 5 1 v l.length (Lib.byteCells l)
theorem Own.alloc {w : World} {base : Nat} {v : Value} {l : List UInt8} (h : Own w base v l) (o : Obj) : Own (w.alloc o) base v l := World.ownsRow.alloc h o
theorem Own.drew {w : World} {base : Nat} {v : Value} {l : List UInt8} (h : Own w base v l) : Own w.drew base v l := h
theorem Own.block {w : World} (g cap base : Nat) (cur : Array Value) (l : List UInt8) (hg : w.heap[g]? = some (.cells cur 5 (0, 0))) (hb : base ≤ g) (hc : l.length ≤ cap) (hm : cap ≤ maxLen) (hs : cur.size = cap) (ht : cur.toList.take l.length = Lib.byteCells l) :
    Own w base (.slice (some ⟨g, 0, none⟩) l.length cap) l :=
  ⟨by rw [Lib.byteCells_length, Nat.mul_one], .inr ⟨g, cap, cur, rfl, hb, hg, hc, hm, by rw [hs, Nat.mul_one], by rw [Nat.mul_one]; exact ht⟩⟩

/-- m bytes put behind a slice of the call's own -/
theorem append_bytes {ops : Array Oper} {rest : List Oper} {o : Oper} {a : Act} {Q : Exit → Act → World → Prop} {w : World} (hgd : o.guard = none) (s x : Operand)
    (ho : o.op = .call { callee := .builtin .append, args := #[s, x], argTypes := #[67, 67] })
    (base : Nat) (v : Value) (l news : List UInt8) (B : Nat) (hs : a.eval s = v) (hown : Own w base v l) (m : Nat) (hx : a.eval x = .slice (some ⟨B, 0, none⟩) m m) (hm : m = news.length) (hm0 : 0 < m)
    (hc : ∀ j b, news[j]? = some b → w.cell? ⟨B, j, none⟩ = some (.int .u8 (b.toNat : Int))) (hl : l.length + m ≤ 1000000) (hbase : base ≤ w.heap.size)
    (h : ∀ g cap w', Own w' base (.slice (some ⟨g, 0, none⟩) (l.length + m) cap) (l ++ news) → w.grownBy w' v.ownBlock → wpList Tryd.prog ops Q rest (a.put o.dst (.slice (some ⟨g, 0, none⟩) (l.length + m) cap)) w') :
    wpList Tryd.prog ops Q (o :: rest) a w := by
  obtain ⟨i0, hi, hz0, hz1, hz2⟩ := info_parts infoB
  refine wpList_append_own w hgd s x 67 ho base 5 i0 (.int .u8 0) 1 1 Tryd.underlying67 hi hz0 hz1 hz2 rfl (by decide) v l.length (Lib.byteCells l) hs hown ⟨B, 0, none⟩ m m (Lib.byteCells news) hx (by rw [Lib.byteCells_length, hm]; simp) ?_ ?_ (by unfold maxLen; omega) (by omega) hbase ?_
  · intro j u hu
    rw [show (⟨B, 0, none⟩ : Addr).add j = ⟨B, j, none⟩ by rw [Addr.add_mid, Nat.zero_add]]
    simp only [Lib.byteCells, List.getElem?_map, Option.map_eq_some_iff] at hu
    obtain ⟨b, hb, rfl⟩ := hu
    exact hc j b hb
  · intro u hu
    simp only [Lib.byteCells, List.mem_map] at hu
    obtain ⟨b, -, rfl⟩ := hu
    rfl
  · intro v' w' ho' hg _
    obtain ⟨g, cap, rfl, -, -⟩ := World.ownsRow.form ho' (by omega)
    refine h g cap w' ?_ hg
    unfold Own
    rw [List.length_append, ← hm, Lib.byteCells_append]
    exact ho'
theorem Own.below {w wr w' : World} {n : Nat} {v : Value} {l : List UInt8} {o : Obj} (hI : Own wr n v l) (hB : Below n w wr) (hn : n ≤ wr.heap.size) (hg : (wr.alloc o).grownBy w' v.ownBlock) : Below n w w' :=
  (hB.alloc hn o).grown hg (by simp; omega) fun k hk => (World.ownsRow.lt hI k hk).1

/-- string(b) -/
theorem Own.text {w : World} {base g n cap : Nat} {l : List UInt8} (h : Own w base (.slice (some ⟨g, 0, none⟩) n cap) l) (hn : n = l.length) :
    (convert 67 9 (.slice (some ⟨g, 0, none⟩) n cap)).run Tryd.prog w = .ok (.string ⟨l.toArray⟩) w := by
  subst hn
  have hcell : ∀ i, i < l.length → w.cell? ⟨g, 0 + i, none⟩ = some (.int .u8 ((l.map fun b => (b.toNat : Int)).getD i 0)) := by
    intro i hi
    have := World.ownsRow.cellAt h i (by omega)
    rw [Nat.zero_add, this]
    simp [Lib.byteCells, hi]
  have := run_convert_bytes_arg (P := Tryd.prog) w 67 5 Tryd.underlying67 Tryd.underlying5 g 0 l.length cap (l.map fun b => (b.toNat : Int)) (by simp) hcell 9 Tryd.underlying9
  rw [this]
  congr 3
  apply ByteArray.ext
  simp [strOfNums, Function.comp_def]
end Go.Proofs.YtohoenkdfconpaaDoor
