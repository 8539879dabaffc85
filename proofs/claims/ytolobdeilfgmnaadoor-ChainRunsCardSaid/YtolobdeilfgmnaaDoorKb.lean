/- Slices of bytes of a call's own: what they hold, appends, makes, and the text that is made of them. -/
import Derived.Test.YtolobdeilfgmnaaDoorRows
import Derived.Test.YtolobdeilfgmnaaDoorKa
namespace Go.Proofs.YtolobdeilfgmnaaDoor
open Go.RowKit
set_option maxRecDepth 100000
theorem infoB : (Tryd.prog.info? 5).map (fun i => (i.zero, i.size, i.bytes)) = some (some (.int .u8 0), 1, 1) := by kernel_rfl
/-- a slice of bytes of the call's own (blocks from base on) that reads as l -/
def Own (w : World) (base : Nat) (v : Value) (l : List UInt8) : Prop := w.ownsRow base 5 1 v l.length (Lib.byteCells l)
theorem Own.alloc {w : World} {base : Nat} {v : Value} {l : List UInt8} (h : Own w base v l) (o : Obj) : Own (w.alloc o) base v l := World.ownsRow.alloc h o
theorem Own.drew {w : World} {base : Nat} {v : Value} {l : List UInt8} (h : Own w base v l) : Own w.drew base v l := h
theorem Own.block {w : World} (g cap base : Nat) (cur : Array Value) (l : List UInt8) (hg : w.heap[g]? = some (.cells cur 5 (0, 0))) (hb : base ≤ g) (hc : l.length ≤ cap) (hm : cap ≤ maxLen) (hs : cur.size = cap) (ht : cur.toList.take l.length = Lib.byteCells l) :
    Own w base (.slice (some ⟨g, 0, none⟩) l.length cap) l :=
  ⟨by rw [Lib.byteCells_length, Nat.mul_one], .inr ⟨g, cap, cur, rfl, hb, hg, hc, hm, by rw [hs, Nat.mul_one], by rw [Nat.mul_one]; exact ht⟩⟩
/-- m bytes put behind a slice of the call's own -/
theorem append_bytes {ops : Array Oper} {rest : List Oper} {o : Oper} {a : Act} {Q : Exit → Act → World → Prop} {w : World} (hgd : o.guard = none) (s x : Operand)
    (ho : o.op = .call { callee := .builtin .append, args := #[s, x], argTypes := #[79, 79] })
    (base : Nat) (v : Value) (l news : List UInt8) (B : Nat) (hs : a.eval s = v) (hown : Own w base v l) (m : Nat) (hx : a.eval x = .slice (some ⟨B, 0, none⟩) m m) (hm : m = news.length) (hm0 : 0 < m)
    (hc : ∀ j b, news[j]? = some b → w.cell? ⟨B, j, none⟩ = some (.int .u8 (b.toNat : Int))) (hl : l.length + m ≤ 1000000) (hbase : base ≤ w.heap.size)
    (h : ∀ g cap w', Own w' base (.slice (some ⟨g, 0, none⟩) (l.length + m) cap) (l ++ news) → w.grownBy w' v.ownBlock → wpList Tryd.prog ops Q rest (a.put o.dst (.slice (some ⟨g, 0, none⟩) (l.length + m) cap)) w') :
    wpList Tryd.prog ops Q (o :: rest) a w := by
  obtain ⟨i0, hi, hz0, hz1, hz2⟩ := info_parts infoB
  refine wpList_append_own w hgd s x 79 ho base 5 i0 (.int .u8 0) 1 1 Tryd.underlying79 hi hz0 hz1 hz2 rfl (by decide) v l.length (Lib.byteCells l) hs hown ⟨B, 0, none⟩ m m (Lib.byteCells news) hx (by rw [Lib.byteCells_length, hm]; simp) ?_ ?_ (by unfold maxLen; omega) (by omega) hbase ?_
  · intro j u hu
    rw [show (⟨B, 0, none⟩ : Addr).add j = ⟨B, j, none⟩ by rw [Addr.add_mid, Nat.zero_add]]
    simp only [Lib.byteCells, List.getElem?_map, Option.map_eq_some_iff] at hu
    obtain ⟨b, hb, rfl⟩ := hu
    exact hc j b hb
  · intro u hu
    simp only [Lib.byteCells, List.mem_map] at hu
    obtain ⟨b, -, rfl⟩ := hu
    rfl
  · intro v' w' ho' hg _
    obtain ⟨g, cap, rfl, -, -⟩ := World.ownsRow.form ho' (by omega)
    refine h g cap w' ?_ hg
    unfold Own
    rw [List.length_append, ← hm, Lib.byteCells_append]
    exact ho'
theorem Own.below {w wr w' : World} {n : Nat} {v : Value} {l : List UInt8} {o : Obj} (hI : Own wr n v l) (hB : Below n w wr) (hn : n ≤ wr.heap.size) (hg : (wr.alloc o).grownBy w' v.ownBlock) : Below n w w' :=
  (hB.alloc hn o).grown hg (by simp; omega) fun k hk => (World.ownsRow.lt hI k hk).1
/-- string(b) -/
theorem Own.text {w : World} {base g n cap : Nat} {l : List UInt8} (h : Own w base (.slice (some ⟨g, 0, none⟩) n cap) l) (hn : n = l.length) :
    (convert 79 9 (.slice (some ⟨g, 0, none⟩) n cap)).run Tryd.prog w = .ok (.string ⟨l.toArray⟩) w := by
  subst hn
  have hcell : ∀ i, i < l.length → w.cell? ⟨g, 0 + i, none⟩ = some (.int .u8 ((l.map fun b => (b.toNat : Int)).getD i 0)) := by
    intro i hi
    have := World.ownsRow.cellAt h i (by omega)
    rw [Nat.zero_add, this]
    simp [Lib.byteCells, hi]
  have := run_convert_bytes_arg (P := Tryd.prog) w 79 5 Tryd.underlying79 Tryd.underlying5 g 0 l.length cap (l.map fun b => (b.toNat : Int)) (by simp) hcell 9 Tryd.underlying9
  rw [this]
  congr 3
  apply ByteArray.ext
  simp [strOfNums, Function.comp_def]
theorem made_bytes (z : TypeInfo) (h1 : z.size = 1) (n : Nat) : (madeCells (Value.int .u8 0).cells (n * z.size)).toList = List.replicate n (.int .u8 0) := by
  rw [h1, Nat.mul_one]; exact toList_madeCells_one _ _
/-- make([]byte, l, c) -/
theorem make_bytes (kl kc : IntKind) (l c : Nat) (hlc : l ≤ c) (hc : c ≤ 1000000) : ∃ M : Array Value, M.toList = List.replicate c (.int .u8 0) ∧ ∀ W : World,
    (Instr.makeSlice 79 (.int kl (l : Int)) (.int kc (c : Int))).run Tryd.prog W = .ok (.slice (some ⟨W.heap.size, 0, none⟩) l c) (W.alloc (.cells M 5)) := by
  obtain ⟨i0, hi, hz0, hz1, hz2⟩ := info_parts infoB
  refine ⟨madeCells (Value.int .u8 0).cells (c * i0.size), made_bytes i0 hz1 c, fun W => ?_⟩
  have h := run_make (P := Tryd.prog) W 79 5 i0 (.int .u8 0) Tryd.underlying79 hi hz0 kl kc (l : Int) (c : Int) (by omega) (by omega) (by rw [hz2]; omega) (by omega)
  simp only [Int.toNat_natCast] at h
  exact h
theorem Own.made (W : World) (M : Array Value) (base l c : Nat) (hM : M.toList = List.replicate c (.int .u8 0)) (hb : base ≤ W.heap.size) (hl : l ≤ c) (hc : c ≤ 1000000) :
    Own (W.alloc (.cells M 5)) base (.slice (some ⟨W.heap.size, 0, none⟩) l c) (List.replicate l 0) := by
  have h := Own.block (w := W.alloc (.cells M 5)) W.heap.size c base M (List.replicate l 0) (heap_alloc_new W _) hb (by simpa using hl) (by unfold maxLen; omega) (by rw [← Array.length_toList, hM]; simp) (by rw [hM]; simp [Lib.byteCells, List.take_replicate, Nat.min_eq_left hl])
  simpa using h
theorem Own.empty (w : World) (base : Nat) (hb : base ≤ w.heap.size) : Own (w.alloc (.cells #[] 5)) base (.slice (some ⟨w.heap.size, 0, none⟩) 0 0) [] :=
  World.ownsRow_lit w #[] 0 hb (by decide) rfl
theorem Own.onB {w w' : World} {base : Nat} {v : Value} {l : List UInt8} (h : Own w base v l) (hb : Below w.heap.size w w') : Own w' base v l := by
  refine ⟨h.1, ?_⟩
  rcases h.2 with h2 | ⟨g, cap, cur, e, hg, hc, h3⟩
  · exact Or.inl h2
  · exact Or.inr ⟨g, cap, cur, e, hg, by rw [hb.block g (Array.getElem?_eq_some_iff.1 hc).1]; exact hc, h3⟩
/-- string(b[:]) -/
theorem BlkB.text {w : World} {B : Nat} {t : TypeId} {l : List UInt8} (h : BlkB w B t l) (n c : Nat) (hn : n = l.length) :
    (convert 79 9 (.slice (some ⟨B, 0, none⟩) n c)).run Tryd.prog w = .ok (.string (strL l)) w := by
  subst hn
  exact run_convert_bytes_back (P := Tryd.prog) w 79 9 5 ⟨B, 0, none⟩ c l Tryd.underlying79 Tryd.underlying5 Tryd.underlying9 (fun j hj => by
    rw [Addr.add_mid, Nat.zero_add, h.cell j hj]
    simp [hj])
theorem one_text (y : UInt8) (v : Int) (hv : v = (y.toNat : Int)) (W : World) :
    (convert 79 9 (.slice (some ⟨W.heap.size, 0, none⟩) 1 1)).run Tryd.prog (W.alloc (.cells #[.int .u8 v] 5)) = .ok (.string (strL [y])) (W.alloc (.cells #[.int .u8 v] 5)) := by
  subst hv
  exact run_convert_bytes_back (P := Tryd.prog) (W.alloc (.cells #[.int .u8 (y.toNat : Int)] 5)) 79 9 5 ⟨W.heap.size, 0, none⟩ 1 [y] Tryd.underlying79 Tryd.underlying5 Tryd.underlying9 (fun j hj => by
    obtain rfl : j = 0 := by simpa using hj
    simp [Addr.add])
theorem str_index (s : ByteArray) (i : Int) (k : Nat) (hi : i = k) (hk : k < s.size) (W : World) : (Instr.index 9 (.string s) (.int .i64 i)).run Tryd.prog W = .ok (.int .u8 (s[k].toNat : Int)) W := by
  subst hi
  rw [run_index_string (P := Tryd.prog) (w := W) 9 s .i64 (k : Int) Tryd.underlying9, dif_pos ⟨by omega, by omega⟩]
  simp
end Go.Proofs.YtolobdeilfgmnaaDoor