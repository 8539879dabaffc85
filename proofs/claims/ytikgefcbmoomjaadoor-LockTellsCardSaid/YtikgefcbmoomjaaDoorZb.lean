/- The texts Kb, Ks, Ki, Kw, one behind the other. -/
import Derived.Test.YtikgefcbmoomjaaDoorRows
import Derived.Test.YtikgefcbmoomjaaDoorZa
/- Slices of bytes of a call's own: what they hold, appends, makes, and the text that is made of them. -/
namespace Go.Proofs.YtikgefcbmoomjaaDoor
open Go.RowKit
set_option maxRecDepth 100000
theorem infoB : (Tryd.prog.info? 5).map (fun i => (i.zero, i.size, i.bytes)) = some (some (.int .u8 0), 1, 1) := by kernel_rfl
/-- a slice of bytes of the call's own (blocks from base on) that reads as l -/
def Own (w : World) (base : Nat) (v : Value) (l : List UInt8) : Prop := w.ownsRow base 5 1 v l.length (Lib.byteCells l)
theorem Own.alloc {w : World} {base : Nat} {v : Value} {l : List UInt8} (h : Own w base v l) (o : Obj) : Own (w.alloc o) base v l := World.ownsRow.alloc h o
theorem Own.drew {w : World} {base : Nat} {v : Value} {l : List UInt8} (h : Own w base v l) : Own w.drew base v l := h
theorem Own.block {w : World} (g cap base : Nat) (cur : Array Value) (l : List UInt8) (hg : w.heap[g]? = some (.cells cur 5 (0, 0))) (hb : base ≤ g) (hc : l.length ≤ cap) (hm : cap ≤ maxLen) (hs : cur.size = cap) (ht : cur.toList.take l.length = Lib.byteCells l) :
    Own w base (.slice (some ⟨g, 0, none⟩) l.length cap) l :=
  ⟨by rw [Lib.byteCells_length, Nat.mul_one], .inr ⟨g, cap, cur, rfl, hb, hg, hc, hm, by rw [hs, Nat.mul_one], by rw [Nat.mul_one]; exact ht⟩⟩
/-- m bytes put behind a slice of the call's own -/
theorem append_bytes {ops : Array Oper} {rest : List Oper} {o : Oper} {a : Act} {Q : Exit → Act → World → Prop} {w : World} (hgd : o.guard = none) (s x : Operand)
    (ho : o.op = .call { callee := .builtin .append, args := #[s, x], argTypes := #[42, 42] })
    (base : Nat) (v : Value) (l news : List UInt8) (B : Nat) (hs : a.eval s = v) (hown : Own w base v l) (m : Nat) (hx : a.eval x = .slice (some ⟨B, 0, none⟩) m m) (hm : m = news.length) (hm0 : 0 < m)
    (hc : ∀ j b, news[j]? = some b → w.cell? ⟨B, j, none⟩ = some (.int .u8 (b.toNat : Int))) (hl : l.length + m ≤ 1000000) (hbase : base ≤ w.heap.size)
    (h : ∀ g cap w', Own w' base (.slice (some ⟨g, 0, none⟩) (l.length + m) cap) (l ++ news) → w.grownBy w' v.ownBlock → wpList Tryd.prog ops Q rest (a.put o.dst (.slice (some ⟨g, 0, none⟩) (l.length + m) cap)) w') :
    wpList Tryd.prog ops Q (o :: rest) a w := by
  obtain ⟨i0, hi, hz0, hz1, hz2⟩ := info_parts infoB
  refine wpList_append_own w hgd s x 42 ho base 5 i0 (.int .u8 0) 1 1 Tryd.underlying42 hi hz0 hz1 hz2 rfl (by decide) v l.length (Lib.byteCells l) hs hown ⟨B, 0, none⟩ m m (Lib.byteCells news) hx (by rw [Lib.byteCells_length, hm]; simp) ?_ ?_ (by unfold maxLen; omega) (by omega) hbase ?_
  · intro j u hu
    rw [show (⟨B, 0, none⟩ : Addr).add j = ⟨B, j, none⟩ by rw [Addr.add_mid, Nat.zero_add]]
    simp only [Lib.byteCells, List.getElem?_map, Option.map_eq_some_iff] at hu
    obtain ⟨b, hb, rfl⟩ := hu
    exact hc j b hb
  · intro u hu
    simp only [Lib.byteCells, List.mem_map] at hu
    obtain ⟨b, -, rfl⟩ := hu
    rfl
  · intro v' w' ho' hg _
    obtain ⟨g, cap, rfl, -, -⟩ := World.ownsRow.form ho' (by omega)
    refine h g cap w' ?_ hg
    unfold Own
    rw [List.length_append, ← hm, Lib.byteCells_append]
    exact ho'
theorem Own.below {w wr w' : World} {n : Nat} {v : Value} {l : List UInt8} {o : Obj} (hI : Own wr n v l) (hB : Below n w wr) (hn : n ≤ wr.heap.size) (hg : (wr.alloc o).grownBy w' v.ownBlock) : Below n w w' :=
  (hB.alloc hn o).grown hg (by simp; omega) fun k hk => (World.ownsRow.lt hI k hk).1
/-- string(b) -/
theorem Own.text {w : World} {base g n cap : Nat} {l : List UInt8} (h : Own w base (.slice (some ⟨g, 0, none⟩) n cap) l) (hn : n = l.length) :
    (convert 42 9 (.slice (some ⟨g, 0, none⟩) n cap)).run Tryd.prog w = .ok (.string ⟨l.toArray⟩) w := by
  subst hn
  have hcell : ∀ i, i < l.length → w.cell? ⟨g, 0 + i, none⟩ = some (.int .u8 ((l.map fun b => (b.toNat : Int)).getD i 0)) := by
    intro i hi
    have := World.ownsRow.cellAt h i (by omega)
    rw [Nat.zero_add, this]
    simp [Lib.byteCells, hi]
  have := run_convert_bytes_arg (P := Tryd.prog) w 42 5 Tryd.underlying42 Tryd.underlying5 g 0 l.length cap (l.map fun b => (b.toNat : Int)) (by simp) hcell 9 Tryd.underlying9
  rw [this]
  congr 3
  apply ByteArray.ext
  simp [strOfNums, Function.comp_def]
theorem made_bytes (z : TypeInfo) (h1 : z.size = 1) (n : Nat) : (madeCells (Value.int .u8 0).cells (n * z.size)).toList = List.replicate n (.int .u8 0) := by
  rw [h1, Nat.mul_one]; exact toList_madeCells_one _ _
/-- make([]byte, l, c) -/
theorem make_bytes (kl kc : IntKind) (l c : Nat) (hlc : l ≤ c) (hc : c ≤ 1000000) : ∃ M : Array Value, M.toList = List.replicate c (.int .u8 0) ∧ ∀ W : World,
    (Instr.makeSlice 42 (.int kl (l : Int)) (.int kc (c : Int))).run Tryd.prog W = .ok (.slice (some ⟨W.heap.size, 0, none⟩) l c) (W.alloc (.cells M 5)) := by
  obtain ⟨i0, hi, hz0, hz1, hz2⟩ := info_parts infoB
  refine ⟨madeCells (Value.int .u8 0).cells (c * i0.size), made_bytes i0 hz1 c, fun W => ?_⟩
  have h := run_make (P := Tryd.prog) W 42 5 i0 (.int .u8 0) Tryd.underlying42 hi hz0 kl kc (l : Int) (c : Int) (by omega) (by omega) (by rw [hz2]; omega) (by omega)
  simp only [Int.toNat_natCast] at h
  exact h
theorem Own.made (W : World) (M : Array Value) (base l c : Nat) (hM : M.toList = List.replicate c (.int .u8 0)) (hb : base ≤ W.heap.size) (hl : l ≤ c) (hc : c ≤ 1000000) :
    Own (W.alloc (.cells M 5)) base (.slice (some ⟨W.heap.size, 0, none⟩) l c) (List.replicate l 0) := by
  have h := Own.block (w := W.alloc (.cells M 5)) W.heap.size c base M (List.replicate l 0) (heap_alloc_new W _) hb (by simpa using hl) (by unfold maxLen; omega) (by rw [← Array.length_toList, hM]; simp) (by rw [hM]; simp [Lib.byteCells, List.take_replicate, Nat.min_eq_left hl])
  simpa using h
theorem Own.empty (w : World) (base : Nat) (hb : base ≤ w.heap.size) : Own (w.alloc (.cells #[] 5)) base (.slice (some ⟨w.heap.size, 0, none⟩) 0 0) [] :=
  World.ownsRow_lit w #[] 0 hb (by decide) rfl
theorem Own.onB {w w' : World} {base : Nat} {v : Value} {l : List UInt8} (h : Own w base v l) (hb : Below w.heap.size w w') : Own w' base v l := by
  refine ⟨h.1, ?_⟩
  rcases h.2 with h2 | ⟨g, cap, cur, e, hg, hc, h3⟩
  · exact Or.inl h2
  · exact Or.inr ⟨g, cap, cur, e, hg, by rw [hb.block g (Array.getElem?_eq_some_iff.1 hc).1]; exact hc, h3⟩
/-- string(b[:]) -/
theorem BlkB.text {w : World} {B : Nat} {t : TypeId} {l : List UInt8} (h : BlkB w B t l) (n c : Nat) (hn : n = l.length) :
    (convert 42 9 (.slice (some ⟨B, 0, none⟩) n c)).run Tryd.prog w = .ok (.string (strL l)) w := by
  subst hn
  exact run_convert_bytes_back (P := Tryd.prog) w 42 9 5 ⟨B, 0, none⟩ c l Tryd.underlying42 Tryd.underlying5 Tryd.underlying9 (fun j hj => by
    rw [Addr.add_mid, Nat.zero_add, h.cell j hj]
    simp [hj])
theorem one_text (y : UInt8) (v : Int) (hv : v = (y.toNat : Int)) (W : World) :
    (convert 42 9 (.slice (some ⟨W.heap.size, 0, none⟩) 1 1)).run Tryd.prog (W.alloc (.cells #[.int .u8 v] 5)) = .ok (.string (strL [y])) (W.alloc (.cells #[.int .u8 v] 5)) := by
  subst hv
  exact run_convert_bytes_back (P := Tryd.prog) (W.alloc (.cells #[.int .u8 (y.toNat : Int)] 5)) 42 9 5 ⟨W.heap.size, 0, none⟩ 1 [y] Tryd.underlying42 Tryd.underlying5 Tryd.underlying9 (fun j hj => by
    obtain rfl : j = 0 := by simpa using hj
    simp [Addr.add])
theorem str_index (s : ByteArray) (i : Int) (k : Nat) (hi : i = k) (hk : k < s.size) (W : World) : (Instr.index 9 (.string s) (.int .i64 i)).run Tryd.prog W = .ok (.int .u8 (s[k].toNat : Int)) W := by
  subst hi
  rw [run_index_string (P := Tryd.prog) (w := W) 9 s .i64 (k : Int) Tryd.underlying9, dif_pos ⟨by omega, by omega⟩]
  simp
end Go.Proofs.YtikgefcbmoomjaaDoor

/- Slices of texts of a call's own. -/
namespace Go.Proofs.YtikgefcbmoomjaaDoor
open Go.RowKit
set_option maxRecDepth 100000
def Sv (l : List ByteArray) : List Value := l.map Value.string
/-- a slice of texts of the call's own that reads as l -/
def OwnS (w : World) (base : Nat) (v : Value) (l : List ByteArray) : Prop := w.ownsRow base 9 1 v l.length (Sv l)
theorem OwnS.alloc {w : World} {base : Nat} {v : Value} {l : List ByteArray} (h : OwnS w base v l) (o : Obj) : OwnS (w.alloc o) base v l := World.ownsRow.alloc h o
theorem OwnS.on {w w' : World} {base : Nat} {v : Value} {l : List ByteArray} (h : OwnS w base v l) (hb : Below w.heap.size w w') : OwnS w' base v l := by
  refine ⟨h.1, ?_⟩
  rcases h.2 with h2 | ⟨g, cap, cur, e, hg, hc, h3⟩
  · exact Or.inl h2
  · exact Or.inr ⟨g, cap, cur, e, hg, by rw [hb.block g (Array.getElem?_eq_some_iff.1 hc).1]; exact hc, h3⟩
theorem OwnS.strs {w : World} {base g n cap : Nat} {l : List ByteArray} (h : OwnS w base (.slice (some ⟨g, 0, none⟩) n cap) l) (hn : n = l.length) : StrsAt w (.slice (some ⟨g, 0, none⟩) n cap) l := by
  subst hn
  have hlt : g < w.heap.size := by
    rcases h.2 with ⟨e, -⟩ | ⟨g', cap', cur, e, -, hc, -⟩
    · cases e
    · cases e; exact (Array.getElem?_eq_some_iff.1 hc).1
  refine ⟨g, 0, cap, rfl, hlt, fun i hi => ?_⟩
  have := World.ownsRow.cellAt h i (by omega)
  rw [Nat.zero_add, this]
  simp [Sv, List.getD, hi]
theorem OwnS.cap {w : World} {base g n cap : Nat} {l : List ByteArray} (h : OwnS w base (.slice (some ⟨g, 0, none⟩) n cap) l) (hn : n = l.length) : n ≤ cap := by
  subst hn
  rcases h.2 with ⟨e, -⟩ | ⟨g', cap', cur, e, -, -, hc, -⟩
  · cases e
  · cases e; exact hc
theorem infoS : (Tryd.prog.info? 9).map (fun i => (i.zero, i.size, i.bytes)) = some (some (.string ⟨#[]⟩), 1, 16) := by kernel_rfl
/-- one text put behind a slice of the call's own -/
theorem append_s {ops : Array Oper} {rest : List Oper} {o : Oper} {a : Act} {Q : Exit → Act → World → Prop} {w : World} (hgd : o.guard = none) (s x : Operand)
    (ho : o.op = .call { callee := .builtin .append, args := #[s, x], argTypes := #[52, 52] })
    (base : Nat) (v : Value) (l : List ByteArray) (y : ByteArray) (B : Nat) (hs : a.eval s = v) (hown : OwnS w base v l) (hx : a.eval x = .slice (some ⟨B, 0, none⟩) 1 1)
    (hc : w.cell? ⟨B, 0, none⟩ = some (.string y)) (hl : l.length ≤ 1000) (hbase : base ≤ w.heap.size)
    (h : ∀ g cap w', OwnS w' base (.slice (some ⟨g, 0, none⟩) (l.length + 1) cap) (l ++ [y]) → w.grownBy w' v.ownBlock → wpList Tryd.prog ops Q rest (a.put o.dst (.slice (some ⟨g, 0, none⟩) (l.length + 1) cap)) w') :
    wpList Tryd.prog ops Q (o :: rest) a w := by
  obtain ⟨i0, hi, hz0, hz1, hz2⟩ := info_parts infoS
  refine wpList_append_own w hgd s x 52 ho base 9 i0 (.string ⟨#[]⟩) 1 16 Tryd.underlying52 hi hz0 hz1 hz2 rfl (by decide) v l.length (Sv l) hs hown ⟨B, 0, none⟩ 1 1 [.string y] hx rfl ?_ ?_ (by unfold maxLen; omega) (by omega) hbase ?_
  · intro j u hu
    rcases j with _ | j
    · simp at hu; subst hu; simpa [Addr.add] using hc
    · simp at hu
  · intro u hu; simp at hu; subst hu; rfl
  · intro v' w' ho' hg _
    obtain ⟨g, cap, rfl, -, -⟩ := World.ownsRow.form ho' (by omega)
    exact h g cap w' (by unfold OwnS; simpa [Sv] using ho') hg
theorem OwnS.below {w wr w' : World} {n : Nat} {v : Value} {l : List ByteArray} {o : Obj} (hI : OwnS wr n v l) (hB : Below n w wr) (hn : n ≤ wr.heap.size) (hg : (wr.alloc o).grownBy w' v.ownBlock) : Below n w w' :=
  (hB.alloc hn o).grown hg (by simp; omega) fun k hk => (World.ownsRow.lt hI k hk).1
/-- make([]string, 0, c) -/
theorem make_strs (c : Nat) (hc : c ≤ 1000) : ∃ M : Array Value, M.size = c ∧ ∀ W : World,
    (Instr.makeSlice 52 (.int .i64 0) (.int .i64 (c : Int))).run Tryd.prog W = .ok (.slice (some ⟨W.heap.size, 0, none⟩) 0 c) (W.alloc (.cells M 9)) := by
  obtain ⟨i0, hi, hz0, hz1, hz2⟩ := info_parts infoS
  refine ⟨madeCells (Value.string ⟨#[]⟩).cells (c * i0.size), by rw [size_madeCells, hz1]; simp, fun W => ?_⟩
  have h := run_make (P := Tryd.prog) W 52 9 i0 (.string ⟨#[]⟩) Tryd.underlying52 hi hz0 .i64 .i64 (0 : Int) (c : Int) (by omega) (by omega) (by rw [hz2]; omega) (by omega)
  simp only [Int.toNat_natCast] at h
  exact h
theorem OwnS.made (W : World) (M : Array Value) (base c : Nat) (hM : M.size = c) (hb : base ≤ W.heap.size) (hc : c ≤ 1000) : OwnS (W.alloc (.cells M 9)) base (.slice (some ⟨W.heap.size, 0, none⟩) 0 c) [] :=
  ⟨rfl, .inr ⟨W.heap.size, c, M, rfl, hb, heap_alloc_new W _, Nat.zero_le _, by unfold maxLen; omega, by rw [hM, Nat.mul_one], by simp [Sv]⟩⟩
theorem OwnS.empty (w : World) (base : Nat) (hb : base ≤ w.heap.size) : OwnS (w.alloc (.cells #[] 9)) base (.slice (some ⟨w.heap.size, 0, none⟩) 0 0) [] :=
  World.ownsRow_lit w #[] 0 hb (by decide) rfl
end Go.Proofs.YtikgefcbmoomjaaDoor

/- Slices of whole numbers of a call's own. -/
namespace Go.Proofs.YtikgefcbmoomjaaDoor
open Go.RowKit
set_option maxRecDepth 100000
/-- a slice of ints of the call's own that reads as l -/
def OwnI (w : World) (base : Nat) (v : Value) (l : List Nat) : Prop := w.ownsRow base 3 1 v l.length (l.map iv)
theorem OwnI.at {w : World} {base : Nat} {v : Value} {l : List Nat} (h : OwnI w base v l) (hl : 0 < l.length) : IntsAt w v l := by
  obtain ⟨g, cap, rfl, -, hg⟩ := World.ownsRow.form h hl
  refine ⟨g, cap, rfl, hg, fun j hj => ?_⟩
  have := World.ownsRow.cellAt h j (by omega)
  rw [this]
  simp [List.getD, hj, iv]
theorem OwnI.alloc {w : World} {base : Nat} {v : Value} {l : List Nat} (h : OwnI w base v l) (o : Obj) : OwnI (w.alloc o) base v l := World.ownsRow.alloc h o
theorem OwnI.drewN {w : World} {base : Nat} {v : Value} {l : List Nat} (h : OwnI w base v l) (n : Nat) : OwnI (w.drewN n) base v l := h
theorem OwnI.on {w w' : World} {base : Nat} {v : Value} {l : List Nat} (h : OwnI w base v l) (hb : Below w.heap.size w w') : OwnI w' base v l := by
  refine ⟨h.1, ?_⟩
  rcases h.2 with h2 | ⟨g, cap, cur, e, hg, hc, h3⟩
  · exact Or.inl h2
  · exact Or.inr ⟨g, cap, cur, e, hg, by rw [hb.block g (Array.getElem?_eq_some_iff.1 hc).1]; exact hc, h3⟩
theorem OwnI.empty (w : World) (base : Nat) (hb : base ≤ w.heap.size) : OwnI (w.alloc (.cells #[] 3)) base (.slice (some ⟨w.heap.size, 0, none⟩) 0 0) [] :=
  World.ownsRow_lit w #[] 0 hb (by decide) rfl
theorem infoI : (Tryd.prog.info? 3).map (fun i => (i.zero, i.size, i.bytes)) = some (some (.int .i64 0), 1, 8) := by kernel_rfl
/-- one int put behind a slice of the call's own -/
theorem append_i {ops : Array Oper} {rest : List Oper} {o : Oper} {a : Act} {Q : Exit → Act → World → Prop} {w : World} (hgd : o.guard = none) (s x : Operand)
    (ho : o.op = .call { callee := .builtin .append, args := #[s, x], argTypes := #[59, 59] })
    (base : Nat) (v : Value) (l : List Nat) (y : Nat) (B : Nat) (hs : a.eval s = v) (hown : OwnI w base v l) (hx : a.eval x = .slice (some ⟨B, 0, none⟩) 1 1)
    (hc : w.cell? ⟨B, 0, none⟩ = some (.int .i64 (y : Int))) (hl : l.length ≤ 1000) (hbase : base ≤ w.heap.size)
    (h : ∀ g cap w', OwnI w' base (.slice (some ⟨g, 0, none⟩) (l.length + 1) cap) (l ++ [y]) → w.grownBy w' v.ownBlock → wpList Tryd.prog ops Q rest (a.put o.dst (.slice (some ⟨g, 0, none⟩) (l.length + 1) cap)) w') :
    wpList Tryd.prog ops Q (o :: rest) a w := by
  obtain ⟨i0, hi, hz0, hz1, hz2⟩ := info_parts infoI
  refine wpList_append_own w hgd s x 59 ho base 3 i0 (.int .i64 0) 1 8 Tryd.underlying59 hi hz0 hz1 hz2 rfl (by decide) v l.length (l.map iv) hs hown ⟨B, 0, none⟩ 1 1 [iv y] hx rfl ?_ ?_ (by unfold maxLen; omega) (by omega) hbase ?_
  · intro j u hu
    rcases j with _ | j
    · simp at hu; subst hu; simpa [Addr.add, iv] using hc
    · simp at hu
  · intro u hu; simp at hu; subst hu; rfl
  · intro v' w' ho' hg _
    obtain ⟨g, cap, rfl, -, -⟩ := World.ownsRow.form ho' (by omega)
    exact h g cap w' (by unfold OwnI; simpa using ho') hg
theorem OwnI.below {w wr w' : World} {n : Nat} {v : Value} {l : List Nat} {o : Obj} (hI : OwnI wr n v l) (hB : Below n w wr) (hn : n ≤ wr.heap.size) (hg : (wr.alloc o).grownBy w' v.ownBlock) : Below n w w' :=
  (hB.alloc hn o).grown hg (by simp; omega) fun k hk => (World.ownsRow.lt hI k hk).1
end Go.Proofs.YtikgefcbmoomjaaDoor

/- Slices of words of 32 bits of a call's own. -/
namespace Go.Proofs.YtikgefcbmoomjaaDoor
open Go.RowKit
set_option maxRecDepth 100000
/-- a slice of words of the call's own that reads as l -/
def OwnW (w : World) (base : Nat) (v : Value) (l : List (BitVec 32)) : Prop := w.ownsRow base 61 1 v l.length (Wd l)
theorem OwnW.ws {w : World} {base : Nat} {v : Value} {l : List (BitVec 32)} (h : OwnW w base v l) (hl : 0 < l.length) : WsAt w v l := by
  obtain ⟨g, cap, rfl, -, hg⟩ := World.ownsRow.form h hl
  refine ⟨g, 0, cap, rfl, hg, fun j hj => ?_⟩
  have := World.ownsRow.cellAt h j (by omega)
  rw [Nat.zero_add, this]
  simp [List.getD, hj, Wd]
theorem OwnW.alloc {w : World} {base : Nat} {v : Value} {l : List (BitVec 32)} (h : OwnW w base v l) (o : Obj) : OwnW (w.alloc o) base v l := World.ownsRow.alloc h o
theorem OwnW.drewN {w : World} {base : Nat} {v : Value} {l : List (BitVec 32)} (h : OwnW w base v l) (n : Nat) : OwnW (w.drewN n) base v l := h
theorem OwnW.on {w w' : World} {base : Nat} {v : Value} {l : List (BitVec 32)} (h : OwnW w base v l) (hb : Below w.heap.size w w') : OwnW w' base v l := by
  refine ⟨h.1, ?_⟩
  rcases h.2 with h2 | ⟨g, cap, cur, e, hg, hc, h3⟩
  · exact Or.inl h2
  · exact Or.inr ⟨g, cap, cur, e, hg, by rw [hb.block g (Array.getElem?_eq_some_iff.1 hc).1]; exact hc, h3⟩
theorem OwnW.empty (w : World) (base : Nat) (hb : base ≤ w.heap.size) : OwnW (w.alloc (.cells #[] 61)) base (.slice (some ⟨w.heap.size, 0, none⟩) 0 0) [] :=
  World.ownsRow_lit w #[] 0 hb (by decide) rfl
theorem infoW : (Tryd.prog.info? 61).map (fun i => (i.zero, i.size, i.bytes)) = some (some (.int .u32 0), 1, 4) := by kernel_rfl
/-- one word put behind a slice of the call's own -/
theorem append_w {ops : Array Oper} {rest : List Oper} {o : Oper} {a : Act} {Q : Exit → Act → World → Prop} {w : World} (hgd : o.guard = none) (s x : Operand)
    (ho : o.op = .call { callee := .builtin .append, args := #[s, x], argTypes := #[28, 28] })
    (base : Nat) (v : Value) (l : List (BitVec 32)) (y : BitVec 32) (B : Nat) (hs : a.eval s = v) (hown : OwnW w base v l) (hx : a.eval x = .slice (some ⟨B, 0, none⟩) 1 1)
    (hc : w.cell? ⟨B, 0, none⟩ = some (.int .u32 (y.toNat : Int))) (hl : l.length ≤ 1000) (hbase : base ≤ w.heap.size)
    (h : ∀ g cap w', OwnW w' base (.slice (some ⟨g, 0, none⟩) (l.length + 1) cap) (l ++ [y]) → w.grownBy w' v.ownBlock → wpList Tryd.prog ops Q rest (a.put o.dst (.slice (some ⟨g, 0, none⟩) (l.length + 1) cap)) w') :
    wpList Tryd.prog ops Q (o :: rest) a w := by
  obtain ⟨i0, hi, hz0, hz1, hz2⟩ := info_parts infoW
  refine wpList_append_own w hgd s x 28 ho base 61 i0 (.int .u32 0) 1 4 Tryd.underlying28 hi hz0 hz1 hz2 rfl (by decide) v l.length (Wd l) hs hown ⟨B, 0, none⟩ 1 1 [.int .u32 (y.toNat : Int)] hx rfl ?_ ?_ (by unfold maxLen; omega) (by omega) hbase ?_
  · intro j u hu
    rcases j with _ | j
    · simp at hu; subst hu; simpa [Addr.add] using hc
    · simp at hu
  · intro u hu; simp at hu; subst hu; rfl
  · intro v' w' ho' hg _
    obtain ⟨g, cap, rfl, -, -⟩ := World.ownsRow.form ho' (by omega)
    exact h g cap w' (by unfold OwnW; simpa [Wd] using ho') hg
theorem OwnW.below {w wr w' : World} {n : Nat} {v : Value} {l : List (BitVec 32)} {o : Obj} (hI : OwnW wr n v l) (hB : Below n w wr) (hn : n ≤ wr.heap.size) (hg : (wr.alloc o).grownBy w' v.ownBlock) : Below n w w' :=
  (hB.alloc hn o).grown hg (by simp; omega) fun k hk => (World.ownsRow.lt hI k hk).1
theorem OwnW.ne {w : World} {base : Nat} {v : Value} {l : List (BitVec 32)} (h : OwnW w base v l) (hl : 0 < l.length) (n : Nat) (hn : n < base) : ∀ b k c, v = .slice (some b) k c → b.block ≠ n := by
  obtain ⟨g, cap, rfl, hb, -⟩ := World.ownsRow.form h hl
  intro b k c e
  cases e
  show g ≠ n
  omega
theorem OwnW.cell {w : World} {base G n cap : Nat} {l : List (BitVec 32)} (h : OwnW w base (.slice (some ⟨G, 0, none⟩) n cap) l) (hn : n = l.length) (j : Nat) (hj : j < l.length) : w.cell? ⟨G, j, none⟩ = some (.int .u32 ((l.getD j 0).toNat : Int)) := by
  subst hn
  have := World.ownsRow.cellAt h j (by omega)
  rw [this]
  simp [List.getD, hj, Wd]
/-- words that lie somewhere put behind a slice of the call's own -/
theorem append_ws {ops : Array Oper} {rest : List Oper} {o : Oper} {a : Act} {Q : Exit → Act → World → Prop} {w : World} (hgd : o.guard = none) (s x : Operand)
    (ho : o.op = .call { callee := .builtin .append, args := #[s, x], argTypes := #[28, 28] })
    (base : Nat) (v : Value) (l news : List (BitVec 32)) (b off cap m : Nat) (hs : a.eval s = v) (hown : OwnW w base v l) (hx : a.eval x = .slice (some ⟨b, off, none⟩) m cap) (hm : m = news.length) (hm0 : 0 < m)
    (hv : WsAt w (.slice (some ⟨b, off, none⟩) m cap) news) (hl : l.length + m ≤ 1000) (hbase : base ≤ w.heap.size)
    (h : ∀ g cap w', OwnW w' base (.slice (some ⟨g, 0, none⟩) (l.length + m) cap) (l ++ news) → w.grownBy w' v.ownBlock → wpList Tryd.prog ops Q rest (a.put o.dst (.slice (some ⟨g, 0, none⟩) (l.length + m) cap)) w') :
    wpList Tryd.prog ops Q (o :: rest) a w := by
  obtain ⟨i0, hi, hz0, hz1, hz2⟩ := info_parts infoW
  obtain ⟨b', off', cap', e, -, hc⟩ := hv
  obtain ⟨rfl, rfl⟩ : b = b' ∧ off = off' := by have h1 := e; simp at h1; exact h1.1
  refine wpList_append_own w hgd s x 28 ho base 61 i0 (.int .u32 0) 1 4 Tryd.underlying28 hi hz0 hz1 hz2 rfl (by decide) v l.length (Wd l) hs hown ⟨b, off, none⟩ m cap (Wd news) hx (by rw [Wd_length, hm]; simp) ?_ ?_ (by unfold maxLen; omega) (by omega) hbase ?_
  · intro j u hu
    rw [show (⟨b, off, none⟩ : Addr).add j = ⟨b, off + j, none⟩ by rw [Addr.add_mid]]
    have hj : j < news.length := by
      have := (List.getElem?_eq_some_iff.1 hu).1
      rwa [Wd_length] at this
    rw [hc j hj, ← hu]
    simp [Wd, hj]
  · intro u hu; exact Wd_cells news u hu
  · intro v' w' ho' hg _
    obtain ⟨g, c, rfl, -, -⟩ := World.ownsRow.form ho' (by omega)
    refine h g c w' ?_ hg
    unfold OwnW
    rw [List.length_append, ← hm]
    simpa [Wd] using ho'
theorem OwnW.frozen {w : World} {base g n cap : Nat} {l : List (BitVec 32)} (h : OwnW w base (.slice (some ⟨g, 0, none⟩) n cap) l) (i : Nat) : w.frozen? ⟨g, i, none⟩ = false := by
  rcases h.2 with ⟨e, -⟩ | ⟨g', cap', cur, e, -, hc, -⟩
  · cases e
  · cases e; exact frozen_of_row _ _ _ _ _ hc
/-- a word stored into a slice of the call's own -/
theorem OwnW.set {w : World} {base g n cap : Nat} {l : List (BitVec 32)} (h : OwnW w base (.slice (some ⟨g, 0, none⟩) n cap) l) (i : Nat) (_hi : i < l.length) (x : BitVec 32) : OwnW (w.setCell ⟨g, i, none⟩ (.int .u32 (x.toNat : Int))) base (.slice (some ⟨g, 0, none⟩) n cap) (l.set i x) := by
  unfold OwnW at *
  rw [List.length_set]
  refine ⟨by simp [Wd], ?_⟩
  rcases h.2 with ⟨e, -⟩ | ⟨g', cap', cur, e, hb, hc, h1, h2, h3, h4⟩
  · cases e
  · cases e
    refine Or.inr ⟨g, cap, cur.setIfInBounds i (.int .u32 (x.toNat : Int)), rfl, hb, heap_setCell_same w g i _ _ _ hc, h1, h2, by simpa using h3, ?_⟩
    rw [Array.toList_setIfInBounds, List.take_set, h4]
    simp [Wd, List.map_set]
end Go.Proofs.YtikgefcbmoomjaaDoor
