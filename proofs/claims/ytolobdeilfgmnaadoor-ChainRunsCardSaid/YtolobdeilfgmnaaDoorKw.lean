/- Slices of words of 32 bits of a call's own. -/
import Derived.Test.YtolobdeilfgmnaaDoorRows
import Derived.Test.YtolobdeilfgmnaaDoorKa
namespace Go.Proofs.YtolobdeilfgmnaaDoor
open Go.RowKit
set_option maxRecDepth 100000
/-- a slice of words of the call's own that reads as l -/
def OwnW (w : World) (base : Nat) (v : Value) (l : List (BitVec 32)) : Prop := w.ownsRow base 63 1 v l.length (Wd l)
theorem OwnW.ws {w : World} {base : Nat} {v : Value} {l : List (BitVec 32)} (h : OwnW w base v l) (hl : 0 < l.length) : WsAt w v l := by
  obtain ⟨g, cap, rfl, -, hg⟩ := World.ownsRow.form h hl
  refine ⟨g, 0, cap, rfl, hg, fun j hj => ?_⟩
  have := World.ownsRow.cellAt h j (by omega)
  rw [Nat.zero_add, this]
  simp [List.getD, hj, Wd]
theorem OwnW.alloc {w : World} {base : Nat} {v : Value} {l : List (BitVec 32)} (h : OwnW w base v l) (o : Obj) : OwnW (w.alloc o) base v l := World.ownsRow.alloc h o
theorem OwnW.drewN {w : World} {base : Nat} {v : Value} {l : List (BitVec 32)} (h : OwnW w base v l) (n : Nat) : OwnW (w.drewN n) base v l := h
theorem OwnW.on {w w' : World} {base : Nat} {v : Value} {l : List (BitVec 32)} (h : OwnW w base v l) (hb : Below w.heap.size w w') : OwnW w' base v l := by
  refine ⟨h.1, ?_⟩
  rcases h.2 with h2 | ⟨g, cap, cur, e, hg, hc, h3⟩
  · exact Or.inl h2
  · exact Or.inr ⟨g, cap, cur, e, hg, by rw [hb.block g (Array.getElem?_eq_some_iff.1 hc).1]; exact hc, h3⟩
theorem OwnW.empty (w : World) (base : Nat) (hb : base ≤ w.heap.size) : OwnW (w.alloc (.cells #[] 63)) base (.slice (some ⟨w.heap.size, 0, none⟩) 0 0) [] :=
  World.ownsRow_lit w #[] 0 hb (by decide) rfl
theorem infoW : (Tryd.prog.info? 63).map (fun i => (i.zero, i.size, i.bytes)) = some (some (.int .u32 0), 1, 4) := by kernel_rfl
/-- one word put behind a slice of the call's own -/
theorem append_w {ops : Array Oper} {rest : List Oper} {o : Oper} {a : Act} {Q : Exit → Act → World → Prop} {w : World} (hgd : o.guard = none) (s x : Operand)
    (ho : o.op = .call { callee := .builtin .append, args := #[s, x], argTypes := #[27, 27] })
    (base : Nat) (v : Value) (l : List (BitVec 32)) (y : BitVec 32) (B : Nat) (hs : a.eval s = v) (hown : OwnW w base v l) (hx : a.eval x = .slice (some ⟨B, 0, none⟩) 1 1)
    (hc : w.cell? ⟨B, 0, none⟩ = some (.int .u32 (y.toNat : Int))) (hl : l.length ≤ 1000) (hbase : base ≤ w.heap.size)
    (h : ∀ g cap w', OwnW w' base (.slice (some ⟨g, 0, none⟩) (l.length + 1) cap) (l ++ [y]) → w.grownBy w' v.ownBlock → wpList Tryd.prog ops Q rest (a.put o.dst (.slice (some ⟨g, 0, none⟩) (l.length + 1) cap)) w') :
    wpList Tryd.prog ops Q (o :: rest) a w := by
  obtain ⟨i0, hi, hz0, hz1, hz2⟩ := info_parts infoW
  refine wpList_append_own w hgd s x 27 ho base 63 i0 (.int .u32 0) 1 4 Tryd.underlying27 hi hz0 hz1 hz2 rfl (by decide) v l.length (Wd l) hs hown ⟨B, 0, none⟩ 1 1 [.int .u32 (y.toNat : Int)] hx rfl ?_ ?_ (by unfold maxLen; omega) (by omega) hbase ?_
  · intro j u hu
    rcases j with _ | j
    · simp at hu; subst hu; simpa [Addr.add] using hc
    · simp at hu
  · intro u hu; simp at hu; subst hu; rfl
  · intro v' w' ho' hg _
    obtain ⟨g, cap, rfl, -, -⟩ := World.ownsRow.form ho' (by omega)
    exact h g cap w' (by unfold OwnW; simpa [Wd] using ho') hg
theorem OwnW.below {w wr w' : World} {n : Nat} {v : Value} {l : List (BitVec 32)} {o : Obj} (hI : OwnW wr n v l) (hB : Below n w wr) (hn : n ≤ wr.heap.size) (hg : (wr.alloc o).grownBy w' v.ownBlock) : Below n w w' :=
  (hB.alloc hn o).grown hg (by simp; omega) fun k hk => (World.ownsRow.lt hI k hk).1
theorem OwnW.ne {w : World} {base : Nat} {v : Value} {l : List (BitVec 32)} (h : OwnW w base v l) (hl : 0 < l.length) (n : Nat) (hn : n < base) : ∀ b k c, v = .slice (some b) k c → b.block ≠ n := by
  obtain ⟨g, cap, rfl, hb, -⟩ := World.ownsRow.form h hl
  intro b k c e
  cases e
  show g ≠ n
  omega
theorem OwnW.cell {w : World} {base G n cap : Nat} {l : List (BitVec 32)} (h : OwnW w base (.slice (some ⟨G, 0, none⟩) n cap) l) (hn : n = l.length) (j : Nat) (hj : j < l.length) : w.cell? ⟨G, j, none⟩ = some (.int .u32 ((l.getD j 0).toNat : Int)) := by
  subst hn
  have := World.ownsRow.cellAt h j (by omega)
  rw [this]
  simp [List.getD, hj, Wd]
/-- words that lie somewhere put behind a slice of the call's own -/
theorem append_ws {ops : Array Oper} {rest : List Oper} {o : Oper} {a : Act} {Q : Exit → Act → World → Prop} {w : World} (hgd : o.guard = none) (s x : Operand)
    (ho : o.op = .call { callee := .builtin .append, args := #[s, x], argTypes := #[27, 27] })
    (base : Nat) (v : Value) (l news : List (BitVec 32)) (b off cap m : Nat) (hs : a.eval s = v) (hown : OwnW w base v l) (hx : a.eval x = .slice (some ⟨b, off, none⟩) m cap) (hm : m = news.length) (hm0 : 0 < m)
    (hv : WsAt w (.slice (some ⟨b, off, none⟩) m cap) news) (hl : l.length + m ≤ 1000) (hbase : base ≤ w.heap.size)
    (h : ∀ g cap w', OwnW w' base (.slice (some ⟨g, 0, none⟩) (l.length + m) cap) (l ++ news) → w.grownBy w' v.ownBlock → wpList Tryd.prog ops Q rest (a.put o.dst (.slice (some ⟨g, 0, none⟩) (l.length + m) cap)) w') :
    wpList Tryd.prog ops Q (o :: rest) a w := by
  obtain ⟨i0, hi, hz0, hz1, hz2⟩ := info_parts infoW
  obtain ⟨b', off', cap', e, -, hc⟩ := hv
  obtain ⟨rfl, rfl⟩ : b = b' ∧ off = off' := by have h1 := e; simp at h1; exact h1.1
  refine wpList_append_own w hgd s x 27 ho base 63 i0 (.int .u32 0) 1 4 Tryd.underlying27 hi hz0 hz1 hz2 rfl (by decide) v l.length (Wd l) hs hown ⟨b, off, none⟩ m cap (Wd news) hx (by rw [Wd_length, hm]; simp) ?_ ?_ (by unfold maxLen; omega) (by omega) hbase ?_
  · intro j u hu
    rw [show (⟨b, off, none⟩ : Addr).add j = ⟨b, off + j, none⟩ by rw [Addr.add_mid]]
    have hj : j < news.length := by
      have := (List.getElem?_eq_some_iff.1 hu).1
      rwa [Wd_length] at this
    rw [hc j hj, ← hu]
    simp [Wd, hj]
  · intro u hu; exact Wd_cells news u hu
  · intro v' w' ho' hg _
    obtain ⟨g, c, rfl, -, -⟩ := World.ownsRow.form ho' (by omega)
    refine h g c w' ?_ hg
    unfold OwnW
    rw [List.length_append, ← hm]
    simpa [Wd] using ho'
theorem OwnW.frozen {w : World} {base g n cap : Nat} {l : List (BitVec 32)} (h : OwnW w base (.slice (some ⟨g, 0, none⟩) n cap) l) (i : Nat) : w.frozen? ⟨g, i, none⟩ = false := by
  rcases h.2 with ⟨e, -⟩ | ⟨g', cap', cur, e, -, hc, -⟩
  · cases e
  · cases e; exact frozen_of_row _ _ _ _ _ hc
/-- a word stored into a slice of the call's own -/
theorem OwnW.set {w : World} {base g n cap : Nat} {l : List (BitVec 32)} (h : OwnW w base (.slice (some ⟨g, 0, none⟩) n cap) l) (i : Nat) (_hi : i < l.length) (x : BitVec 32) : OwnW (w.setCell ⟨g, i, none⟩ (.int .u32 (x.toNat : Int))) base (.slice (some ⟨g, 0, none⟩) n cap) (l.set i x) := by
  unfold OwnW at *
  rw [List.length_set]
  refine ⟨by simp [Wd], ?_⟩
  rcases h.2 with ⟨e, -⟩ | ⟨g', cap', cur, e, hb, hc, h1, h2, h3, h4⟩
  · cases e
  · cases e
    refine Or.inr ⟨g, cap, cur.setIfInBounds i (.int .u32 (x.toNat : Int)), rfl, hb, heap_setCell_same w g i _ _ _ hc, h1, h2, by simpa using h3, ?_⟩
    rw [Array.toList_setIfInBounds, List.take_set, h4]
    simp [Wd, List.map_set]
end Go.Proofs.YtolobdeilfgmnaaDoor