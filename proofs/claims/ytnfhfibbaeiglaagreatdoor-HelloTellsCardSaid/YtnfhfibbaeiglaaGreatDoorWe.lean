/- Slices of pairs of a call's own: appends, and that they can be read. -/
import Derived.Test.YtnfhfibbaeiglaaGreatDoorWb
namespace Go.Proofs.YtnfhfibbaeiglaaGreatDoor
open Go.RowKit Go.Sort
set_option maxRecDepth 100000

def hcs2 (p : Pr2) : List Value := [.string p.1, .string p.2]
def Hc (l : List Pr2) : List Value := l.flatMap hcs2
theorem Hc_cons (p : Pr2) (l : List Pr2) : Hc (p :: l) = hcs2 p ++ Hc l := by unfold Hc; rw [List.flatMap_cons]
theorem Hc_append (a b : List Pr2) : Hc (a ++ b) = Hc a ++ Hc b := List.flatMap_append
theorem Hc_length (l : List Pr2) : (Hc l).length = l.length * 2 := by
  induction l with
  | nil => rfl
  | cons p l ih => rw [Hc_cons, List.length_append, ih, List.length_cons]; simp [hcs2]; omega
theorem Hc_get (l : List Pr2) (i : Nat) (h : i < l.length) : (Hc l)[i * 2]? = some (.string (l.getD i pr0).1) ∧ (Hc l)[i * 2 + 1]? = some (.string (l.getD i pr0).2) := by
  induction l generalizing i with
  | nil => simp at h
  | cons p l ih =>
    rw [Hc_cons]
    rcases i with _ | i
    · simp [hcs2]
    · have e : (i + 1) * 2 = (hcs2 p).length + i * 2 := by simp [hcs2]; omega
      have := ih i (by simpa using h)
      rw [e]
      refine ⟨?_, ?_⟩
      · rw [List.getElem?_append_right (by omega), Nat.add_sub_cancel_left]; simpa using this.1
      · rw [show (hcs2 p).length + i * 2 + 1 = (hcs2 p).length + (i * 2 + 1) by omega, List.getElem?_append_right (by omega), Nat.add_sub_cancel_left]; simpa using this.2
theorem Hc_one (l : List Pr2) : ∀ u ∈ Hc l, u.oneCell' = true := by
  intro u hu
  unfold Hc at hu
  rw [List.mem_flatMap] at hu
  obtain ⟨p, -, hp⟩ := hu
  simp only [hcs2, List.mem_cons, List.mem_nil_iff, or_false] at hp
  rcases hp with rfl | rfl <;> rfl
theorem Hc_at {w : World} {b off : Nat} {l : List Pr2} (h : ∀ i, i < l.length → PrAt w b (off + i * 2) (l.getD i pr0)) (j : Nat) (u : Value) (hu : (Hc l)[j]? = some u) : w.cell? ⟨b, off + j, none⟩ = some u := by
  have hj : j < l.length * 2 := by
    rw [← Hc_length]
    exact (List.getElem?_eq_some_iff.1 hu).1
  have hi : j / 2 < l.length := by omega
  obtain ⟨g0, g1⟩ := Hc_get l (j / 2) hi
  have hp := h (j / 2) hi
  have h3 : j % 2 = 0 ∨ j % 2 = 1 := by omega
  rcases h3 with h3 | h3
  · have e : j = j / 2 * 2 := by omega
    rw [e] at hu
    rw [g0] at hu
    cases hu
    have := hp.c0
    rw [← e] at this
    exact this
  · have e : j = j / 2 * 2 + 1 := by omega
    rw [e, g1] at hu
    cases hu
    have := hp.c1
    rw [Nat.add_assoc, ← e] at this
    exact this
theorem infoH : (Tryz.prog.info? 34).map (fun i => (i.zero, i.size, i.bytes)) = some (some (.agg #[.string ⟨#[]⟩, .string ⟨#[]⟩]), 2, 32) := by kernel_rfl
/-- a slice of pairs of the call's own (blocks from base on) that reads as l -/
def OwnR (w : World) (base : Nat) (v : Value) (l : List Pr2) : Prop := w.ownsRow base 34 2 v l.length (Hc l)
theorem OwnR.nil (w : World) (base : Nat) : OwnR w base (.slice none 0 0) [] := ⟨rfl, .inl ⟨rfl, rfl⟩⟩
theorem OwnR.alloc {w : World} {base : Nat} {v : Value} {l : List Pr2} (h : OwnR w base v l) (o : Obj) : OwnR (w.alloc o) base v l := World.ownsRow.alloc h o
theorem OwnR.on {w w' : World} {base : Nat} {v : Value} {l : List Pr2} (h : OwnR w base v l) (hb : Below w.heap.size w w') : OwnR w' base v l := by
  refine ⟨h.1, ?_⟩
  rcases h.2 with h2 | ⟨g, cap, cur, e, hg, hc, h3⟩
  · exact Or.inl h2
  · exact Or.inr ⟨g, cap, cur, e, hg, by rw [hb.block g (Array.getElem?_eq_some_iff.1 hc).1]; exact hc, h3⟩
/-- a row that was laid whole -/
theorem OwnR.made (w : World) (base : Nat) (l : List Pr2) (n : Nat) (hn : n = l.length) (hb : base ≤ w.heap.size) (hl : l.length ≤ 1000) : OwnR (w.alloc (.cells (Hc l).toArray 34)) base (.slice (some ⟨w.heap.size, 0, none⟩) n n) l := by
  subst hn
  refine ⟨Hc_length l, .inr ⟨w.heap.size, l.length, (Hc l).toArray, rfl, hb, heap_alloc_new w _, Nat.le_refl _, by unfold maxLen; omega, ?_, ?_⟩⟩
  · rw [List.size_toArray, Hc_length]
  · rw [← Hc_length, List.take_length]
/-- it is a slice that can be read -/
theorem OwnR.prl {w : World} {base : Nat} {v : Value} {l : List Pr2} (h : OwnR w base v l) : ∃ (a : Option Addr) (c : Nat), v = .slice a l.length c ∧ l.length ≤ c ∧ PrL w a l := by
  rcases h.2 with ⟨rfl, h0⟩ | ⟨g, cap, cur, rfl, hg, hc, hcap, -⟩
  · refine ⟨none, 0, by rw [h0], by omega, fun hp => ?_⟩
    omega
  · refine ⟨some ⟨g, 0, none⟩, cap, rfl, hcap, fun _ => ⟨g, 0, rfl, (Array.getElem?_eq_some_iff.1 hc).1, fun i hi => ?_⟩⟩
    obtain ⟨g0, g1⟩ := Hc_get l i hi
    have hcs := World.ownsRow.cells h (g := g) rfl
    have c0 := hcs _ _ g0
    have c1 := hcs _ _ g1
    rw [Addr.add_mid] at c0 c1
    exact ⟨c0, by rw [Nat.add_assoc]; exact c1⟩
theorem OwnR.below {w w0 w' : World} {base : Nat} {v : Value} {l : List Pr2} (h : OwnR w base v l) (hB : Below base w0 w) (hb : base ≤ w.heap.size) (hg : w.grownBy w' v.ownBlock) : Below base w0 w' :=
  hB.grown hg hb fun k hk => (World.ownsRow.lt h k hk).1
/-- append(own, pairs...), whether those are none, or nil, or some -/
theorem run_append_hs (w : World) (ty : TypeId) (base : Nat) (v : Value) (l : List Pr2) (b : Option Addr) (c : Nat) (m : List Pr2) (hown : OwnR w base v l) (hq : PrL w b m) (hl : l.length + m.length ≤ 100000) (hbase : base ≤ w.heap.size) :
    ∃ v' w', (Builtin.append_ #[35, 35] ty #[v, .slice b m.length c]).run Tryz.prog w = .ok v' w' ∧ OwnR w' base v' (l ++ m) ∧ w.grownBy w' v.ownBlock := by
  obtain ⟨i0, hi, hz0, hz1, hz2⟩ := info_parts infoH
  have hall : ∀ (ad : Addr) (news : List Value), b = some ad → news = Hc m → (∀ j u, news[j]? = some u → w.cell? (ad.add j) = some u) →
      ∃ v' w', (Builtin.append_ #[35, 35] ty #[v, .slice b m.length c]).run Tryz.prog w = .ok v' w' ∧ OwnR w' base v' (l ++ m) ∧ w.grownBy w' v.ownBlock := by
    rintro ad news rfl rfl hnews
    obtain ⟨v', w', hr, h2, h3, -⟩ := run_append_own (P := Tryz.prog) w base 35 ty 34 i0 (.agg #[.string ⟨#[]⟩, .string ⟨#[]⟩]) 2 32 Tryz.underlying35 hi hz0 hz1 hz2 rfl (by decide) v l.length (Hc l) hown ad m.length c (Hc m) (Hc_length m) hnews (Hc_one m) (by unfold maxLen; omega) (by omega) hbase
    refine ⟨v', w', hr, ?_, h3⟩
    unfold OwnR
    rw [List.length_append, Hc_append]
    exact h2
  by_cases h0 : 0 < m.length
  · obtain ⟨g, off, rfl, hlt, hc⟩ := hq h0
    exact hall _ _ rfl rfl fun j u hu => by rw [Addr.add_mid]; exact Hc_at hc j u hu
  · obtain rfl : m = [] := List.eq_nil_of_length_eq_zero (by omega)
    cases b with
    | some ad => exact hall ad [] rfl rfl (fun j u hu => by simp at hu)
    | none =>
      refine ⟨v, w, ?_, by rw [List.append_nil]; exact hown, ⟨rfl, rfl, rfl, Nat.le_refl _, fun _ _ _ => rfl⟩⟩
      rcases hown.2 with ⟨rfl, h0⟩ | ⟨g, cap, cur, rfl, hg, hc, hcap, -⟩
      · simp [Builtin.append_, run_underlying Tryz.underlying35, sizeOf, typeInfo, hi, Builtin.lenOf, Builtin.firstCells]
      · simp [Builtin.append_, run_underlying Tryz.underlying35, sizeOf, typeInfo, hi, Builtin.lenOf, Builtin.firstCells, loadCells, hcap, storeCells]
theorem append_hs {ops : Array Oper} {rest : List Oper} {o : Oper} {a : Act} {Q : Exit → Act → World → Prop} {w : World} (hgd : o.guard = none) (s x : Operand)
    (ho : o.op = .call { callee := .builtin .append, args := #[s, x], argTypes := #[35, 35] })
    (base : Nat) (v : Value) (l : List Pr2) (b : Option Addr) (n c : Nat) (m : List Pr2) (hn : n = m.length) (hs : a.eval s = v) (hx : a.eval x = .slice b n c) (hown : OwnR w base v l) (hq : PrL w b m) (hl : l.length + m.length ≤ 100000) (hbase : base ≤ w.heap.size)
    (h : ∀ v' w', OwnR w' base v' (l ++ m) → w.grownBy w' v.ownBlock → wpList Tryz.prog ops Q rest (a.put o.dst v') w') :
    wpList Tryz.prog ops Q (o :: rest) a w := by
  subst hn
  obtain ⟨v', w', hr, h2, h3⟩ := run_append_hs w o.type base v l b c m hown hq hl hbase
  refine wpList_plain hgd fun K hK => ?_
  unfold Oper.wp execOp
  simp only [ho, resolve, invoke, builtin, Sem.run_bind, Sem.run_pure, Result.andThen_ok, List.map_toArray, List.map_cons, List.map_nil, hs, hx, hr]
  exact hK _ _ (h v' w' h2 h3)
/-- one pair that was laid alone -/
theorem PrL.one {w : World} {B : Nat} {p : Pr2} (h : PrAt w B 0 p) : PrL w (some ⟨B, 0, none⟩) [p] := fun _ =>
  ⟨B, 0, rfl, World.block_lt_of_cell? w _ h.c0, fun i hi => by
    obtain rfl : i = 0 := by simpa using hi
    exact h⟩
end Go.Proofs.YtnfhfibbaeiglaaGreatDoor
