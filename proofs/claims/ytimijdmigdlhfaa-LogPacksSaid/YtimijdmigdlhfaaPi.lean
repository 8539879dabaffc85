/- Slices of parts of a call's own: appends, and that they can be read. -/
import Derived.Test.YtimijdmigdlhfaaPd
namespace Go.Proofs.Ytimijdmigdlhfaa
open Go.RowKit Go.Sort
set_option maxRecDepth 100000
def pcs (p : Pt) : List Value := [.bool p.text, .int .u64 (p.n : Int), .string p.s]
def Pc (l : List Pt) : List Value := l.flatMap pcs
theorem Pc_cons (p : Pt) (l : List Pt) : Pc (p :: l) = pcs p ++ Pc l := by unfold Pc; rw [List.flatMap_cons]
theorem Pc_append (a b : List Pt) : Pc (a ++ b) = Pc a ++ Pc b := List.flatMap_append
theorem Pc_length (l : List Pt) : (Pc l).length = l.length * 3 := by
  induction l with
  | nil => rfl
  | cons p l ih => rw [Pc_cons, List.length_append, ih, List.length_cons]; simp [pcs]; omega
theorem Pc_get (l : List Pt) (i : Nat) (h : i < l.length) : (Pc l)[i * 3]? = some (.bool (l.getD i p0).text) ∧ (Pc l)[i * 3 + 1]? = some (.int .u64 ((l.getD i p0).n : Int)) ∧ (Pc l)[i * 3 + 2]? = some (.string (l.getD i p0).s) := by
  induction l generalizing i with
  | nil => simp at h
  | cons p l ih =>
    rw [Pc_cons]
    rcases i with _ | i
    · simp [pcs]
    · have e : (i + 1) * 3 = (pcs p).length + i * 3 := by simp [pcs]; omega
      have := ih i (by simpa using h)
      rw [e]
      refine ⟨?_, ?_, ?_⟩
      · rw [List.getElem?_append_right (by omega), Nat.add_sub_cancel_left]; simpa using this.1
      · rw [show (pcs p).length + i * 3 + 1 = (pcs p).length + (i * 3 + 1) by omega, List.getElem?_append_right (by omega), Nat.add_sub_cancel_left]; simpa using this.2.1
      · rw [show (pcs p).length + i * 3 + 2 = (pcs p).length + (i * 3 + 2) by omega, List.getElem?_append_right (by omega), Nat.add_sub_cancel_left]; simpa using this.2.2
theorem Pc_one (l : List Pt) : ∀ u ∈ Pc l, u.oneCell' = true := by
  intro u hu
  unfold Pc at hu
  rw [List.mem_flatMap] at hu
  obtain ⟨p, -, hp⟩ := hu
  simp only [pcs, List.mem_cons, List.mem_nil_iff, or_false] at hp
  rcases hp with rfl | rfl | rfl <;> rfl
theorem Pc_at {w : World} {b off : Nat} {l : List Pt} (h : ∀ i, i < l.length → PtAt w b (off + i * 3) (l.getD i p0)) (j : Nat) (u : Value) (hu : (Pc l)[j]? = some u) : w.cell? ⟨b, off + j, none⟩ = some u := by
  have hj : j < l.length * 3 := by
    rw [← Pc_length]
    exact (List.getElem?_eq_some_iff.1 hu).1
  have hi : j / 3 < l.length := by omega
  obtain ⟨g0, g1, g2⟩ := Pc_get l (j / 3) hi
  have hp := h (j / 3) hi
  have h3 : j % 3 = 0 ∨ j % 3 = 1 ∨ j % 3 = 2 := by omega
  rcases h3 with h3 | h3 | h3
  · have e : j = j / 3 * 3 := by omega
    rw [e] at hu
    rw [g0] at hu
    cases hu
    have := hp.c0
    rw [← e] at this
    exact this
  · have e : j = j / 3 * 3 + 1 := by omega
    rw [e, g1] at hu
    cases hu
    have := hp.c1
    rw [Nat.add_assoc, ← e] at this
    exact this
  · have e : j = j / 3 * 3 + 2 := by omega
    rw [e, g2] at hu
    cases hu
    have := hp.c2
    rw [Nat.add_assoc, ← e] at this
    exact this
theorem infoP : (Try.prog.info? 65).map (fun i => (i.zero, i.size, i.bytes)) = some (some (.agg #[.bool false, .int .u64 0, .string ⟨#[]⟩]), 3, 32) := by kernel_rfl
/-- a slice of parts of the call's own (blocks from base on) that reads as l -/
def OwnP (w : World) (base : Nat) (v : Value) (l : List Pt) : Prop := w.ownsRow base 65 3 v l.length (Pc l)
theorem OwnP.nil (w : World) (base : Nat) : OwnP w base (.slice none 0 0) [] := ⟨rfl, .inl ⟨rfl, rfl⟩⟩
theorem OwnP.alloc {w : World} {base : Nat} {v : Value} {l : List Pt} (h : OwnP w base v l) (o : Obj) : OwnP (w.alloc o) base v l := World.ownsRow.alloc h o
theorem OwnP.on {w w' : World} {base : Nat} {v : Value} {l : List Pt} (h : OwnP w base v l) (hb : Below w.heap.size w w') : OwnP w' base v l := by
  refine ⟨h.1, ?_⟩
  rcases h.2 with h2 | ⟨g, cap, cur, e, hg, hc, h3⟩
  · exact Or.inl h2
  · exact Or.inr ⟨g, cap, cur, e, hg, by rw [hb.block g (Array.getElem?_eq_some_iff.1 hc).1]; exact hc, h3⟩
theorem OwnP.empty (w : World) (base : Nat) (hb : base ≤ w.heap.size) : OwnP (w.alloc (.cells #[] 65)) base (.slice (some ⟨w.heap.size, 0, none⟩) 0 0) [] :=
  ⟨rfl, .inr ⟨w.heap.size, 0, #[], rfl, hb, heap_alloc_new w _, Nat.le_refl _, by unfold maxLen; omega, rfl, rfl⟩⟩
/-- it is a slice that can be read -/
theorem OwnP.psl {w : World} {base : Nat} {v : Value} {l : List Pt} (h : OwnP w base v l) : ∃ (a : Option Addr) (c : Nat), v = .slice a l.length c ∧ l.length ≤ c ∧ PSl w a l := by
  rcases h.2 with ⟨rfl, h0⟩ | ⟨g, cap, cur, rfl, hg, hc, hcap, -⟩
  · refine ⟨none, 0, by rw [h0], by omega, fun hp => ?_⟩
    omega
  · refine ⟨some ⟨g, 0, none⟩, cap, rfl, hcap, fun _ => ⟨g, 0, rfl, (Array.getElem?_eq_some_iff.1 hc).1, fun i hi => ?_⟩⟩
    obtain ⟨g0, g1, g2⟩ := Pc_get l i hi
    have hcs := World.ownsRow.cells h (g := g) rfl
    have c0 := hcs _ _ g0
    have c1 := hcs _ _ g1
    have c2 := hcs _ _ g2
    rw [Addr.add_mid] at c0 c1 c2
    exact ⟨c0, by rw [Nat.add_assoc]; exact c1, by rw [Nat.add_assoc]; exact c2⟩
theorem OwnP.below {w w0 w' : World} {base : Nat} {v : Value} {l : List Pt} (h : OwnP w base v l) (hB : Below base w0 w) (hb : base ≤ w.heap.size) (hg : w.grownBy w' v.ownBlock) : Below base w0 w' :=
  hB.grown hg hb fun k hk => (World.ownsRow.lt h k hk).1
/-- what is no row of parts stands as it was -/
theorem OwnP.keeps {w w' : World} {base : Nat} {v : Value} {l : List Pt} (h : OwnP w base v l) (hg : w.grownBy w' v.ownBlock) (k : Nat) (cs : Array Value) (t : TypeId) (fr : Nat × Nat) (h1 : w.heap[k]? = some (.cells cs t fr)) (h2 : t ≠ 65) : w'.heap[k]? = some (.cells cs t fr) := by
  rw [hg.block k (Array.getElem?_eq_some_iff.1 h1).1 ?_]
  · exact h1
  · intro e
    rcases h.2 with ⟨rfl, -⟩ | ⟨g, cap, cur, rfl, -, hc, -⟩
    · cases e
    · cases e
      rw [h1] at hc
      cases hc
      exact h2 rfl
/-- append(own, parts...), whether those are none, or nil, or some -/
theorem run_append_ps (w : World) (ty : TypeId) (base : Nat) (v : Value) (l : List Pt) (b : Option Addr) (c : Nat) (m : List Pt) (hown : OwnP w base v l) (hq : PSl w b m) (hl : l.length + m.length ≤ 100000) (hbase : base ≤ w.heap.size) :
    ∃ v' w', (Builtin.append_ #[78, 78] ty #[v, .slice b m.length c]).run Try.prog w = .ok v' w' ∧ OwnP w' base v' (l ++ m) ∧ w.grownBy w' v.ownBlock := by
  obtain ⟨i0, hi, hz0, hz1, hz2⟩ := info_parts infoP
  have hall : ∀ (ad : Addr) (news : List Value), b = some ad → news = Pc m → (∀ j u, news[j]? = some u → w.cell? (ad.add j) = some u) →
      ∃ v' w', (Builtin.append_ #[78, 78] ty #[v, .slice b m.length c]).run Try.prog w = .ok v' w' ∧ OwnP w' base v' (l ++ m) ∧ w.grownBy w' v.ownBlock := by
    rintro ad news rfl rfl hnews
    obtain ⟨v', w', hr, h2, h3, -⟩ := run_append_own (P := Try.prog) w base 78 ty 65 i0 (.agg #[.bool false, .int .u64 0, .string ⟨#[]⟩]) 3 32 Try.underlying78 hi hz0 hz1 hz2 rfl (by decide) v l.length (Pc l) hown ad m.length c (Pc m) (Pc_length m) hnews (Pc_one m) (by unfold maxLen; omega) (by omega) hbase
    refine ⟨v', w', hr, ?_, h3⟩
    unfold OwnP
    rw [List.length_append, Pc_append]
    exact h2
  by_cases h0 : 0 < m.length
  · obtain ⟨g, off, rfl, hlt, hc⟩ := hq h0
    exact hall _ _ rfl rfl fun j u hu => by rw [Addr.add_mid]; exact Pc_at hc j u hu
  · obtain rfl : m = [] := List.eq_nil_of_length_eq_zero (by omega)
    cases b with
    | some ad => exact hall ad [] rfl rfl (fun j u hu => by simp at hu)
    | none =>
      refine ⟨v, w, ?_, by rw [List.append_nil]; exact hown, ⟨rfl, rfl, rfl, Nat.le_refl _, fun _ _ _ => rfl⟩⟩
      rcases hown.2 with ⟨rfl, h0⟩ | ⟨g, cap, cur, rfl, hg, hc, hcap, -⟩
      · simp [Builtin.append_, run_underlying Try.underlying78, sizeOf, typeInfo, hi, Builtin.lenOf, Builtin.firstCells]
      · simp [Builtin.append_, run_underlying Try.underlying78, sizeOf, typeInfo, hi, Builtin.lenOf, Builtin.firstCells, loadCells, hcap, storeCells]
theorem append_ps {ops : Array Oper} {rest : List Oper} {o : Oper} {a : Act} {Q : Exit → Act → World → Prop} {w : World} (hgd : o.guard = none) (s x : Operand)
    (ho : o.op = .call { callee := .builtin .append, args := #[s, x], argTypes := #[78, 78] })
    (base : Nat) (v : Value) (l : List Pt) (b : Option Addr) (n c : Nat) (m : List Pt) (hn : n = m.length) (hs : a.eval s = v) (hx : a.eval x = .slice b n c) (hown : OwnP w base v l) (hq : PSl w b m) (hl : l.length + m.length ≤ 100000) (hbase : base ≤ w.heap.size)
    (h : ∀ v' w', OwnP w' base v' (l ++ m) → w.grownBy w' v.ownBlock → wpList Try.prog ops Q rest (a.put o.dst v') w') :
    wpList Try.prog ops Q (o :: rest) a w := by
  subst hn
  obtain ⟨v', w', hr, h2, h3⟩ := run_append_ps w o.type base v l b c m hown hq hl hbase
  refine wpList_plain hgd fun K hK => ?_
  unfold Oper.wp execOp
  simp only [ho, resolve, invoke, builtin, Sem.run_bind, Sem.run_pure, Result.andThen_ok, List.map_toArray, List.map_cons, List.map_nil, hs, hx, hr]
  exact hK _ _ (h v' w' h2 h3)
theorem step_append_ps {ops : Array Oper} {o : Oper} {a : Act} {w : World} {K : Act → World → Prop} {Q : Exit → Act → World → Prop} {E : Prop} (hgd : o.guard = none) (s x : Operand)
    (ho : o.op = .call { callee := .builtin .append, args := #[s, x], argTypes := #[78, 78] })
    (base : Nat) (v : Value) (l : List Pt) (b : Option Addr) (n c : Nat) (m : List Pt) (hn : n = m.length) (hs : a.eval s = v) (hx : a.eval x = .slice b n c) (hown : OwnP w base v l) (hq : PSl w b m) (hl : l.length + m.length ≤ 100000) (hbase : base ≤ w.heap.size)
    (h : ∀ v' w', OwnP w' base v' (l ++ m) → w.grownBy w' v.ownBlock → K (a.put o.dst v') w') :
    if Region.wanted o (yielded ops a.tmps) = true then Oper.wp Try.prog o a w K Q else E := by
  subst hn
  have hw : Region.wanted o (yielded ops a.tmps) = true := by simp [Region.wanted, hgd]
  rw [if_pos hw]
  obtain ⟨v', w', hr, h2, h3⟩ := run_append_ps w o.type base v l b c m hown hq hl hbase
  unfold Oper.wp execOp
  simp only [ho, resolve, invoke, builtin, Sem.run_bind, Sem.run_pure, Result.andThen_ok, List.map_toArray, List.map_cons, List.map_nil, hs, hx, hr]
  exact h v' w' h2 h3
/-- one part that was laid alone -/
theorem PSl.one {w : World} {B : Nat} {p : Pt} (h : PtAt w B 0 p) : PSl w (some ⟨B, 0, none⟩) [p] := fun _ =>
  ⟨B, 0, rfl, World.block_lt_of_cell? w _ h.c0, fun i hi => by
    obtain rfl : i = 0 := by simpa using hi
    exact h⟩
end Go.Proofs.Ytimijdmigdlhfaa