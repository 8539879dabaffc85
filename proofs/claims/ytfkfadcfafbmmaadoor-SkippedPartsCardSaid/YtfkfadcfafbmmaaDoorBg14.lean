/- The texts Xb, Xc, Xd, Xe, Xg, one behind the other. -/
import Derived.Test.YtfkfadcfafbmmaaDoorBg13
import Derived.Test.YtfkfadcfafbmmaaDoorRows
import Derived.Deep.Onto
import Derived.BigQuiet
/- Kept keys in memory: slices that can be read, slices of the call's own, appends. -/
namespace Go.Proofs.YtfkfadcfafbmmaaDoor
open Go.RowKit Go.Sort
set_option maxRecDepth 100000
def k00 : Kk := ⟨⟨#[]⟩, 0, ⟨#[]⟩⟩
def kkv (p : Kk) : Value := .agg #[.string p.r, .int .u64 (p.n : Int), .string p.k]
/-- three cells that are a kept key -/
structure KkAt (w : World) (b o : Nat) (p : Kk) : Prop where
  c0 : w.cell? ⟨b, o, none⟩ = some (.string p.r)
  c1 : w.cell? ⟨b, o + 1, none⟩ = some (.int .u64 (p.n : Int))
  c2 : w.cell? ⟨b, o + 2, none⟩ = some (.string p.k)
theorem KkAt.on {w w' : World} {b o : Nat} {p : Kk} (h : KkAt w b o p) (hb : Below w.heap.size w w') : KkAt w' b o p := by
  have hlt := World.block_lt_of_cell? w _ h.c0
  exact ⟨by rw [hb.cell (p := ⟨b, o, none⟩) hlt]; exact h.c0, by rw [hb.cell (p := ⟨b, o + 1, none⟩) hlt]; exact h.c1, by rw [hb.cell (p := ⟨b, o + 2, none⟩) hlt]; exact h.c2⟩
theorem KkAt.below {w w' : World} {n b o : Nat} {p : Kk} (h : KkAt w b o p) (hb : Below n w w') (hB : b < n) : KkAt w' b o p :=
  ⟨by rw [hb.cell (p := ⟨b, o, none⟩) hB]; exact h.c0, by rw [hb.cell (p := ⟨b, o + 1, none⟩) hB]; exact h.c1, by rw [hb.cell (p := ⟨b, o + 2, none⟩) hB]; exact h.c2⟩
theorem KkAt.fresh (w : World) (p : Kk) (t : TypeId) : KkAt (w.alloc (.cells #[.string p.r, .int .u64 (p.n : Int), .string p.k] t)) w.heap.size 0 p := by
  have hH := heap_alloc_new w (.cells #[.string p.r, .int .u64 (p.n : Int), .string p.k] t)
  exact ⟨by rw [cell_of_row _ _ _ _ _ _ hH]; rfl, by rw [cell_of_row _ _ _ _ _ _ hH]; rfl, by rw [cell_of_row _ _ _ _ _ _ hH]; rfl⟩
/-- a slice of kept keys, nil or not, that reads as l -/
def KSl (w : World) (a : Option Addr) (l : List Kk) : Prop :=
  0 < l.length → ∃ b off : Nat, a = some ⟨b, off, none⟩ ∧ b < w.heap.size ∧ ∀ i, i < l.length → KkAt w b (off + i * 3) (l.getD i k00)
theorem KSl.on {w w' : World} {a : Option Addr} {l : List Kk} (h : KSl w a l) (hb : Below w.heap.size w w') : KSl w' a l := by
  intro h0
  obtain ⟨b, off, ha, hlt, hc⟩ := h h0
  exact ⟨b, off, ha, Nat.lt_of_lt_of_le hlt hb.size, fun i hi => (hc i hi).on hb⟩
theorem KSl.nil (w : World) (a : Option Addr) : KSl w a [] := fun h => absurd h (Nat.lt_irrefl 0)
theorem KSl.take {w : World} {a : Option Addr} {l : List Kk} (h : KSl w a l) (k : Nat) : KSl w a (l.take k) := by
  intro h0
  rw [List.length_take] at h0
  obtain ⟨b, off, ha, hlt, hc⟩ := h (by omega)
  refine ⟨b, off, ha, hlt, fun i hi => ?_⟩
  rw [List.length_take] at hi
  have e : (l.take k).getD i k00 = l.getD i k00 := by
    rw [List.getD_eq_getElem?_getD, List.getD_eq_getElem?_getD, List.getElem?_take, if_pos (by omega)]
  rw [e]; exact hc i (by omega)

def kcs (p : Kk) : List Value := [.string p.r, .int .u64 (p.n : Int), .string p.k]
def Kc (l : List Kk) : List Value := l.flatMap kcs
theorem Kc_cons (p : Kk) (l : List Kk) : Kc (p :: l) = kcs p ++ Kc l := by unfold Kc; rw [List.flatMap_cons]
theorem Kc_append (a b : List Kk) : Kc (a ++ b) = Kc a ++ Kc b := List.flatMap_append
theorem Kc_length (l : List Kk) : (Kc l).length = l.length * 3 := by
  induction l with
  | nil => rfl
  | cons p l ih => rw [Kc_cons, List.length_append, ih, List.length_cons]; simp [kcs]; omega
theorem Kc_get (l : List Kk) (i : Nat) (h : i < l.length) : (Kc l)[i * 3]? = some (.string (l.getD i k00).r) ∧ (Kc l)[i * 3 + 1]? = some (.int .u64 ((l.getD i k00).n : Int)) ∧ (Kc l)[i * 3 + 2]? = some (.string (l.getD i k00).k) := by
  induction l generalizing i with
  | nil => simp at h
  | cons p l ih =>
    rw [Kc_cons]
    rcases i with _ | i
    · simp [kcs]
    · have e : (i + 1) * 3 = (kcs p).length + i * 3 := by simp [kcs]; omega
      have := ih i (by simpa using h)
      rw [e]
      refine ⟨?_, ?_, ?_⟩
      · rw [List.getElem?_append_right (by omega), Nat.add_sub_cancel_left]; simpa using this.1
      · rw [show (kcs p).length + i * 3 + 1 = (kcs p).length + (i * 3 + 1) by omega, List.getElem?_append_right (by omega), Nat.add_sub_cancel_left]; simpa using this.2.1
      · rw [show (kcs p).length + i * 3 + 2 = (kcs p).length + (i * 3 + 2) by omega, List.getElem?_append_right (by omega), Nat.add_sub_cancel_left]; simpa using this.2.2
theorem Kc_one (l : List Kk) : ∀ u ∈ Kc l, u.oneCell' = true := by
  intro u hu
  unfold Kc at hu
  rw [List.mem_flatMap] at hu
  obtain ⟨p, -, hp⟩ := hu
  simp only [kcs, List.mem_cons, List.mem_nil_iff, or_false] at hp
  rcases hp with rfl | rfl | rfl <;> rfl
theorem Kc_at {w : World} {b off : Nat} {l : List Kk} (h : ∀ i, i < l.length → KkAt w b (off + i * 3) (l.getD i k00)) (j : Nat) (u : Value) (hu : (Kc l)[j]? = some u) : w.cell? ⟨b, off + j, none⟩ = some u := by
  have hj : j < l.length * 3 := by
    rw [← Kc_length]
    exact (List.getElem?_eq_some_iff.1 hu).1
  have hi : j / 3 < l.length := by omega
  obtain ⟨g0, g1, g2⟩ := Kc_get l (j / 3) hi
  have hp := h (j / 3) hi
  have h3 : j % 3 = 0 ∨ j % 3 = 1 ∨ j % 3 = 2 := by omega
  rcases h3 with h3 | h3 | h3
  · have e : j = j / 3 * 3 := by omega
    rw [e] at hu
    rw [g0] at hu
    cases hu
    have := hp.c0
    rw [← e] at this
    exact this
  · have e : j = j / 3 * 3 + 1 := by omega
    rw [e, g1] at hu
    cases hu
    have := hp.c1
    rw [Nat.add_assoc, ← e] at this
    exact this
  · have e : j = j / 3 * 3 + 2 := by omega
    rw [e, g2] at hu
    cases hu
    have := hp.c2
    rw [Nat.add_assoc, ← e] at this
    exact this
theorem infoKk : (Tryd.prog.info? 47).map (fun i => (i.zero, i.size, i.bytes)) = some (some (.agg #[.string ⟨#[]⟩, .int .u64 0, .string ⟨#[]⟩]), 3, 40) := by kernel_rfl
/-- a slice of kept keys of the call's own (blocks from base on) that reads as l -/
def OwnK (w : World) (base : Nat) (v : Value) (l : List Kk) : Prop := w.ownsRow base 47 3 v l.length (Kc l)
theorem OwnK.nil (w : World) (base : Nat) : OwnK w base (.slice none 0 0) [] := ⟨rfl, .inl ⟨rfl, rfl⟩⟩
theorem OwnK.alloc {w : World} {base : Nat} {v : Value} {l : List Kk} (h : OwnK w base v l) (o : Obj) : OwnK (w.alloc o) base v l := World.ownsRow.alloc h o
theorem OwnK.on {w w' : World} {base : Nat} {v : Value} {l : List Kk} (h : OwnK w base v l) (hb : Below w.heap.size w w') : OwnK w' base v l := by
  refine ⟨h.1, ?_⟩
  rcases h.2 with h2 | ⟨g, cap, cur, e, hg, hc, h3⟩
  · exact Or.inl h2
  · exact Or.inr ⟨g, cap, cur, e, hg, by rw [hb.block g (Array.getElem?_eq_some_iff.1 hc).1]; exact hc, h3⟩
theorem OwnK.empty (w : World) (base : Nat) (hb : base ≤ w.heap.size) : OwnK (w.alloc (.cells #[] 47)) base (.slice (some ⟨w.heap.size, 0, none⟩) 0 0) [] :=
  ⟨rfl, .inr ⟨w.heap.size, 0, #[], rfl, hb, heap_alloc_new w _, Nat.le_refl _, by unfold maxLen; omega, rfl, rfl⟩⟩
/-- it is a slice that can be read -/
theorem OwnK.ksl {w : World} {base : Nat} {v : Value} {l : List Kk} (h : OwnK w base v l) : ∃ (a : Option Addr) (c : Nat), v = .slice a l.length c ∧ l.length ≤ c ∧ KSl w a l := by
  rcases h.2 with ⟨rfl, h0⟩ | ⟨g, cap, cur, rfl, hg, hc, hcap, -⟩
  · refine ⟨none, 0, by rw [h0], by omega, fun hp => ?_⟩
    omega
  · refine ⟨some ⟨g, 0, none⟩, cap, rfl, hcap, fun _ => ⟨g, 0, rfl, (Array.getElem?_eq_some_iff.1 hc).1, fun i hi => ?_⟩⟩
    obtain ⟨g0, g1, g2⟩ := Kc_get l i hi
    have hcs := World.ownsRow.cells h (g := g) rfl
    have c0 := hcs _ _ g0
    have c1 := hcs _ _ g1
    have c2 := hcs _ _ g2
    rw [Addr.add_mid] at c0 c1 c2
    exact ⟨c0, by rw [Nat.add_assoc]; exact c1, by rw [Nat.add_assoc]; exact c2⟩
theorem OwnK.below {w w0 w' : World} {base : Nat} {v : Value} {l : List Kk} (h : OwnK w base v l) (hB : Below base w0 w) (hb : base ≤ w.heap.size) (hg : w.grownBy w' v.ownBlock) : Below base w0 w' :=
  hB.grown hg hb fun k hk => (World.ownsRow.lt h k hk).1
/-- what is no row of kept keys stands as it was -/
theorem OwnK.keeps {w w' : World} {base : Nat} {v : Value} {l : List Kk} (h : OwnK w base v l) (hg : w.grownBy w' v.ownBlock) (k : Nat) (cs : Array Value) (t : TypeId) (fr : Nat × Nat) (h1 : w.heap[k]? = some (.cells cs t fr)) (h2 : t ≠ 47) : w'.heap[k]? = some (.cells cs t fr) := by
  rw [hg.block k (Array.getElem?_eq_some_iff.1 h1).1 ?_]
  · exact h1
  · intro e
    rcases h.2 with ⟨rfl, -⟩ | ⟨g, cap, cur, rfl, -, hc, -⟩
    · cases e
    · cases e
      rw [h1] at hc
      cases hc
      exact h2 rfl
/-- append(own, keys...), whether those are none, or nil, or some -/
theorem run_append_ks (w : World) (ty : TypeId) (base : Nat) (v : Value) (l : List Kk) (b : Option Addr) (c : Nat) (m : List Kk) (hown : OwnK w base v l) (hq : KSl w b m) (hl : l.length + m.length ≤ 100000) (hbase : base ≤ w.heap.size) :
    ∃ v' w', (Builtin.append_ #[22, 22] ty #[v, .slice b m.length c]).run Tryd.prog w = .ok v' w' ∧ OwnK w' base v' (l ++ m) ∧ w.grownBy w' v.ownBlock := by
  obtain ⟨i0, hi, hz0, hz1, hz2⟩ := info_parts infoKk
  have hall : ∀ (ad : Addr) (news : List Value), b = some ad → news = Kc m → (∀ j u, news[j]? = some u → w.cell? (ad.add j) = some u) →
      ∃ v' w', (Builtin.append_ #[22, 22] ty #[v, .slice b m.length c]).run Tryd.prog w = .ok v' w' ∧ OwnK w' base v' (l ++ m) ∧ w.grownBy w' v.ownBlock := by
    rintro ad news rfl rfl hnews
    obtain ⟨v', w', hr, h2, h3, -⟩ := run_append_own (P := Tryd.prog) w base 22 ty 47 i0 (.agg #[.string ⟨#[]⟩, .int .u64 0, .string ⟨#[]⟩]) 3 40 Tryd.underlying22 hi hz0 hz1 hz2 rfl (by decide) v l.length (Kc l) hown ad m.length c (Kc m) (Kc_length m) hnews (Kc_one m) (by unfold maxLen; omega) (by omega) hbase
    refine ⟨v', w', hr, ?_, h3⟩
    unfold OwnK
    rw [List.length_append, Kc_append]
    exact h2
  by_cases h0 : 0 < m.length
  · obtain ⟨g, off, rfl, hlt, hc⟩ := hq h0
    exact hall _ _ rfl rfl fun j u hu => by rw [Addr.add_mid]; exact Kc_at hc j u hu
  · obtain rfl : m = [] := List.eq_nil_of_length_eq_zero (by omega)
    cases b with
    | some ad => exact hall ad [] rfl rfl (fun j u hu => by simp at hu)
    | none =>
      refine ⟨v, w, ?_, by rw [List.append_nil]; exact hown, ⟨rfl, rfl, rfl, Nat.le_refl _, fun _ _ _ => rfl⟩⟩
      rcases hown.2 with ⟨rfl, h0⟩ | ⟨g, cap, cur, rfl, hg, hc, hcap, -⟩
      · simp [Builtin.append_, run_underlying Tryd.underlying22, sizeOf, typeInfo, hi, Builtin.lenOf, Builtin.firstCells]
      · simp [Builtin.append_, run_underlying Tryd.underlying22, sizeOf, typeInfo, hi, Builtin.lenOf, Builtin.firstCells, loadCells, hcap, storeCells]
theorem append_ks {ops : Array Oper} {rest : List Oper} {o : Oper} {a : Act} {Q : Exit → Act → World → Prop} {w : World} (hgd : o.guard = none) (s x : Operand)
    (ho : o.op = .call { callee := .builtin .append, args := #[s, x], argTypes := #[22, 22] })
    (base : Nat) (v : Value) (l : List Kk) (b : Option Addr) (n c : Nat) (m : List Kk) (hn : n = m.length) (hs : a.eval s = v) (hx : a.eval x = .slice b n c) (hown : OwnK w base v l) (hq : KSl w b m) (hl : l.length + m.length ≤ 100000) (hbase : base ≤ w.heap.size)
    (h : ∀ v' w', OwnK w' base v' (l ++ m) → w.grownBy w' v.ownBlock → wpList Tryd.prog ops Q rest (a.put o.dst v') w') :
    wpList Tryd.prog ops Q (o :: rest) a w := by
  subst hn
  obtain ⟨v', w', hr, h2, h3⟩ := run_append_ks w o.type base v l b c m hown hq hl hbase
  refine wpList_plain hgd fun K hK => ?_
  unfold Oper.wp execOp
  simp only [ho, resolve, invoke, builtin, Sem.run_bind, Sem.run_pure, Result.andThen_ok, List.map_toArray, List.map_cons, List.map_nil, hs, hx, hr]
  exact hK _ _ (h v' w' h2 h3)
theorem step_append_ks {ops : Array Oper} {o : Oper} {a : Act} {w : World} {K : Act → World → Prop} {Q : Exit → Act → World → Prop} {E : Prop} (hgd : o.guard = none) (s x : Operand)
    (ho : o.op = .call { callee := .builtin .append, args := #[s, x], argTypes := #[22, 22] })
    (base : Nat) (v : Value) (l : List Kk) (b : Option Addr) (n c : Nat) (m : List Kk) (hn : n = m.length) (hs : a.eval s = v) (hx : a.eval x = .slice b n c) (hown : OwnK w base v l) (hq : KSl w b m) (hl : l.length + m.length ≤ 100000) (hbase : base ≤ w.heap.size)
    (h : ∀ v' w', OwnK w' base v' (l ++ m) → w.grownBy w' v.ownBlock → K (a.put o.dst v') w') :
    if Region.wanted o (yielded ops a.tmps) = true then Oper.wp Tryd.prog o a w K Q else E := by
  subst hn
  have hw : Region.wanted o (yielded ops a.tmps) = true := by simp [Region.wanted, hgd]
  rw [if_pos hw]
  obtain ⟨v', w', hr, h2, h3⟩ := run_append_ks w o.type base v l b c m hown hq hl hbase
  unfold Oper.wp execOp
  simp only [ho, resolve, invoke, builtin, Sem.run_bind, Sem.run_pure, Result.andThen_ok, List.map_toArray, List.map_cons, List.map_nil, hs, hx, hr]
  exact h v' w' h2 h3
/-- one part that was laid alone -/
theorem KSl.one {w : World} {B : Nat} {p : Kk} (h : KkAt w B 0 p) : KSl w (some ⟨B, 0, none⟩) [p] := fun _ =>
  ⟨B, 0, rfl, World.block_lt_of_cell? w _ h.c0, fun i hi => by
    obtain rfl : i = 0 := by simpa using hi
    exact h⟩
theorem KSl.drop {w : World} {b off : Nat} {l : List Kk} (h : KSl w (some ⟨b, off, none⟩) l) (n : Nat) : KSl w (some ⟨b, off + n * 3, none⟩) (l.drop n) := by
  intro h0
  rw [List.length_drop] at h0
  obtain ⟨b', off', ha, hlt, hc⟩ := h (by omega)
  simp only [Option.some.injEq, Addr.mk.injEq, and_true] at ha
  obtain ⟨rfl, rfl⟩ := ha
  refine ⟨b, off + n * 3, rfl, hlt, fun i hi => ?_⟩
  rw [List.length_drop] at hi
  have e : (l.drop n).getD i k00 = l.getD (n + i) k00 := by simp [List.getD, List.getElem?_drop]
  rw [e, show off + n * 3 + i * 3 = off + (n + i) * 3 by omega]
  exact hc (n + i) (by omega)
/-- append(full, key): a row of the call's own -/
theorem append_kfull {ops : Array Oper} {rest : List Oper} {o : Oper} {a : Act} {Q : Exit → Act → World → Prop} {w : World} (hgd : o.guard = none) (s x : Operand)
    (ho : o.op = .call { callee := .builtin .append, args := #[s, x], argTypes := #[22, 22] })
    (ao : Option Addr) (l : List Kk) (n : Nat) (b : Option Addr) (m c2 : Nat) (k : List Kk) (hn : n = l.length) (hm : m = k.length) (hs : a.eval s = .slice ao n n) (hx : a.eval x = .slice b m c2) (hl : KSl w ao l) (hnone : ao = none → n = 0) (hq : KSl w b k) (hk : 0 < k.length) (hlen : l.length + k.length ≤ 100000)
    (h : ∀ v' w', OwnK w' w.heap.size v' (l ++ k) → w.grownBy w' none → wpList Tryd.prog ops Q rest (a.put o.dst v') w') :
    wpList Tryd.prog ops Q (o :: rest) a w := by
  subst hn hm
  obtain ⟨i0, hi, hz0, hz1, hz2⟩ := info_parts infoKk
  obtain ⟨g, off, rfl, hlt, hc⟩ := hq hk
  refine wpList_append_grows w hgd s x 22 ho 47 i0 (.agg #[.string ⟨#[]⟩, .int .u64 0, .string ⟨#[]⟩]) 3 40 Tryd.underlying22 hi hz0 hz1 hz2 rfl (by decide) ao l.length l.length (Kc l) hs (fun e => ⟨hnone e, hnone e⟩) (Kc_length l) ?_ ⟨g, off, none⟩ k.length c2 (Kc k) hx (Kc_length k) (fun j u hu => by rw [Addr.add_mid]; exact Kc_at hc j u hu) (Kc_one k) (by omega) (by unfold maxLen; omega) (by omega) fun v' w' h1 h2 => h v' w' ?_ h2
  · rintro bb rfl j u hu
    have hpos : 0 < l.length := by
      have := (List.getElem?_eq_some_iff.1 hu).1
      rw [Kc_length] at this; omega
    obtain ⟨b', off', e, hlt', hc'⟩ := hl hpos
    simp only [Option.some.injEq] at e
    subst e
    rw [Addr.add_mid]
    exact Kc_at hc' j u hu
  · unfold OwnK
    rw [List.length_append, Kc_append]
    exact h1
end Go.Proofs.YtfkfadcfafbmmaaDoor

/- Tables of kept keys: the place of a ratchet's number as a number, whether a table may be as a bool, and both element by element. -/
namespace Go.Proofs.YtfkfadcfafbmmaaDoor
open Go.RowKit
set_option maxRecDepth 100000
/-- the place of a ratchet's number; -1: there is none -/
def atI (l : List Kk) (r : ByteArray) (n : Nat) : Int := match atK l r n with
  | some i => (i : Int)
  | none => -1
theorem atI_found (l : List Kk) (r : ByteArray) (n k : Nat) (hk : k < l.length) (h0 : ∀ j, j < k → isK r n (l.getD j k00) = false) (h1 : isK r n (l.getD k k00) = true) : atI l r n = (k : Int) := by
  have e : atK l r n = some k := by
    unfold atK
    rw [List.findIdx?_eq_some_iff_getElem]
    refine ⟨hk, by simpa [List.getD, hk] using h1, fun j hj => ?_⟩
    have := h0 j hj
    simpa [List.getD, show j < l.length by omega] using this
  unfold atI
  rw [e]
theorem atI_none (l : List Kk) (r : ByteArray) (n : Nat) (h0 : ∀ j, j < l.length → isK r n (l.getD j k00) = false) : atI l r n = -1 := by
  have e : atK l r n = none := by
    unfold atK
    rw [List.findIdx?_eq_none_iff]
    intro x hx
    obtain ⟨j, hj, rfl⟩ := List.getElem_of_mem hx
    have := h0 j hj
    simpa [List.getD, hj] using this
  unfold atI
  rw [e]
theorem atI_neg (l : List Kk) (r : ByteArray) (n : Nat) : 0 ≤ atI l r n ↔ atK l r n ≠ none := by
  unfold atI
  cases atK l r n <;> simp
theorem atI_lt (l : List Kk) (r : ByteArray) (n : Nat) : atI l r n < l.length ∨ atI l r n = -1 := by
  unfold atI
  cases h : atK l r n with
  | none => right; rfl
  | some i =>
    left
    unfold atK at h
    rw [List.findIdx?_eq_some_iff_getElem] at h
    obtain ⟨hi, -⟩ := h
    simp only
    omega
theorem atI_le (l : List Kk) (r : ByteArray) (n : Nat) : -1 ≤ atI l r n := by
  unfold atI
  cases atK l r n with
  | none => exact Int.le_refl _
  | some i => simp only; omega
/-- may a table be? -/
def goodAt (l : List Kk) (i : Nat) : Prop := sizedK (l.getD i k00) ∧ atK (l.take i) (l.getD i k00).r (l.getD i k00).n = none
instance (l : List Kk) (i : Nat) : Decidable (goodAt l i) := inferInstanceAs (Decidable (_ ∧ _))
theorem rightK_iff (l : List Kk) : rightK l ↔ l.length ≤ 20 ∧ ∀ i, i < l.length → goodAt l i := by
  have key : ∀ m : List Kk, (aloneK m ↔ ∀ i, i < m.length → atK (m.take i) (m.getD i k00).r (m.getD i k00).n = none) := by
    intro m
    have hsn : ∀ (n : Nat) (m : List Kk), m.length = n → (aloneK m ↔ ∀ i, i < m.length → atK (m.take i) (m.getD i k00).r (m.getD i k00).n = none) := by
      intro n
      induction n with
      | zero => intro m hm; obtain rfl := List.eq_nil_of_length_eq_zero hm; simp [aloneK]
      | succ n ih =>
        intro m hm
        have hne : m ≠ [] := by intro e; subst e; cases hm
        obtain ⟨m0, x, rfl⟩ : ∃ m0 x, m = m0 ++ [x] := ⟨m.dropLast, m.getLast hne, (List.dropLast_concat_getLast hne).symm⟩
        have hl0 : m0.length = n := by rw [List.length_append, List.length_singleton] at hm; omega
        rw [aloneK_append, ih m0 hl0]
        constructor
        · rintro ⟨h1, -, h3⟩ i hi
          rw [List.length_append, List.length_singleton] at hi
          by_cases hin : i < m0.length
          · have := h1 i hin
            rw [List.take_append_of_le_length (by omega)]
            simpa [List.getD, List.getElem?_append_left hin] using this
          · obtain rfl : i = m0.length := by omega
            rw [List.take_left' rfl]
            have e : (m0 ++ [x]).getD m0.length k00 = x := by simp [List.getD]
            rw [e, atK_none]
            exact fun y hy => fun ⟨e1, e2⟩ => h3 y hy x (List.mem_singleton.2 rfl) ⟨e1, e2⟩
        · intro h
          refine ⟨fun i hi => ?_, ⟨fun y hy => absurd hy List.not_mem_nil, trivial⟩, fun y hy z hz => ?_⟩
          · have := h i (by rw [List.length_append]; omega)
            rw [List.take_append_of_le_length (by omega)] at this
            simpa [List.getD, List.getElem?_append_left hi] using this
          · rw [List.mem_singleton.1 hz]
            have := h m0.length (by rw [List.length_append, List.length_singleton]; omega)
            rw [List.take_left' rfl] at this
            have e : (m0 ++ [x]).getD m0.length k00 = x := by simp [List.getD]
            rw [e, atK_none] at this
            exact this y hy
    exact hsn m.length m rfl
  constructor
  · rintro ⟨h1, h2, h3⟩
    refine ⟨h1, fun i hi => ⟨h2 _ ?_, (key l).1 h3 i hi⟩⟩
    have e : l.getD i k00 = l[i] := by simp [List.getD, hi]
    rw [e]; exact List.getElem_mem hi
  · rintro ⟨h1, h2⟩
    refine ⟨h1, fun x hx => ?_, (key l).2 fun i hi => (h2 i hi).2⟩
    obtain ⟨i, hi, rfl⟩ := List.getElem_of_mem hx
    have := (h2 i hi).1
    have e : l.getD i k00 = l[i] := by simp [List.getD, hi]
    rw [e] at this; exact this
instance (l : List Kk) : Decidable (rightK l) := decidable_of_iff _ (rightK_iff l).symm
end Go.Proofs.YtfkfadcfafbmmaaDoor

/- Tables of kept keys in plain mathematics: a table filled, of a chain. -/
namespace Go.Proofs.YtfkfadcfafbmmaaDoor
open Go.RowKit
set_option maxRecDepth 100000
/-- a table filled with so many keys of a chain, from a number on -/
def fillK (l : List Kk) (r c : ByteArray) (f : Nat) : Nat → List Kk
  | 0 => l
  | m + 1 => putK (fillK l r c f m) ⟨r, f + m, spB (runC c m) stWord⟩
/-- filled up to a number, and from there on, is filled at once -/
theorem fillK_add (l : List Kk) (r c : ByteArray) (f a b : Nat) : fillK l r c f (a + b) = fillK (fillK l r c f a) r (runC c a) (f + a) b := by
  induction b with
  | zero => rfl
  | succ b ih => rw [← Nat.add_assoc, fillK, ih, fillK, runC_add, Nat.add_assoc f a b]
theorem fillK_mem {l : List Kk} {r c : ByteArray} {f m : Nat} {x : Kk} (h : x ∈ fillK l r c f m) : x ∈ l ∨ (x.r = r ∧ f ≤ x.n ∧ x.n < f + m) := by
  induction m with
  | zero => exact .inl h
  | succ m ih =>
    rw [fillK, putK_eq] at h
    rcases List.mem_append.1 h with h | h
    · rcases ih (keptK_mem h) with h | ⟨h1, h2, h3⟩
      · exact .inl h
      · exact .inr ⟨h1, h2, by omega⟩
    · rw [List.mem_singleton.1 h]
      exact .inr ⟨rfl, by show f ≤ f + m; omega, by show f + m < f + (m + 1); omega⟩
/-- none of a ratchet's numbers is there -/
def freeK (l : List Kk) (r : ByteArray) (f m : Nat) : Prop := ∀ i, i < m → atK l r (f + i) = none
theorem freeK_fill {l : List Kk} {r c : ByteArray} {f a b : Nat} (h : freeK l r f (a + b)) : freeK (fillK l r c f a) r (f + a) b := by
  intro i hi
  rw [atK_none]
  intro x hx e
  rcases fillK_mem hx with h1 | ⟨-, -, h3⟩
  · exact atK_none.1 (h (a + i) (by omega)) x h1 ⟨e.1, by rw [e.2]; omega⟩
  · omega
theorem rightK_fill {l : List Kk} {r c : ByteArray} {f m : Nat} (h : rightK l) (hr : r.size = 32) (hf : freeK l r f m) : rightK (fillK l r c f m) := by
  induction m with
  | zero => exact h
  | succ m ih =>
    have hm := ih fun i hi => hf i (by omega)
    have h0 : freeK (fillK l r c f m) r (f + m) 1 := freeK_fill (a := m) (b := 1) hf
    exact rightK_put hm ⟨hr, spB_size _ _⟩ (by simpa using h0 0 (by omega))
end Go.Proofs.YtfkfadcfafbmmaaDoor

/- The reference 12: Sized, At, Same; the law's few. -/
namespace Go.Proofs.YtfkfadcfafbmmaaDoor
open Go.RowKit
set_option maxRecDepth 100000
theorem str_eqK (s t : ByteArray) : (s.toList == t.toList) = decide (s = t) := by
  rw [Lib.toList_data, Lib.toList_data]
  by_cases h : s = t
  · subst h; simp
  · rw [decide_eq_false h, beq_eq_false_iff_ne]
    exact fun e => h (bl_inj e)
theorem nat_eqK (n m : Nat) : ((n : Int) == (m : Int)) = decide (n = m) := by
  by_cases h : n = m
  · subst h; simp
  · rw [decide_eq_false h, beq_eq_false_iff_ne]; omega
theorem below_dnK {w wr : World} (h : Below w.heap.size w wr) (o : Obj) : Below w.heap.size w (wr.alloc o) := h.alloc h.size o
set_option maxHeartbeats 400000 in
theorem sizedR_any (p : Kk) (w : World) :
    Calls Tryd.prog 17 #[kkv p] w fun e w' => e = .returned (.bool (decide (sizedK p))) ∧ Below w.heap.size w w' := by
  obtain ⟨r, n, k⟩ := p
  have hb : Below w.heap.size w (w.alloc (.cells #[.string r, .int .u64 (n : Int), .string k] 47)) := (Below.refl _ _).alloc (Nat.le_refl _) _
  have HB := Lib.hid hb
  clear hb
  unfold kkv
  simp only
  by_cases hr : r.size = 32
  · have q1 : ((r.size : Int) == 32) = true := by rw [hr]; rfl
    by_cases hk : k.size = 32
    · have q2 : ((k.size : Int) == 32) = true := by rw [hk]; rfl
      rw [show decide (sizedK ⟨r, n, k⟩) = true from decide_eq_true ⟨hr, hk⟩]
      clear hr hk
      go_enter Tryd.func17, Tryd.ntmps17
      go_wp2_with fail
      go_ret
      exact ⟨rfl, HB.out⟩
    · have q2 : ((k.size : Int) == 32) = false := by rw [beq_eq_false_iff_ne]; omega
      rw [show decide (sizedK ⟨r, n, k⟩) = false from decide_eq_false fun h => hk h.2]
      clear hr hk
      go_enter Tryd.func17, Tryd.ntmps17
      go_wp2_with fail
      go_ret
      exact ⟨rfl, HB.out⟩
  · have q1 : ((r.size : Int) == 32) = false := by rw [beq_eq_false_iff_ne]; omega
    rw [show decide (sizedK ⟨r, n, k⟩) = false from decide_eq_false fun h => hr h.1]
    clear hr
    go_enter Tryd.func17, Tryd.ntmps17
    go_wp2_with fail
    go_ret
    exact ⟨rfl, HB.out⟩
def AtRel (w : World) (l : List Kk) (r : ByteArray) (n : Nat) (i : Value) (wr : World) : Prop :=
  ∃ k : Nat, k ≤ l.length ∧ i = .int .i64 (k : Int) ∧ (∀ j, j < k → isK r n (l.getD j k00) = false) ∧ Below w.heap.size w wr
set_option maxHeartbeats 2000000 in
theorem atR_any (a : Option Addr) (c : Nat) (l : List Kk) (r : ByteArray) (n : Nat) (hl : l.length ≤ 1000) (w : World) (hp : KSl w a l) :
    Calls Tryd.prog 18 #[.slice a l.length c, .string r, .int .u64 (n : Int)] w fun e w' => e = .returned (.int .i64 (atI l r n)) ∧ Below w.heap.size w w' := by
  have HP := Lib.hid hp; have HL := Lib.hid hl
  clear hp hl
  go_enter Tryd.func18, Tryd.ntmps18
  go_wp2_with fail
  go_loopw [11] (fun i wr => AtRel w l r n i wr) (fun i _ => l.length - (intOf i).toNat)
  case atStart => exact ⟨0, Nat.zero_le _, rfl, fun j hj => absurd hj (Nat.not_lt_zero j), Below.refl _ _⟩
  case round =>
    obtain ⟨k, hk, rfl, hno, hB⟩ := hrel
    by_cases hlt : k < l.length
    · have h1 : (k : Int) < (l.length : Int) := by omega
      have h1k : (k : Int) < 1000 := by have := HL.out; omega
      obtain ⟨g, off, rfl, hbl, hc⟩ := HP.out (by omega)
      have hpt := (hc k hlt).below hB hbl
      have hf := fun h => atI_found l r n k hlt hno h
      have hn2 : isK r n (l.getD k k00) = false → ∀ j, j < k + 1 → isK r n (l.getD j k00) = false := fun h j hj => by
        by_cases e : j = k
        · subst e; exact h
        · exact hno j (by omega)
      obtain ⟨p, ep⟩ : ∃ p, l.getD k k00 = p := ⟨_, rfl⟩
      rw [ep] at hpt hf hn2
      obtain ⟨x, m, y⟩ := p
      obtain ⟨c0, c1, c2⟩ := hpt
      simp only at c0 c1 c2
      have q1 := str_eqK x r
      have q2 := nat_eqK m n
      have hB2 := below_dnK hB (.cells #[.string x, .int .u64 (m : Int), .string y] 47)
      have HB := Lib.hid hB2; have HF := Lib.hid hf; have HN := Lib.hid hn2
      clear hB hB2 hc hno ep hbl hf hn2
      by_cases e1 : x = r
      · rw [decide_eq_true e1] at q1
        by_cases e2 : m = n
        · rw [decide_eq_true e2] at q2
          have hh : isK r n ⟨x, m, y⟩ = true := by simp [isK, e1, e2]
          have HA := Lib.hid (HF.out hh)
          clear e1 e2 hh HN HF
          go_wp2_with fail
          go_ret
          exact ⟨by rw [HA.out]; rfl, HB.out⟩
        · rw [decide_eq_false e2] at q2
          have hh : isK r n ⟨x, m, y⟩ = false := by simp [isK, e2]
          have HA := Lib.hid (HN.out hh)
          clear e1 e2 hh HN HF
          go_wp2_with fail
          exact ⟨⟨k + 1, by omega, by simp, HA.out, HB.out⟩, by simp [intOf]; omega⟩
      · rw [decide_eq_false e1] at q1
        have hh : isK r n ⟨x, m, y⟩ = false := by simp [isK, e1]
        have HA := Lib.hid (HN.out hh)
        clear e1 hh HN HF
        go_wp2_with fail
        exact ⟨⟨k + 1, by omega, by simp, HA.out, HB.out⟩, by simp [intOf]; omega⟩
    · obtain rfl : k = l.length := by omega
      have hn : ¬ (l.length : Int) < (l.length : Int) := by omega
      have HA := Lib.hid (atI_none l r n hno); have HB := Lib.hid hB
      clear hB hno
      go_wp2_with fail
      go_ret
      exact ⟨by rw [HA.out]; rfl, HB.out⟩
end Go.Proofs.YtfkfadcfafbmmaaDoor

/- The reference 12: Same, Put, Without; the law's few. -/
namespace Go.Proofs.YtfkfadcfafbmmaaDoor
open Go.RowKit Go.Sort
set_option maxRecDepth 100000
def SameRelK (w : World) (l m : List Kk) (i : Value) (wr : World) : Prop :=
  ∃ k : Nat, k ≤ l.length ∧ i = .int .i64 (k : Int) ∧ (∀ j, j < k → l.getD j k00 = m.getD j k00) ∧ Below w.heap.size w wr
theorem same_all {l m : List Kk} (hl : l.length = m.length) (h : ∀ j, j < l.length → l.getD j k00 = m.getD j k00) : l = m := by
  refine List.ext_getElem hl fun j h1 h2 => ?_
  have := h j h1
  simpa [List.getD, h1, h2] using this
theorem same_not {l m : List Kk} {j : Nat} (h : l.getD j k00 ≠ m.getD j k00) : l ≠ m := fun e => h (by rw [e])
set_option maxHeartbeats 4000000 in
theorem sameR_any (a b : Option Addr) (c c' : Nat) (l m : List Kk) (hl : l.length ≤ 1000) (w : World) (hp : KSl w a l) (hq : KSl w b m) :
    Calls Tryd.prog 11 #[.slice a l.length c, .slice b m.length c'] w fun e w' => e = .returned (.bool (decide (l = m))) ∧ Below w.heap.size w w' := by
  have HP := Lib.hid hp; have HQ := Lib.hid hq; have HL := Lib.hid hl
  clear hp hq hl
  by_cases hlen : l.length = m.length
  case neg =>
    have hn : ¬ (l.length : Int) = (m.length : Int) := by omega
    rw [decide_eq_false fun e => hlen (by rw [e])]
    clear hlen HP HQ HL
    go_enter Tryd.func11, Tryd.ntmps11
    go_wp2_with fail
    go_ret
    exact ⟨rfl, Below.refl _ _⟩
  case pos =>
    rw [show m.length = l.length from hlen.symm]
    have HLN := Lib.hid hlen
    clear hlen
    go_enter Tryd.func11, Tryd.ntmps11
    go_wp2_with fail
    go_loopw [13] (SameRelK w l m) (fun i _ => l.length - (intOf i).toNat)
    case atStart => exact ⟨0, Nat.zero_le _, rfl, fun j hj => absurd hj (Nat.not_lt_zero j), Below.refl _ _⟩
    case round =>
      obtain ⟨k, hk, rfl, hd, hB⟩ := hrel
      by_cases hlt : k < l.length
      · have h1 : (k : Int) < (l.length : Int) := by omega
        have h1k : (k : Int) < 1000 := by have := HL.out; omega
        obtain ⟨g, off, rfl, hbl, hc⟩ := HP.out (by omega)
        obtain ⟨g', off', rfl, hbl', hc'⟩ := HQ.out (by have := HLN.out; omega)
        have hpt := (hc k hlt).below hB hbl
        have hpt' := (hc' k (by have := HLN.out; omega)).below hB hbl'
        have hno : l.getD k k00 ≠ m.getD k k00 → l ≠ m := same_not
        have hyes : l.getD k k00 = m.getD k k00 → ∀ j, j < k + 1 → l.getD j k00 = m.getD j k00 := fun h j hj => by
          by_cases e : j = k
          · subst e; exact h
          · exact hd j (by omega)
        obtain ⟨p, ep⟩ : ∃ p, l.getD k k00 = p := ⟨_, rfl⟩
        obtain ⟨q, eq⟩ : ∃ q, m.getD k k00 = q := ⟨_, rfl⟩
        rw [ep] at hpt hno hyes
        rw [eq] at hpt' hno hyes
        obtain ⟨r, n, s⟩ := p
        obtain ⟨r', n', s'⟩ := q
        obtain ⟨c0, c1, c2⟩ := hpt
        obtain ⟨d0, d1, d2⟩ := hpt'
        simp only at c0 c1 c2 d0 d1 d2
        have q1 := str_eqK r r'
        have q2 := nat_eqK n n'
        have q3 := str_eqK s s'
        have HB := Lib.hid hB; have HN := Lib.hid hno; have HY := Lib.hid hyes
        clear hB hc hc' ep eq hd hbl hbl' hno hyes
        go_upto_region 6 with fail
        by_cases e1 : r = r' ∧ n = n' ∧ s = s'
        · obtain ⟨rfl, rfl, rfl⟩ := e1
          have HY2 := Lib.hid (HY.out rfl)
          clear HY HN q1 q2 q3
          go_quiet (fail)
          go_wp2_with fail
          exact ⟨⟨k + 1, by omega, by simp, HY2.out, below_redrawn HB.out (by first | rfl | simp) (by first | rfl | simp) (by first | rfl | simp) (by first | rfl | simp)⟩, by simp [intOf]; omega⟩
        · have HN2 := Lib.hid (decide_eq_false (HN.out fun h => e1 (by cases h; exact ⟨rfl, rfl, rfl⟩)))
          clear HN HY
          by_cases f1 : r = r'
          · subst f1
            clear q1
            by_cases f2 : n = n'
            · subst f2
              have f3 : s ≠ s' := fun h => e1 ⟨rfl, rfl, h⟩
              rw [decide_eq_false f3] at q3
              clear q2 e1 f3
              go_quiet (fail)
              go_wp2_with fail
              go_ret
              exact ⟨by rw [HN2.out]; rfl, below_redrawn HB.out (by first | rfl | simp) (by first | rfl | simp) (by first | rfl | simp) (by first | rfl | simp)⟩
            · rw [decide_eq_false f2] at q2
              clear q3 e1 f2
              go_quiet (fail)
              go_wp2_with fail
              go_ret
              exact ⟨by rw [HN2.out]; rfl, below_redrawn HB.out (by first | rfl | simp) (by first | rfl | simp) (by first | rfl | simp) (by first | rfl | simp)⟩
          · rw [decide_eq_false f1] at q1
            clear q2 q3 e1 f1
            go_quiet (fail)
            go_wp2_with fail
            go_ret
            exact ⟨by rw [HN2.out]; rfl, below_redrawn HB.out (by first | rfl | simp) (by first | rfl | simp) (by first | rfl | simp) (by first | rfl | simp)⟩
      · obtain rfl : k = l.length := by omega
        have hn : ¬ (l.length : Int) < (l.length : Int) := by omega
        have HD := Lib.hid (decide_eq_true (same_all HLN.out hd)); have HB := Lib.hid hB
        clear hB hd
        go_wp2_with fail
        go_ret
        exact ⟨by rw [HD.out]; rfl, HB.out⟩
end Go.Proofs.YtfkfadcfafbmmaaDoor
