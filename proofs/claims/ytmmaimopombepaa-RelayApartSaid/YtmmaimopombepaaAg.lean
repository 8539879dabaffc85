/- Rows of whatever structs: a slice that can be read, a slice of the call's own, an append; by an encoding of the struct into cells. -/
import Derived.WalkKit
import Derived.ProofKit
import Derived.OwnWalk
import Derived.Carry
import Derived.Deep.Onto
import Derived.Deep.MidRow
namespace Go.Proofs.Ytmmaimopombepaa
open Go.RowKit
set_option maxRecDepth 100000
/-- how a struct's values lie in cells -/
structure Enc (T : Type) where
  enc : T → List Value
  z : Nat
  len : ∀ x, (enc x).length = z
  one : ∀ x, ∀ v ∈ enc x, v.oneCell' = true
  pos : 0 < z
variable {T : Type}
def Enc.row (E : Enc T) (l : List T) : List Value := l.flatMap E.enc
theorem Enc.row_nil (E : Enc T) : E.row [] = [] := rfl
theorem Enc.row_cons (E : Enc T) (x : T) (l : List T) : E.row (x :: l) = E.enc x ++ E.row l := by unfold Enc.row; rw [List.flatMap_cons]
theorem Enc.row_append (E : Enc T) (a b : List T) : E.row (a ++ b) = E.row a ++ E.row b := List.flatMap_append
theorem Enc.row_length (E : Enc T) (l : List T) : (E.row l).length = l.length * E.z := by
  induction l with
  | nil => simp [Enc.row]
  | cons x l ih => rw [E.row_cons, List.length_append, E.len, ih, List.length_cons, Nat.succ_mul]; omega
theorem Enc.row_one (E : Enc T) (l : List T) : ∀ v ∈ E.row l, v.oneCell' = true := by
  intro v hv
  unfold Enc.row at hv
  rw [List.mem_flatMap] at hv
  obtain ⟨x, -, hx⟩ := hv
  exact E.one x v hx
theorem Enc.row_get (E : Enc T) (l : List T) (i : Nat) (h : i < l.length) (j : Nat) (hj : j < E.z) : (E.row l)[i * E.z + j]? = (E.enc l[i])[j]? := by
  induction l generalizing i with
  | nil => simp at h
  | cons x l ih =>
    rw [E.row_cons]
    rcases i with _ | i
    · rw [Nat.zero_mul, Nat.zero_add, List.getElem?_append_left (by rw [E.len]; exact hj)]
      rfl
    · have e : (i + 1) * E.z + j = (E.enc x).length + (i * E.z + j) := by rw [E.len, Nat.succ_mul]; omega
      rw [e, List.getElem?_append_right (by omega), Nat.add_sub_cancel_left, ih i (by simpa using h)]
      rfl
/-- a slice that reads as l -/
def Sl (E : Enc T) (w : World) (a : Option Addr) (l : List T) : Prop :=
  0 < l.length → ∃ b off : Nat, a = some ⟨b, off, none⟩ ∧ b < w.heap.size ∧ ∀ j u, (E.row l)[j]? = some u → w.cell? ⟨b, off + j, none⟩ = some u
theorem Sl.nil (E : Enc T) (w : World) (a : Option Addr) : Sl E w a [] := fun h => absurd h (Nat.lt_irrefl 0)
theorem Sl.on {E : Enc T} {w w' : World} {a : Option Addr} {l : List T} (h : Sl E w a l) (hb : Below w.heap.size w w') : Sl E w' a l := by
  intro h0
  obtain ⟨b, off, ha, hlt, hc⟩ := h h0
  exact ⟨b, off, ha, Nat.lt_of_lt_of_le hlt hb.size, fun j u hu => by rw [hb.cell (p := ⟨b, off + j, none⟩) hlt]; exact hc j u hu⟩
/-- where its block stands as it was -/
theorem Sl.via {E : Enc T} {w w' : World} {a : Option Addr} {l : List T} (h : Sl E w a l) (hs : w.heap.size ≤ w'.heap.size) (hh : ∀ b off sp, a = some ⟨b, off, sp⟩ → w'.heap[b]? = w.heap[b]?) : Sl E w' a l := by
  intro h0
  obtain ⟨b, off, ha, hlt, hc⟩ := h h0
  exact ⟨b, off, ha, Nat.lt_of_lt_of_le hlt hs, fun j u hu => by rw [World.cell?_of_block (w := w) (hh _ _ _ ha)]; exact hc j u hu⟩
theorem Sl.cellE {E : Enc T} {w : World} {b off : Nat} {l : List T} (h : Sl E w (some ⟨b, off, none⟩) l) (i : Nat) (hi : i < l.length) (j : Nat) (v : Value) (hv : (E.enc l[i])[j]? = some v) : w.cell? ⟨b, off + i * E.z + j, none⟩ = some v := by
  obtain ⟨b', off', e, -, hc⟩ := h (by omega)
  cases e
  have hj : j < E.z := by rw [← E.len l[i]]; exact (List.getElem?_eq_some_iff.1 hv).1
  rw [Nat.add_assoc]
  exact hc _ _ (by rw [E.row_get l i hi j hj]; exact hv)
theorem Sl.take {E : Enc T} {w : World} {a : Option Addr} {l : List T} (h : Sl E w a l) (k : Nat) : Sl E w a (l.take k) := by
  intro h0
  rw [List.length_take] at h0
  obtain ⟨b, off, ha, hlt, hc⟩ := h (by omega)
  refine ⟨b, off, ha, hlt, fun j u hu => hc j u ?_⟩
  have e : E.row l = E.row (l.take k) ++ E.row (l.drop k) := by rw [← E.row_append, List.take_append_drop]
  rw [e, List.getElem?_append_left (List.getElem?_eq_some_iff.1 hu).1]
  exact hu
theorem Sl.drop {E : Enc T} {w : World} {b off : Nat} {l : List T} (h : Sl E w (some ⟨b, off, none⟩) l) (n : Nat) : Sl E w (some ⟨b, off + n * E.z, none⟩) (l.drop n) := by
  intro h0
  rw [List.length_drop] at h0
  obtain ⟨b', off', e, hlt, hc⟩ := h (by omega)
  cases e
  refine ⟨b, off + n * E.z, rfl, hlt, fun j u hu => ?_⟩
  have e : E.row l = E.row (l.take n) ++ E.row (l.drop n) := by rw [← E.row_append, List.take_append_drop]
  have hl : (E.row (l.take n)).length = n * E.z := by rw [E.row_length, List.length_take, Nat.min_eq_left (by omega)]
  rw [Nat.add_assoc]
  refine hc _ _ ?_
  rw [e, List.getElem?_append_right (by omega), hl, Nat.add_sub_cancel_left]
  exact hu
/-- a slice of the call's own (blocks from base on) that reads as l -/
def OwnE (E : Enc T) (t : TypeId) (w : World) (base : Nat) (v : Value) (l : List T) : Prop := w.ownsRow base t E.z v l.length (E.row l)
theorem OwnE.nil (E : Enc T) (t : TypeId) (w : World) (base : Nat) : OwnE E t w base (.slice none 0 0) [] := ⟨by simp [E.row_nil], .inl ⟨rfl, rfl⟩⟩
theorem OwnE.alloc {E : Enc T} {t : TypeId} {w : World} {base : Nat} {v : Value} {l : List T} (h : OwnE E t w base v l) (o : Obj) : OwnE E t (w.alloc o) base v l := World.ownsRow.alloc h o
theorem OwnE.on {E : Enc T} {t : TypeId} {w w' : World} {base : Nat} {v : Value} {l : List T} (h : OwnE E t w base v l) (hb : Below w.heap.size w w') : OwnE E t w' base v l := by
  refine ⟨h.1, ?_⟩
  rcases h.2 with h2 | ⟨g, cap, cur, e, hg, hc, h3⟩
  · exact Or.inl h2
  · exact Or.inr ⟨g, cap, cur, e, hg, by rw [hb.block g (Array.getElem?_eq_some_iff.1 hc).1]; exact hc, h3⟩
theorem OwnE.empty (E : Enc T) (t : TypeId) (w : World) (base : Nat) (hb : base ≤ w.heap.size) : OwnE E t (w.alloc (.cells #[] t)) base (.slice (some ⟨w.heap.size, 0, none⟩) 0 0) [] :=
  ⟨by simp [E.row_nil], .inr ⟨w.heap.size, 0, #[], rfl, hb, heap_alloc_new w _, Nat.le_refl _, by unfold maxLen; omega, by simp, by simp [E.row_nil]⟩⟩
/-- it is a slice that can be read -/
theorem OwnE.sl {E : Enc T} {t : TypeId} {w : World} {base : Nat} {v : Value} {l : List T} (h : OwnE E t w base v l) : ∃ (a : Option Addr) (c : Nat), v = .slice a l.length c ∧ l.length ≤ c ∧ Sl E w a l ∧ (a = none → c = 0 ∧ l = []) ∧ ∀ b off sp, a = some ⟨b, off, sp⟩ → base ≤ b := by
  rcases h.2 with ⟨rfl, h0⟩ | ⟨g, cap, cur, rfl, hg, hc, hcap, -⟩
  · have e : l = [] := List.length_eq_zero_iff.1 h0
    subst e
    exact ⟨none, 0, rfl, Nat.le_refl _, Sl.nil E w none, fun _ => ⟨rfl, rfl⟩, fun _ _ _ e => by cases e⟩
  · refine ⟨some ⟨g, 0, none⟩, cap, rfl, hcap, fun _ => ⟨g, 0, rfl, (Array.getElem?_eq_some_iff.1 hc).1, fun j u hu => ?_⟩, ?_, ?_⟩
    rotate_left
    · intro e; cases e
    · intro b off sp e; cases e; exact hg
    have := World.ownsRow.cells h (g := g) rfl j u hu
    rwa [Addr.add_mid] at this
theorem OwnE.below {E : Enc T} {t : TypeId} {w w0 w' : World} {base : Nat} {v : Value} {l : List T} (h : OwnE E t w base v l) (hB : Below base w0 w) (hb : base ≤ w.heap.size) (hg : w.grownBy w' v.ownBlock) : Below base w0 w' :=
  hB.grown hg hb fun k hk => (World.ownsRow.lt h k hk).1
/-- below a base further down -/
theorem OwnE.belowN {E : Enc T} {t : TypeId} {w w0 w' : World} {base n : Nat} {v : Value} {l : List T} (h : OwnE E t w base v l) (hB : Below n w0 w) (hn : n ≤ base) (hb : n ≤ w.heap.size) (hg : w.grownBy w' v.ownBlock) : Below n w0 w' :=
  hB.grown hg hb fun k hk => Nat.le_trans hn (World.ownsRow.lt h k hk).1
/-- a block of another type stands as it was -/
theorem OwnE.keeps {E : Enc T} {t : TypeId} {w w' : World} {base : Nat} {v : Value} {l : List T} (h : OwnE E t w base v l) (hg : w.grownBy w' v.ownBlock) (k : Nat) (cs : Array Value) (s : TypeId) (fr : Nat × Nat) (h1 : w.heap[k]? = some (.cells cs s fr)) (h2 : s ≠ t) : w'.heap[k]? = some (.cells cs s fr) := by
  rw [hg.block k (Array.getElem?_eq_some_iff.1 h1).1 ?_]
  · exact h1
  · intro e
    rcases h.2 with ⟨rfl, -⟩ | ⟨g, cap, cur, rfl, -, hc, -⟩
    · cases e
    · cases e
      rw [h1] at hc
      cases hc
      exact h2 rfl
/-- append(own, news...), whether those are none, or nil, or some -/
theorem run_append_E {P : Program} (E : Enc T) (ts t : TypeId) (zv : Value) (by_ : Nat) (ht : P.underlying ts = some (.slice t)) (hi : (P.info? t).map (fun i => (i.zero, i.size, i.bytes)) = some (some zv, E.z, by_)) (hzc : zv.cells.size = E.z)
    (w : World) (ty : TypeId) (base : Nat) (v : Value) (l : List T) (b : Option Addr) (c : Nat) (m : List T) (hown : OwnE E t w base v l) (hq : Sl E w b m) (hb0 : b = none → m = []) (hm : l.length + m.length ≤ maxLen) (hbytes : (l.length + m.length) * by_ ≤ 140737488355328) (hbase : base ≤ w.heap.size) :
    ∃ v' w', (Builtin.append_ #[ts, ts] ty #[v, .slice b m.length c]).run P w = .ok v' w' ∧ OwnE E t w' base v' (l ++ m) ∧ w.grownBy w' v.ownBlock := by
  obtain ⟨i0, hi, hz0, hz1, hz2⟩ := info_parts hi
  cases b with
  | none =>
    obtain rfl := hb0 rfl
    refine ⟨v, w, ?_, by rw [List.append_nil]; exact hown, ⟨rfl, rfl, rfl, Nat.le_refl _, fun _ _ _ => rfl⟩⟩
    rcases hown.2 with ⟨rfl, h0⟩ | ⟨g, cap, cur, rfl, hg, hc, hcap, -⟩
    · simp [Builtin.append_, run_underlying ht, sizeOf, typeInfo, hi, Builtin.lenOf, Builtin.firstCells]
    · simp [Builtin.append_, run_underlying ht, sizeOf, typeInfo, hi, Builtin.lenOf, Builtin.firstCells, loadCells, hcap, storeCells]
  | some ad =>
    have hnews : ∀ j u, (E.row m)[j]? = some u → w.cell? (ad.add j) = some u := by
      by_cases h0 : 0 < m.length
      · obtain ⟨g, off, e, hlt, hc⟩ := hq h0
        cases e
        intro j u hu
        rw [Addr.add_mid]
        exact hc j u hu
      · obtain rfl : m = [] := List.eq_nil_of_length_eq_zero (by omega)
        exact fun j u hu => by simp [E.row_nil] at hu
    obtain ⟨v', w', hr, h2, h3, -⟩ := run_append_own (P := P) w base ts ty t i0 zv E.z by_ ht hi hz0 hz1 hz2 hzc E.pos v l.length (E.row l) hown ad m.length c (E.row m) (E.row_length m) hnews (E.row_one m) hm hbytes hbase
    refine ⟨v', w', hr, ?_, h3⟩
    unfold OwnE
    rw [List.length_append, E.row_append]
    exact h2
/-- the same, as an operation of a region -/
theorem append_E {P : Program} (E : Enc T) (ts t : TypeId) (zv : Value) (by_ : Nat) (ht : P.underlying ts = some (.slice t)) (hi : (P.info? t).map (fun i => (i.zero, i.size, i.bytes)) = some (some zv, E.z, by_)) (hzc : zv.cells.size = E.z)
    {ops : Array Oper} {rest : List Oper} {o : Oper} {a : Act} {Q : Exit → Act → World → Prop} {w : World} (hgd : o.guard = none) (s x : Operand)
    (ho : o.op = .call { callee := .builtin .append, args := #[s, x], argTypes := #[ts, ts] })
    (base : Nat) (v : Value) (l : List T) (b : Option Addr) (n c : Nat) (m : List T) (hn : n = m.length) (hs : a.eval s = v) (hx : a.eval x = .slice b n c) (hown : OwnE E t w base v l) (hq : Sl E w b m) (hb0 : b = none → m = []) (hm : l.length + m.length ≤ maxLen) (hbytes : (l.length + m.length) * by_ ≤ 140737488355328) (hbase : base ≤ w.heap.size)
    (h : ∀ v' w', OwnE E t w' base v' (l ++ m) → w.grownBy w' v.ownBlock → wpList P ops Q rest (a.put o.dst v') w') :
    wpList P ops Q (o :: rest) a w := by
  subst hn
  obtain ⟨v', w', hr, h2, h3⟩ := run_append_E E ts t zv by_ ht hi hzc w o.type base v l b c m hown hq hb0 hm hbytes hbase
  refine wpList_plain hgd fun K hK => ?_
  unfold Oper.wp execOp
  simp only [ho, resolve, invoke, builtin, Sem.run_bind, Sem.run_pure, Result.andThen_ok, List.map_toArray, List.map_cons, List.map_nil, hs, hx, hr]
  exact hK _ _ (h v' w' h2 h3)
/-- the same, as a step that go_region_held3 takes -/
theorem step_append_E {P : Program} (E : Enc T) (ts t : TypeId) (zv : Value) (by_ : Nat) (ht : P.underlying ts = some (.slice t)) (hi : (P.info? t).map (fun i => (i.zero, i.size, i.bytes)) = some (some zv, E.z, by_)) (hzc : zv.cells.size = E.z)
    {ops : Array Oper} {o : Oper} {a : Act} {w : World} {K : Act → World → Prop} {Q : Exit → Act → World → Prop} {R : Prop} (hgd : o.guard = none) (s x : Operand)
    (ho : o.op = .call { callee := .builtin .append, args := #[s, x], argTypes := #[ts, ts] })
    (base : Nat) (v : Value) (l : List T) (b : Option Addr) (n c : Nat) (m : List T) (hn : n = m.length) (hs : a.eval s = v) (hx : a.eval x = .slice b n c) (hown : OwnE E t w base v l) (hq : Sl E w b m) (hb0 : b = none → m = []) (hm : l.length + m.length ≤ maxLen) (hbytes : (l.length + m.length) * by_ ≤ 140737488355328) (hbase : base ≤ w.heap.size)
    (h : ∀ v' w', OwnE E t w' base v' (l ++ m) → w.grownBy w' v.ownBlock → K (a.put o.dst v') w') :
    if Region.wanted o (yielded ops a.tmps) = true then Oper.wp P o a w K Q else R := by
  subst hn
  have hw : Region.wanted o (yielded ops a.tmps) = true := by simp [Region.wanted, hgd]
  rw [if_pos hw]
  obtain ⟨v', w', hr, h2, h3⟩ := run_append_E E ts t zv by_ ht hi hzc w o.type base v l b c m hown hq hb0 hm hbytes hbase
  unfold Oper.wp execOp
  simp only [ho, resolve, invoke, builtin, Sem.run_bind, Sem.run_pure, Result.andThen_ok, List.map_toArray, List.map_cons, List.map_nil, hs, hx, hr]
  exact h v' w' h2 h3
/-- one struct that was laid alone -/
theorem Sl.one {E : Enc T} {w : World} (t : TypeId) (p : T) : Sl E (w.alloc (.cells (E.enc p).toArray t)) (some ⟨w.heap.size, 0, none⟩) [p] := fun _ =>
  ⟨w.heap.size, 0, rfl, by simp, fun j u hu => by
    have e : E.row [p] = E.enc p := by rw [E.row_cons, E.row_nil, List.append_nil]
    rw [e] at hu
    rw [Nat.zero_add, cell_of_row _ _ _ _ _ _ (heap_alloc_new w _)]
    simpa using hu⟩
/-- a slice read out of memory: its list -/
theorem Sl.of {E : Enc T} {w : World} {b off : Nat} {l : List T} (hlt : b < w.heap.size) (h : ∀ i, (hi : i < l.length) → ∀ j v, (E.enc l[i])[j]? = some v → w.cell? ⟨b, off + i * E.z + j, none⟩ = some v) : Sl E w (some ⟨b, off, none⟩) l := fun _ =>
  ⟨b, off, rfl, hlt, fun j u hu => by
    have hj : j < l.length * E.z := by rw [← E.row_length]; exact (List.getElem?_eq_some_iff.1 hu).1
    have hz := E.pos
    have hi : j / E.z < l.length := Nat.div_lt_of_lt_mul (by rw [Nat.mul_comm]; exact hj)
    have hd : j / E.z * E.z + j % E.z = j := by rw [Nat.mul_comm]; exact Nat.div_add_mod j E.z
    have hm : j % E.z < E.z := Nat.mod_lt _ hz
    have hg := E.row_get l (j / E.z) hi (j % E.z) hm
    rw [hd, hu] at hg
    have := h (j / E.z) hi (j % E.z) u hg.symm
    rw [Nat.add_assoc, hd] at this
    exact this⟩
/-- a row from a place on -/
theorem from_E {P : Program} (E : Enc T) (ts : TypeId) (ht : P.underlying ts = some (.slice (P.elem ts))) (hsz : ∀ W, (sizeOf (P.elem ts)).run P W = .ok E.z W) (b : Option Addr) (l : List T) (d n : Nat) (hn : n ≤ l.length) (hd : l.length ≤ d) (w0 : World) (hs : Sl E w0 b l) :
    ∃ (b2 : Option Addr) (d2 : Nat), (∀ W, (Instr.slice ts (.slice b l.length d) (some (.int .i64 (n : Int))) none none).run P W = .ok (.slice b2 (l.drop n).length d2) W) ∧ (l.drop n).length ≤ d2 ∧ (∀ W, Sl E W b l → Sl E W b2 (l.drop n)) ∧ ((b = none → d = 0 ∧ l = []) → b2 = none → d2 = 0 ∧ l.drop n = []) ∧ ∀ g off sp, b2 = some ⟨g, off, sp⟩ → ∃ off' sp', b = some ⟨g, off', sp'⟩ := by
  have hrun : ∀ W, (Instr.slice ts (.slice b l.length d) (some (.int .i64 (n : Int))) none none).run P W = .ok (sliced b ((n : Int).toNat) l.length d E.z) W := fun W => by
    rw [run_slice_l (P := P) (w := W) ts b l.length d ht .i64 (n : Int) (by omega) (by omega), hsz W]
    rfl
  have hln : (l.drop n).length = l.length - n := List.length_drop
  by_cases e : d = n
  · refine ⟨b, 0, fun W => ?_, by rw [hln]; omega, fun W _ h0 => ?_, fun _ _ => ⟨rfl, List.eq_nil_of_length_eq_zero (by rw [hln]; omega)⟩, fun g off sp h => ⟨off, sp, h⟩⟩
    · rw [hrun W, hln]
      unfold sliced
      rw [if_pos (by omega), show d - (n : Int).toNat = 0 by omega, show (n : Int).toNat = n by omega]
    · rw [hln] at h0; omega
  · cases b with
    | none =>
      refine ⟨none, d - n, fun W => ?_, by rw [hln]; omega, fun W h h0 => ?_, fun hz _ => ?_, fun g off sp h => by cases h⟩
      · rw [hrun W, hln]
        unfold sliced
        rw [if_neg (by omega), show (n : Int).toNat = n by omega]
        rfl
      · rw [hln] at h0
        obtain ⟨b', off', e', -⟩ := h (by omega)
        cases e'
      · obtain ⟨h1, h2⟩ := hz rfl
        subst h2
        exact ⟨by omega, by simp⟩
    | some ad =>
      refine ⟨some (ad.add (n * E.z)), d - n, fun W => ?_, by rw [hln]; omega, fun W h => ?_, fun _ h => (by cases h), fun g off sp h => ?_⟩
      · rw [hrun W, hln]
        unfold sliced
        rw [if_neg (by omega), show (n : Int).toNat = n by omega]
        rfl
      · intro h0
        have h0' := h0
        rw [hln] at h0'
        obtain ⟨g, off, e', -, -⟩ := h (by omega)
        cases e'
        rw [Addr.add_mid]
        exact h.drop n h0
      · obtain ⟨g0, off0, sp0⟩ := ad
        unfold Addr.add at h
        split at h
        · cases h; exact ⟨_, _, rfl⟩
        · cases h; exact ⟨_, _, rfl⟩
end Go.Proofs.Ytmmaimopombepaa