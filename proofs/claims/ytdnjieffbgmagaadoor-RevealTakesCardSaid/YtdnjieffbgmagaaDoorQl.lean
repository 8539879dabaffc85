/- A region that draws its order, whose operations only read or call (whatever the callees lay), and whose last operation, a store, waits for all others: one walk in the order of the text serves every order. -/
import Derived.WalkKit
import Derived.Lib.QuietBelow
import Derived.Test.YtdnjieffbgmagaaDoorRows
namespace Go.Proofs.YtdnjieffbgmagaaDoor
open Go.RowKit Go.Sort
section
variable {P : Program} {ops opsq : Array Oper} {md : Region.Mode} {C : World → Prop}
/-- every edge leads down, and every operation but the last is waited for by a later one -/
def lastB (md : Region.Mode) (ops : Array Oper) : Bool :=
  ((List.range ops.size).all fun j => ((ops[j]?).map fun o => o.after.all fun e => decide (e.on < j)).getD false) &&
  ((List.range (ops.size - 1)).all fun j => (List.range ops.size).any fun k => decide (j < k) && ((ops[k]?).map fun o => o.after.any fun e => Region.binds md e && (e.on == j)).getD false)

theorem lastB_down (h : lastB md ops = true) : ∀ (j : Nat) (o : Oper), ops[j]? = some o → ∀ e ∈ o.after, e.on < j := by
  intro j o ho e he
  unfold lastB at h
  rw [Bool.and_eq_true] at h
  have h1 := List.all_eq_true.1 h.1 j (List.mem_range.2 (Array.getElem?_eq_some_iff.1 ho).1)
  rw [ho] at h1
  simp only [Option.map_some, Option.getD_some, Array.all_eq_true_iff_forall_mem] at h1
  exact of_decide_eq_true (h1 e he)
theorem lastB_waited (h : lastB md ops = true) : ∀ j : Nat, j + 1 < ops.size → ∃ k o, j < k ∧ ops[k]? = some o ∧ ∃ e ∈ o.after, Region.binds md e = true ∧ e.on = j := by
  intro j hj
  unfold lastB at h
  rw [Bool.and_eq_true] at h
  have h1 := List.all_eq_true.1 h.2 j (List.mem_range.2 (by omega))
  obtain ⟨k, hk, h2⟩ := List.any_eq_true.1 h1
  rw [Bool.and_eq_true] at h2
  obtain ⟨h3, h4⟩ := h2
  cases ho : ops[k]? with
  | none => rw [ho] at h4; simp at h4
  | some o =>
    rw [ho] at h4
    simp only [Option.map_some, Option.getD_some, Array.any_eq_true] at h4
    obtain ⟨i, hi, h5⟩ := h4
    rw [Bool.and_eq_true] at h5
    exact ⟨k, o, of_decide_eq_true h3, ho, o.after[i], Array.getElem_mem hi, h5.1, by simpa using h5.2⟩

/-- what is listed has had all listed that it waits for -/
def Closed (md : Region.Mode) (ops : Array Oper) (listed : Array Bool) : Prop :=
  ∀ (j : Nat) (o : Oper), ops[j]? = some o → listed.getD j true = true → ∀ e ∈ o.after, Region.binds md e = true → listed.getD e.on false = true

theorem getD_two {listed : Array Bool} {j : Nat} (hj : j < listed.size) : listed.getD j true = listed.getD j false := by
  simp [hj]

theorem Closed.set {listed : Array Bool} (h : Closed md ops listed) {i : Nat} (hi : i ∈ Region.ready md ops listed) : Closed md ops (listed.setIfInBounds i true) := by
  intro j o ho hl e he hb
  by_cases hij : i = j
  · subst hij
    obtain ⟨-, o', ho', hall⟩ := mem_ready.1 hi
    obtain rfl : o' = o := Option.some.inj (ho'.symm.trans ho)
    exact getD_set_true (hall e he hb)
  · rw [getD_set_ne true hij] at hl
    exact getD_set_true (h j o ho hl e he hb)

theorem ready_some (hdown : ∀ (j : Nat) (o : Oper), ops[j]? = some o → ∀ e ∈ o.after, e.on < j) {listed : Array Bool} (hsz : listed.size = ops.size) :
    ∀ n : Nat, n < ops.size → listed.getD n true = false → ∃ i, i ∈ Region.ready md ops listed := by
  intro n
  induction n using Nat.strongRecOn with
  | _ n ih =>
    intro hn hl
    have ho : ops[n]? = some ops[n] := Array.getElem?_eq_getElem hn
    by_cases h : ∀ e ∈ ops[n].after, Region.binds md e = true → listed.getD e.on false = true
    · exact ⟨n, mem_ready.2 ⟨hl, _, ho, h⟩⟩
    · obtain ⟨e, h⟩ := Classical.not_forall.1 h
      obtain ⟨he, h⟩ := Classical.not_imp.1 h
      obtain ⟨-, h⟩ := Classical.not_imp.1 h
      have hlt := hdown n _ ho e he
      refine ih e.on hlt (by omega) ?_
      rw [getD_two (by omega)]
      simpa using h

theorem all_listed (hw : ∀ j : Nat, j + 1 < ops.size → ∃ k o, j < k ∧ ops[k]? = some o ∧ ∃ e ∈ o.after, Region.binds md e = true ∧ e.on = j) {listed : Array Bool} (hsz : listed.size = ops.size)
    (hc : Closed md ops listed) {n : Nat} (hn : ops.size = n + 1) (hr : n ∈ Region.ready md ops listed) : ∀ m j : Nat, n - j ≤ m → j < n → listed.getD j true = true
  | 0, j, hm, hj => by omega
  | m + 1, j, hm, hj => by
    obtain ⟨k, o, hjk, ho, e, he, hb, rfl⟩ := hw j (by omega)
    have hk : k < ops.size := (Array.getElem?_eq_some_iff.1 ho).1
    rw [getD_two (by omega)]
    by_cases hkn : k = n
    · subst hkn
      obtain ⟨-, o', ho', hall⟩ := mem_ready.1 hr
      obtain rfl : o' = o := Option.some.inj (ho'.symm.trans ho)
      exact hall e he hb
    · exact hc k o ho (all_listed hw hsz hc hn hr m k (by omega) (by omega)) e he hb

theorem wpAny_done {Q' : Exit → Act → World → Prop} {listed : Array Bool} {a : Act} {w : World} (hr : Region.ready md ops listed = []) (h : Q' .normal a w) : ∀ fuel, wpAny P md ops Q' fuel listed a w
  | 0 => ⟨hr, h⟩
  | fuel + 1 => ⟨fun _ => h, fun i hi => by rw [hr] at hi; cases hi⟩
theorem wpAnyQ_done {Q : Act → Prop} {listed : Array Bool} {a : Act} (hr : Region.ready md ops listed = []) : ∀ fuel, wpAnyQ P md ops C Q fuel listed a → Q a
  | 0, h => h.2
  | _ + 1, h => h.1 hr

theorem wpAny_of_quiet_last {Q : Act → Prop} {Q' : Exit → Act → World → Prop} {n : Nat} {o : Oper} (hn : ops.size = n + 1) (ho : ops[n]? = some o) (hL : lastB md ops = true)
    (hrd : ∀ listed, Region.ready md opsq listed = Region.ready md ops listed) (hy : yielded opsq = yielded ops) (hq : ∀ j, j ≠ n → opsq[j]? = ops[j]?)
    (hqn : ∀ (K : Act → Prop) (a : Act), qOp P opsq C n K a → K a)
    (hQ : ∀ a w, C w → Q a → wpList P ops Q' [o] a w) :
    ∀ (fuel : Nat) (listed : Array Bool) (a : Act) (w : World), C w → listed.size = ops.size → Closed md ops listed → listed.getD n true = false → wpAnyQ P md opsq C Q fuel listed a → wpAny P md ops Q' fuel listed a w := by
  intro fuel
  induction fuel with
  | zero =>
    intro listed a w _ hsz _ hln h
    obtain ⟨i, hi⟩ := ready_some (md := md) (lastB_down hL) hsz n (by omega) hln
    have h1 := h.1
    rw [hrd] at h1
    rw [h1] at hi
    cases hi
  | succ fuel ih =>
    intro listed a w hC hsz hcl hln h
    obtain ⟨i0, hi0⟩ := ready_some (md := md) (lastB_down hL) hsz n (by omega) hln
    refine ⟨fun h0 => (by rw [h0] at hi0; cases hi0), fun i hi => ?_⟩
    have hqi := h.2 i (by rw [hrd]; exact hi)
    by_cases hin : i = n
    · subst hin
      have hall := all_listed (lastB_waited hL) hsz hcl hn hi
      have hnil : Region.ready md ops (listed.setIfInBounds i true) = [] := by
        refine List.eq_nil_iff_forall_not_mem.2 fun j hj => ?_
        obtain ⟨h0, oj, hoj, -⟩ := mem_ready.1 hj
        have hjs : j < ops.size := (Array.getElem?_eq_some_iff.1 hoj).1
        by_cases hji : i = j
        · subst hji
          simp only [Array.getD_eq_getD_getElem?, Array.getElem?_setIfInBounds_self_of_lt (show i < listed.size by omega), Option.getD_some] at h0
          cases h0
        · rw [getD_set_ne true hji, hall i j (by omega) (by omega)] at h0
          cases h0
      have hQa := wpAnyQ_done (by rw [hrd]; exact hnil) fuel (hqn _ a hqi)
      have hw : wpOp P ops Q' i (wpList P ops Q' []) a w := by unfold wpOp; simp only [ho]; exact hQ a w hC hQa
      exact wpOp_mono (fun a' w' h' => wpAny_done hnil h' fuel) hw
    · have hqi' : qOp P ops C i (wpAnyQ P md opsq C Q fuel (listed.setIfInBounds i true)) a := by
        unfold qOp at hqi ⊢
        rw [hq i hin, hy] at hqi
        exact hqi
      refine wpOp_of_qOp hC (fun a' w' hw' h' => ih _ a' w' hw' (by simpa using hsz) (hcl.set hi) ?_ h') hqi'
      rw [getD_set_ne true hin]
      exact hln

/-- the operation, made to do nothing -/
def hushed (o : Oper) : Oper := { o with op := .move (.const undef) }
def hush (L : List Oper) (n : Nat) : List Oper := L.take n ++ (L.drop n).map hushed

theorem hush_get (L : List Oper) (n j : Nat) : (hush L n)[j]? = if j < n then L[j]? else (L[j]?).map hushed := by
  unfold hush
  by_cases hj : j < n
  · rw [if_pos hj]
    by_cases hl : j < L.length
    · rw [List.getElem?_append_left (by simp; omega), List.getElem?_take, if_pos hj]
    · rw [List.getElem?_eq_none (by simp; omega), List.getElem?_eq_none (by omega)]
  · rw [if_neg hj, List.getElem?_append_right (by simp; omega), List.getElem?_map, List.getElem?_drop]
    by_cases hl : j < L.length
    · congr 2; simp; omega
    · rw [List.getElem?_eq_none (by simp; omega), List.getElem?_eq_none (by omega)]

theorem hush_after (L : List Oper) (n j : Nat) : ((hush L n).toArray[j]?).map (·.after) = (L.toArray[j]?).map (·.after) := by
  simp only [List.getElem?_toArray, hush_get]
  split
  · rfl
  · cases L[j]? <;> rfl
theorem hush_dst (L : List Oper) (n j : Nat) : ((hush L n).toArray[j]?).bind (·.dst) = (L.toArray[j]?).bind (·.dst) := by
  simp only [List.getElem?_toArray, hush_get]
  split
  · rfl
  · cases L[j]? <;> rfl
theorem hush_length (L : List Oper) (n : Nat) : (hush L n).length = L.length := by
  simp [hush]; omega

theorem wpQuiet_yielded (h : yielded opsq = yielded ops) {Q Q' : Act → Prop} (hQ : ∀ a, Q a → Q' a) : ∀ (l : List Oper) (a : Act), wpQuiet P ops C Q l a → wpQuiet P opsq C Q' l a
  | [], _, hh => hQ _ hh
  | o :: l, a, hh => by
    unfold wpQuiet at hh ⊢
    rw [h]
    split
    · rename_i hw
      rw [if_pos hw] at hh
      exact Oper.quiet_mono (fun a' h' => wpQuiet_yielded h hQ l a' h') hh
    · rename_i hw
      rw [if_neg hw] at hh
      exact wpQuiet_yielded h hQ l _ hh
theorem wpQuiet_append {Q : Act → Prop} : ∀ (l l' : List Oper) (a : Act), wpQuiet P ops C (wpQuiet P ops C Q l') l a → wpQuiet P ops C Q (l ++ l') a
  | [], _, _, hh => hh
  | o :: l, l', a, hh => by
    show wpQuiet P ops C Q (o :: (l ++ l')) a
    unfold wpQuiet at hh ⊢
    split
    · rename_i hw
      rw [if_pos hw] at hh
      exact Oper.quiet_mono (fun a' h' => wpQuiet_append l l' a' h') hh
    · rename_i hw
      rw [if_neg hw] at hh
      exact wpQuiet_append l l' _ hh

theorem wp_region_quiet_last {id : Nat} {Q' : Exit → Act → World → Prop} {a : Act} {w : World} {L : List Oper} (n : Nat) (o : Oper) (hm : P.follows .mixedOrders = true) (hlen : L.length = n + 1) (ho : L[n]? = some o)
    (hdst : o.dst = none) (hgd : o.guard = none) (hB : Region.lexB .any (hush L n).toArray = true) (hL : lastB .any L.toArray = true) (hC : C { w with drawn := w.drawn + 1 })
    (h : wpQuiet P L.toArray C (fun a' => ∀ w', C w' → wpList P L.toArray Q' [o] a' w') (L.take n) a) : (Code.region id L.toArray true).wp P Q' a w := by
  have hy : yielded (hush L n).toArray = yielded L.toArray := by
    funext t j
    unfold yielded
    rw [hush_dst]
  have hsz : (hush L n).toArray.size = L.toArray.size := by simp [hush_length]
  have hrd : ∀ listed, Region.ready .any (hush L n).toArray listed = Region.ready .any L.toArray listed := by
    intro listed
    unfold Region.ready
    rw [hsz]
    congr 1
    funext i
    have e := hush_after L n i
    cases h1 : (hush L n).toArray[i]? with
    | none =>
      rw [h1] at e
      cases h2 : L.toArray[i]? with
      | none => rfl
      | some o2 => rw [h2] at e; simp at e
    | some o1 =>
      rw [h1] at e
      cases h2 : L.toArray[i]? with
      | none => rw [h2] at e; simp at e
      | some o2 =>
        rw [h2] at e
        simp only [Option.map_some, Option.some.injEq] at e
        simp only [Option.map_some, e]
  have hdrop : L.drop n = [o] := by
    rw [List.drop_eq_getElem_cons (by omega), List.drop_eq_nil_of_le (by omega)]
    rw [List.getElem?_eq_getElem (by omega)] at ho
    rw [Option.some.inj ho]
  simp only [Region.lexB, Bool.and_eq_true] at hB
  refine wp_region_any hm ?_
  refine wpAny_of_quiet_last (C := C) (opsq := (hush L n).toArray) (Q := fun a' => ∀ w', C w' → wpList P L.toArray Q' [o] a' w') (n := n) (by simpa using hlen) (by simpa using ho) hL hrd hy ?_ ?_ (fun a' w' hw' h' => h' w' hw') _ _ _ _ hC (by simp) ?_ ?_ ?_
  · intro j hj
    simp only [List.getElem?_toArray, hush_get]
    split
    · rfl
    · rw [List.getElem?_eq_none (by omega)]; rfl
  · intro K a' hK
    unfold qOp at hK
    simp only [List.getElem?_toArray, hush_get, Nat.lt_irrefl, if_false, ho, Option.map_some] at hK
    rw [if_pos (by simp [Region.wanted, hushed, hgd])] at hK
    obtain ⟨v, -, hv⟩ := hK
    simpa [hushed, hdst, Act.put] using hv
  · intro j oj hoj hl e _ _
    have hjs : j < L.toArray.size := (Array.getElem?_eq_some_iff.1 hoj).1
    rw [getD_two (by simpa using hjs), Array.getD_eq_getD_getElem?, Array.getElem?_replicate] at hl
    split at hl <;> simp at hl
  · rw [getD_two (by simp; omega), Array.getD_eq_getD_getElem?, Array.getElem?_replicate]
    split <;> rfl
  · have hw2 : wpQuiet P (hush L n).toArray C (fun a' => ∀ w', C w' → wpList P L.toArray Q' [o] a' w') (hush L n) a := by
      refine wpQuiet_append (L.take n) _ a (wpQuiet_yielded hy ?_ _ _ h)
      intro a' h'
      rw [hdrop]
      show wpQuiet P _ C _ [hushed o] a'
      unfold wpQuiet
      rw [if_pos (by simp [Region.wanted, hushed, hgd])]
      refine ⟨undef, fun w' _ => ?_, ?_⟩
      · exact ⟨rfl, rfl⟩
      · simpa [hushed, hdst, Act.put, wpQuiet] using h'
    have := wpAnyQ_lex (C := C) (md := .any) hB.1 (hush L n) 0 (Array.replicate L.toArray.size false) a (by simp) (by rw [← hsz]; simpa using hB.2) hw2
    rw [hush_length] at this
    simpa using this
end
/-- the same at the class 'of what was there nothing has turned' -/
theorem wp_region_last_below {P : Program} {id : Nat} {Q' : Exit → Act → World → Prop} {a : Act} {w : World} {L : List Oper} (n : Nat) (o : Oper) (hm : P.follows .mixedOrders = true) (hlen : L.length = n + 1) (ho : L[n]? = some o)
    (hdst : o.dst = none) (hgd : o.guard = none) (hB : Region.lexB .any (hush L n).toArray = true) (hL : lastB .any L.toArray = true)
    (h : wpQuiet P L.toArray (fun w' => ∃ p : Regrown, w' = grow (redrawn w p.d) p.os) (fun a' => ∀ w', (∃ p : Regrown, w' = grow (redrawn w p.d) p.os) → wpList P L.toArray Q' [o] a' w') (L.take n) a) :
    (Code.region id L.toArray true).wp P Q' a w :=
  wp_region_quiet_last n o hm hlen ho hdst hgd hB hL ⟨⟨w.drawn + 1, #[]⟩, by rw [grow_empty]; rfl⟩ h

/-- the same where the callees only draw -/
theorem wp_region_last_drewN {P : Program} {id : Nat} {Q' : Exit → Act → World → Prop} {a : Act} {w : World} {L : List Oper} (n : Nat) (o : Oper) (hm : P.follows .mixedOrders = true) (hlen : L.length = n + 1) (ho : L[n]? = some o)
    (hdst : o.dst = none) (hgd : o.guard = none) (hB : Region.lexB .any (hush L n).toArray = true) (hL : lastB .any L.toArray = true)
    (h : wpQuiet P L.toArray (fun w' => ∃ m, w' = w.drewN m) (fun a' => ∀ w', (∃ m, w' = w.drewN m) → wpList P L.toArray Q' [o] a' w') (L.take n) a) :
    (Code.region id L.toArray true).wp P Q' a w :=
  wp_region_quiet_last n o hm hlen ho hdst hgd hB hL ⟨1, rfl⟩ h
end Go.Proofs.YtdnjieffbgmagaaDoor