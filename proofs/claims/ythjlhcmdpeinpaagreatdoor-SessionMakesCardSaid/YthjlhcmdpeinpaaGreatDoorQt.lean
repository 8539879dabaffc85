/- A region that draws its order, whose first operations only read or call (whatever the callees lay), and whose last ones stand in one row behind all of them: one walk in the order of the text serves every order. -/
import Derived.Test.YthjlhcmdpeinpaaGreatDoorGg1
namespace Go.Proofs.YthjlhcmdpeinpaaGreatDoor
open Go.RowKit Go.Sort
section
variable {P : Program} {ops opsT : Array Oper} {md : Region.Mode} {C : World → Prop}
def tailB (md : Region.Mode) (n : Nat) (ops : Array Oper) : Bool :=
  ((List.range ops.size).all fun j => ((ops[j]?).map fun o => o.after.all fun e => decide (e.on < j)).getD false) &&
  (((List.range n).all fun j => (List.range (n + 1)).any fun k => decide (j < k) && ((ops[k]?).map fun o => o.after.any fun e => Region.binds md e && (e.on == j)).getD false) &&
  (((List.range ops.size).all fun k => decide (k ≤ n) || ((ops[k]?).map fun o => o.after.any fun e => Region.binds md e && (e.on + 1 == k)).getD false) &&
  ((List.range n).all fun j => ((ops[j]?).map fun o => o.guard.isNone).getD false)))

structure TailAt (md : Region.Mode) (n : Nat) (ops : Array Oper) : Prop where
  down : ∀ (j : Nat) (o : Oper), ops[j]? = some o → ∀ e ∈ o.after, e.on < j
  wait : ∀ j : Nat, j < n → ∃ k o, j < k ∧ k ≤ n ∧ ops[k]? = some o ∧ ∃ e ∈ o.after, Region.binds md e = true ∧ e.on = j
  row : ∀ (k : Nat) (o : Oper), n < k → ops[k]? = some o → ∃ e ∈ o.after, Region.binds md e = true ∧ e.on + 1 = k
  plain : ∀ (j : Nat) (o : Oper), j < n → ops[j]? = some o → o.guard = none

theorem tailB_spec {n : Nat} (h : tailB md n ops = true) : TailAt md n ops := by
  unfold tailB at h
  rw [Bool.and_eq_true, Bool.and_eq_true, Bool.and_eq_true] at h
  obtain ⟨h1, h2, h3, h4⟩ := h
  refine ⟨?_, ?_, ?_, ?_⟩
  · intro j o ho e he
    have h := List.all_eq_true.1 h1 j (List.mem_range.2 (Array.getElem?_eq_some_iff.1 ho).1)
    rw [ho] at h
    simp only [Option.map_some, Option.getD_some, Array.all_eq_true_iff_forall_mem] at h
    exact of_decide_eq_true (h e he)
  · intro j hj
    have h := List.all_eq_true.1 h2 j (List.mem_range.2 hj)
    obtain ⟨k, hk, h⟩ := List.any_eq_true.1 h
    rw [Bool.and_eq_true] at h
    obtain ⟨h5, h6⟩ := h
    cases ho : ops[k]? with
    | none => rw [ho] at h6; simp at h6
    | some o =>
      rw [ho] at h6
      simp only [Option.map_some, Option.getD_some, Array.any_eq_true] at h6
      obtain ⟨i, hi, h7⟩ := h6
      rw [Bool.and_eq_true] at h7
      exact ⟨k, o, of_decide_eq_true h5, by have := List.mem_range.1 hk; omega, ho, o.after[i], Array.getElem_mem hi, h7.1, by simpa using h7.2⟩
  · intro k o hk ho
    have h := List.all_eq_true.1 h3 k (List.mem_range.2 (Array.getElem?_eq_some_iff.1 ho).1)
    rw [ho] at h
    have hn : decide (k ≤ n) = false := by simp; omega
    rw [hn, Bool.false_or] at h
    simp only [Option.map_some, Option.getD_some, Array.any_eq_true] at h
    obtain ⟨i, hi, h7⟩ := h
    rw [Bool.and_eq_true] at h7
    exact ⟨o.after[i], Array.getElem_mem hi, h7.1, by simpa using h7.2⟩
  · intro j o hj ho
    have h := List.all_eq_true.1 h4 j (List.mem_range.2 hj)
    rw [ho] at h
    simpa using h

theorem getD_false_lt {listed : Array Bool} {j : Nat} (h : listed.getD j false = true) : j < listed.size := by
  rcases Nat.lt_or_ge j listed.size with h' | h'
  · exact h'
  · simp [h'] at h
theorem getD_of_true {listed : Array Bool} {j : Nat} (h : listed.getD j false = true) : listed.getD j true = true := by
  rw [getD_two (getD_false_lt h)]; exact h
theorem getD_of_false {listed : Array Bool} {j : Nat} (h : listed.getD j true = false) : listed.getD j false = false := by
  rcases Nat.lt_or_ge j listed.size with h' | h'
  · rw [← getD_two h']; exact h
  · simp [h'] at h

/-- the row of the last ones -/
theorem wpAny_tail {Q' : Exit → Act → World → Prop} {n : Nat} {L : List Oper} (hT : TailAt md n L.toArray) (x : Nat) : ∀ (d k : Nat) (listed : Array Bool) (a : Act) (w : World), L.length = k + d → n ≤ k → listed.size = L.length →
    (∀ j, j < k → listed.getD j false = true) → (∀ j, k ≤ j → j < L.length → listed.getD j true = false) → wpList P L.toArray Q' (L.drop k) a w → wpAny P md L.toArray Q' (d + x) listed a w := by
  intro d
  induction d with
  | zero =>
    intro k listed a w hl hk hsz hyes hno h
    rw [List.drop_eq_nil_of_le (by omega)] at h
    refine wpAny_done ?_ h _
    refine List.eq_nil_iff_forall_not_mem.2 fun j hj => ?_
    obtain ⟨h0, oj, hoj, -⟩ := mem_ready.1 hj
    have hjs : j < L.length := by
      have := (Array.getElem?_eq_some_iff.1 hoj).1
      simpa using this
    rw [getD_of_true (hyes j (by omega))] at h0
    cases h0
  | succ d ih =>
    intro k listed a w hl hk hsz hyes hno h
    have hkl : k < L.length := by omega
    have hok : L.toArray[k]? = some L[k] := by simp [hkl]
    rw [Nat.succ_add]
    have hready : k ∈ Region.ready md L.toArray listed :=
      mem_ready.2 ⟨hno k (Nat.le_refl _) hkl, _, hok, fun e he _ => hyes _ (hT.down k _ hok e he)⟩
    refine ⟨fun h0 => (by rw [h0] at hready; cases hready), fun i hi => ?_⟩
    obtain ⟨h0, oi, hoi, hall⟩ := mem_ready.1 hi
    have his : i < L.length := by
      have := (Array.getElem?_eq_some_iff.1 hoi).1
      simpa using this
    have hik : i = k := by
      rcases Nat.lt_trichotomy i k with h1 | h1 | h1
      · rw [getD_of_true (hyes i h1)] at h0; cases h0
      · exact h1
      · obtain ⟨e, he, hb, hon⟩ := hT.row i oi (by omega) hoi
        have h2 := hall e he hb
        rw [getD_of_false (hno e.on (by omega) (by omega))] at h2
        cases h2
    subst hik
    rw [List.drop_eq_getElem_cons hkl] at h
    have hw : wpOp P L.toArray Q' i (wpList P L.toArray Q' (L.drop (i + 1))) a w := by
      unfold wpOp
      simp only [hok]
      unfold wpList at h
      exact h
    refine wpOp_mono (fun a' w' h' => ih (i + 1) _ a' w' (by omega) (by omega) (by simpa using hsz) ?_ ?_ h') hw
    · intro j hj
      by_cases hji : i = j
      · subst hji
        simp [Array.getElem?_setIfInBounds_self_of_lt (show i < listed.size by omega)]
      · exact getD_set_true (hyes j (by omega))
    · intro j hj1 hj2
      rw [getD_set_ne true (by omega)]
      exact hno j (by omega) hj2

theorem all_pre {n : Nat} {L : List Oper} (hT : TailAt md n L.toArray) {listed : Array Bool} (hc : Closed md L.toArray listed) (hr : n ∈ Region.ready md L.toArray listed) : ∀ m j : Nat, n - j ≤ m → j < n → listed.getD j false = true
  | 0, j, hm, hj => by omega
  | m + 1, j, hm, hj => by
    obtain ⟨k, o, hjk, hkn', ho, e, he, hb, rfl⟩ := hT.wait j hj
    by_cases hkn : k = n
    · subst hkn
      obtain ⟨-, o', ho', hall⟩ := mem_ready.1 hr
      obtain rfl : o' = o := Option.some.inj (ho'.symm.trans ho)
      exact hall e he hb
    · exact hc k o ho (getD_of_true (all_pre hT hc hr m k (by omega) (by omega))) e he hb

theorem take_get {L : List Oper} {n j : Nat} (hj : j < n) : (L.take n).toArray[j]? = L.toArray[j]? := by
  simp [hj]
theorem qOp_take {L : List Oper} {n i : Nat} (hT : TailAt md n L.toArray) (hi : i < n) (hil : i < L.length) {K : Act → Prop} {a : Act} (h : qOp P (L.take n).toArray C i K a) : qOp P L.toArray C i K a := by
  have ho : L.toArray[i]? = some L[i] := by simp [hil]
  have hg := hT.plain i _ hi ho
  unfold qOp at h ⊢
  rw [take_get hi] at h
  simp only [ho] at h ⊢
  rw [if_pos (by simp [Region.wanted, hg])] at h ⊢
  exact h

theorem wpAny_of_quiet_take {Q : Act → Prop} {Q' : Exit → Act → World → Prop} {n : Nat} {L : List Oper} (hT : TailAt md n L.toArray) (hn : n ≤ L.length)
    (hQ : ∀ a w, C w → Q a → wpList P L.toArray Q' (L.drop n) a w) :
    ∀ (fuel : Nat) (lt listed : Array Bool) (a : Act) (w : World), C w → lt.size = n → listed.size = L.length → (∀ j, j < n → listed.getD j false = lt.getD j false) → (∀ j, n ≤ j → j < L.length → listed.getD j true = false) → Closed md L.toArray listed →
      wpAnyQ P md (L.take n).toArray C Q fuel lt a → wpAny P md L.toArray Q' (L.length - n + fuel) listed a w := by
  intro fuel
  have hTs : (L.take n).toArray.size = n := by simp; omega
  have hdownT : ∀ (j : Nat) (o : Oper), (L.take n).toArray[j]? = some o → ∀ e ∈ o.after, e.on < j := by
    intro j o ho
    have hj : j < n := by
      have := (Array.getElem?_eq_some_iff.1 ho).1
      omega
    rw [take_get hj] at ho
    exact hT.down j o ho
  have key : ∀ (x : Nat) (lt listed : Array Bool) (a : Act) (w : World), C w → lt.size = n → listed.size = L.length → (∀ j, j < n → listed.getD j false = lt.getD j false) → (∀ j, n ≤ j → j < L.length → listed.getD j true = false) → Region.ready md (L.take n).toArray lt = [] → Q a → wpAny P md L.toArray Q' (L.length - n + x) listed a w := by
    intro x lt listed a w hC hlt hsz heq hno hr hq
    refine wpAny_tail hT x (L.length - n) n listed a w (by omega) (Nat.le_refl _) hsz ?_ hno (hQ a w hC hq)
    intro j hj
    rw [heq j hj]
    rcases hb : lt.getD j false with _ | _
    · exfalso
      obtain ⟨i, hi⟩ := ready_some (md := md) hdownT (by omega) j (by omega) (show lt.getD j true = false by rw [getD_two (by omega)]; exact hb)
      rw [hr] at hi
      cases hi
    · rfl
  induction fuel with
  | zero =>
    intro lt listed a w hC hlt hsz heq hno _ h
    exact key 0 lt listed a w hC hlt hsz heq hno h.1 h.2
  | succ fuel ih =>
    intro lt listed a w hC hlt hsz heq hno hcl h
    by_cases hr : Region.ready md (L.take n).toArray lt = []
    · exact key (fuel + 1) lt listed a w hC hlt hsz heq hno hr (h.1 hr)
    · have hsub : ∀ i, i ∈ Region.ready md (L.take n).toArray lt ↔ (i < n ∧ i ∈ Region.ready md L.toArray listed) := by
        intro i
        constructor
        · intro hi
          obtain ⟨h0, o, ho, hall⟩ := mem_ready.1 hi
          have hin : i < n := by
            have := (Array.getElem?_eq_some_iff.1 ho).1
            omega
          rw [take_get hin] at ho
          refine ⟨hin, mem_ready.2 ⟨?_, o, ho, fun e he hb => ?_⟩⟩
          · rw [getD_two (by omega), heq i hin, ← getD_two (by omega)]; exact h0
          · have := hT.down i o ho e he
            rw [heq _ (by omega)]; exact hall e he hb
        · rintro ⟨hin, hi⟩
          obtain ⟨h0, o, ho, hall⟩ := mem_ready.1 hi
          refine mem_ready.2 ⟨?_, o, by rw [take_get hin]; exact ho, fun e he hb => ?_⟩
          · rw [getD_two (by omega), ← heq i hin, ← getD_two (by omega)]; exact h0
          · have := hT.down i o ho e he
            rw [← heq _ (by omega)]; exact hall e he hb
      obtain ⟨i0, hi0⟩ : ∃ i, i ∈ Region.ready md (L.take n).toArray lt := by
        rcases hrr : Region.ready md (L.take n).toArray lt with _ | ⟨i, r⟩
        · exact absurd hrr hr
        · exact ⟨i, by simp⟩
      have hi0' := (hsub i0).1 hi0
      show wpAny P md L.toArray Q' ((L.length - n + fuel) + 1) listed a w
      refine ⟨fun h0 => (by rw [h0] at hi0'; cases hi0'.2), fun i hi => ?_⟩
      obtain ⟨h0, oi, hoi, hall⟩ := mem_ready.1 hi
      have his : i < L.length := by
        have := (Array.getElem?_eq_some_iff.1 hoi).1
        simpa using this
      have hin : i < n := by
        rcases Nat.lt_trichotomy i n with h1 | h1 | h1
        · exact h1
        · exfalso
          subst h1
          have hp := all_pre hT hcl hi
          have h2 := hp _ i0 (Nat.le_refl _) hi0'.1
          have h3 := (mem_ready.1 hi0'.2).1
          rw [getD_of_true h2] at h3
          cases h3
        · exfalso
          obtain ⟨e, he, hb, hon⟩ := hT.row i oi (by omega) hoi
          have h2 := hall e he hb
          rw [getD_of_false (hno e.on (by omega) (by omega))] at h2
          cases h2
      have hq := qOp_take hT hin his (h.2 i ((hsub i).2 ⟨hin, hi⟩))
      refine wpOp_of_qOp hC (fun a' w' hw' h' => ih _ _ a' w' hw' (by simpa using hlt) (by simpa using hsz) ?_ ?_ (hcl.set hi) h') hq
      · intro j hj
        by_cases hji : i = j
        · subst hji
          simp [Array.getElem?_setIfInBounds_self_of_lt (show i < listed.size by omega), Array.getElem?_setIfInBounds_self_of_lt (show i < lt.size by omega)]
        · rw [getD_set_ne false hji, getD_set_ne false hji]
          exact heq j hj
      · intro j hj1 hj2
        rw [getD_set_ne true (by omega)]
        exact hno j hj1 hj2
end
/-- the law, at the class 'of what was there nothing has turned' -/
theorem wp_region_tail_below {P : Program} {id : Nat} {Q' : Exit → Act → World → Prop} {a : Act} {w : World} {L : List Oper} (n : Nat) (hm : P.follows .mixedOrders = true) (hn : n ≤ L.length)
    (hB : Region.lexB .any (L.take n).toArray = true) (hL : tailB .any n L.toArray = true)
    (h : wpQuiet P (L.take n).toArray (fun w' => ∃ p : Regrown, w' = grow (redrawn w p.d) p.os) (fun a' => ∀ w', (∃ p : Regrown, w' = grow (redrawn w p.d) p.os) → wpList P L.toArray Q' (L.drop n) a' w') (L.take n) a) :
    (Code.region id L.toArray true).wp P Q' a w := by
  simp only [Region.lexB, Bool.and_eq_true] at hB
  refine wp_region_any hm ?_
  have h1 := wpAnyQ_lex (C := fun w' => ∃ p : Regrown, w' = grow (redrawn w p.d) p.os) (md := .any) hB.1 (L.take n) 0 (Array.replicate n false) a (by simp) (by simpa [Nat.min_eq_left hn] using hB.2) h
  have hln : (L.take n).length = n := by simp; omega
  rw [hln] at h1
  have h2 := wpAny_of_quiet_take (C := fun w' => ∃ p : Regrown, w' = grow (redrawn w p.d) p.os) (Q := fun a' => ∀ w', (∃ p : Regrown, w' = grow (redrawn w p.d) p.os) → wpList P L.toArray Q' (L.drop n) a' w') (tailB_spec hL) hn (fun a' w' hw' h' => h' w' hw')
    n (Array.replicate n false) (Array.replicate L.length false) a { w with drawn := w.drawn + 1 } ⟨⟨w.drawn + 1, #[]⟩, by rw [grow_empty]; rfl⟩ (by simp) (by simp) ?_ ?_ ?_ h1
  · rw [show L.length - n + n = L.toArray.size by simp; omega] at h2
    simpa using h2
  · intro j hj
    simp [hj, show j < L.length by omega]
  · intro j _ hj
    simp [hj]
  · intro j oj hoj hl e _ _
    have hjs : j < L.toArray.size := (Array.getElem?_eq_some_iff.1 hoj).1
    have hjs' : j < L.length := by simpa using hjs
    simp [hjs'] at hl
end Go.Proofs.YthjlhcmdpeinpaaGreatDoor