/- A region that draws its order and stores at its end: what is read ahead of the first store may be taken first, if that store waits for it; behind the store nothing is asked of the world. -/
import Derived.WalkKit
import Derived.ProofKit
import Derived.OrdersHeld
import Derived.Test.YtmmaimopombepaaRows
namespace Go.Proofs.Ytmmaimopombepaa
open Go.RowKit
section
variable {P : Program} {ops : Array Oper} {Q : Exit → Act → World → Prop} {md : Region.Mode} {S : World → Prop} {k : Nat}
/-- whatever order is picked, and as long as operation k has not come up the world meets S -/
def wpAnyK (P : Program) (md : Region.Mode) (ops : Array Oper) (Q : Exit → Act → World → Prop) (S : World → Prop) (k : Nat) : Nat → Array Bool → Act → World → Prop
  | 0, listed, a, w => Region.ready md ops listed = [] ∧ Q .normal a w
  | n + 1, listed, a, w =>
    (Region.ready md ops listed = [] → Q .normal a w) ∧
    ∀ i ∈ Region.ready md ops listed, wpOp P ops Q i (fun b v => ((listed.setIfInBounds i true).getD k true = false → S v) ∧ wpAnyK P md ops Q S k n (listed.setIfInBounds i true) b v) a w

theorem any_of_K : ∀ (n : Nat) (listed : Array Bool) (a : Act) (w : World), wpAnyK P md ops Q S k n listed a w → wpAny P md ops Q n listed a w
  | 0, _, _, _, h => h
  | n + 1, _, _, _, h => ⟨h.1, fun i hi => wpOp_mono (fun b v hv => any_of_K n _ b v hv.2) (h.2 i hi)⟩

theorem getD_set_true {listed : Array Bool} {i : Nat} (h : listed.getD k true = true) : (listed.setIfInBounds i true).getD k true = true := by
  by_cases e : i = k
  · subst e
    rcases Nat.lt_or_ge i listed.size with hs | hs
    · simp [hs]
    · simp [Nat.not_lt.2 hs]
  · rw [getD_set_ne true e]; exact h

/-- once operation k has come up -/
theorem K_of_any : ∀ (n : Nat) (listed : Array Bool) (a : Act) (w : World), listed.getD k true = true → wpAny P md ops Q n listed a w → wpAnyK P md ops Q S k n listed a w
  | 0, _, _, _, _, h => h
  | n + 1, _, _, _, hk, h => ⟨h.1, fun i hi => wpOp_mono (fun b v hv => ⟨fun hf => absurd (getD_set_true hk) (by rw [hf]; decide), K_of_any n _ b v (getD_set_true hk) hv⟩) (h.2 i hi)⟩

theorem K_first {i : Nat} {oi ok : Oper} {v : Value} (hi : ops[i]? = some oi) (hk : ops[k]? = some ok) (hki : ∃ e ∈ ok.after, Region.binds md e = true ∧ e.on = i)
    (hsel : ∀ (j : Nat) (o : Oper) cs b, ops[j]? = some o → o.op ≠ .select cs b) (hQ : ∀ c a w, Q (.panic c) (a.put oi.dst v) w → Q (.panic c) a w) :
    ∀ (n : Nat) (listed : Array Bool) (a : Act) (w : World),
      (∀ j oj, ops[j]? = some oj → j ≠ i → listed.getD j true = false → (∀ e ∈ oj.after, Region.binds md e = true → e.on ≠ i) → oi.apart ops oj = true) →
      i ∈ Region.ready md ops listed → listed.getD k true = false → YieldsIf P ops S oi v a → S w →
      wpAnyK P md ops Q S k n (listed.setIfInBounds i true) (a.put oi.dst v) w → wpAnyK P md ops Q S k (n + 1) listed a w := by
  intro n
  induction n with
  | zero =>
    intro listed a w _ hr hkl hy hS H
    refine ⟨fun h => (by rw [h] at hr; cases hr), fun j hj => ?_⟩
    by_cases e : j = i
    · subst e; exact hy.wpOp hi hS ⟨fun _ => hS, H⟩
    · have := ready_mono hj e
      rw [H.1] at this
      cases this
  | succ n ih =>
    intro listed a w hfree hr hkl hy hS H
    refine ⟨fun h => (by rw [h] at hr; cases hr), fun j hj => ?_⟩
    by_cases e : j = i
    · subst e; exact hy.wpOp hi hS ⟨fun _ => hS, H⟩
    · obtain ⟨hjun, oj, hoj, hall⟩ := mem_ready.1 hj
      have hiun := (mem_ready.1 hr).1
      have hilt : i < listed.size := by
        rcases Nat.lt_or_ge i listed.size with h' | h'
        · exact h'
        · simp [Array.getElem?_eq_none h'] at hiun
      have hnot : ∀ e ∈ oj.after, Region.binds md e = true → e.on ≠ i := fun x hx hb heq => by
        have h1 := hall x hx hb
        rw [heq] at h1
        simp [hilt] at hiun h1
        rw [hiun] at h1; cases h1
      have hjk : j ≠ k := by
        rintro rfl
        obtain ⟨x, hx, hb, he⟩ := hki
        rw [hk] at hoj
        cases hoj
        exact hnot x hx hb he
      have h2 := wpOp_putIf hoj (hfree j oj hoj e hjun hnot) (fun cs b => hsel i oi cs b hi) (fun cs b => hsel j oj cs b hoj) hQ hy (H.2 j (ready_mono hj e))
      have hkj : (listed.setIfInBounds j true).getD k true = false := by rw [getD_set_ne true hjk]; exact hkl
      have hkij : ((listed.setIfInBounds i true).setIfInBounds j true).getD k true = false := by
        rw [getD_set_ne true hjk]
        by_cases e2 : i = k
        · subst e2
          obtain ⟨x, hx, hb, he⟩ := hki
          have h3 := (mem_ready.1 hr).2
          obtain ⟨oi', hoi', hall'⟩ := h3
          rw [hk] at hoi'
          cases hoi'
          have h1 := hall' x hx hb
          rw [he] at h1
          simp [hilt] at hiun h1
          rw [hiun] at h1; cases h1
        · rw [getD_set_ne true e2]; exact hkl
      refine wpOp_mono (fun b x hx => ⟨fun _ => hx.2.1 hkij, ih (listed.setIfInBounds j true) b x (fun l ol hl hli hun hno => ?_) (ready_mono hr (Ne.symm e)) hkj hx.1 (hx.2.1 hkij) ?_⟩) h2
      · refine hfree l ol hl hli ?_ hno
        by_cases ejl : j = l
        · subst ejl; exact hjun
        · rw [getD_set_ne true ejl] at hun; exact hun
      · rw [Array.setIfInBounds_comm _ _ e]
        exact hx.2.2

/-- what yields its value whatever the world is -/
theorem K_firstP {i : Nat} {oi : Oper} {v : Value} (hi : ops[i]? = some oi) (hik : i ≠ k) (hsel : ∀ (j : Nat) (o : Oper) cs b, ops[j]? = some o → o.op ≠ .select cs b) (hQ : ∀ c a w, Q (.panic c) (a.put oi.dst v) w → Q (.panic c) a w) :
    ∀ (n : Nat) (listed : Array Bool) (a : Act) (w : World),
      (∀ j oj, ops[j]? = some oj → j ≠ i → listed.getD j true = false → (∀ e ∈ oj.after, Region.binds md e = true → e.on ≠ i) → oi.apart ops oj = true) →
      i ∈ Region.ready md ops listed → YieldsIf P ops (fun _ => True) oi v a → (listed.getD k true = false → S w) →
      wpAnyK P md ops Q S k n (listed.setIfInBounds i true) (a.put oi.dst v) w → wpAnyK P md ops Q S k (n + 1) listed a w := by
  have hset : ∀ (listed : Array Bool) (i : Nat), (listed.setIfInBounds i true).getD k true = false → listed.getD k true = false := fun listed i h => by
    cases hb : listed.getD k true
    · rfl
    · rw [getD_set_true hb] at h; cases h
  intro n
  induction n with
  | zero =>
    intro listed a w _ hr hy hS H
    refine ⟨fun h => (by rw [h] at hr; cases hr), fun j hj => ?_⟩
    by_cases e : j = i
    · subst e; exact hy.wpOp hi trivial ⟨fun h => hS (hset _ _ h), H⟩
    · have := ready_mono hj e
      rw [H.1] at this
      cases this
  | succ n ih =>
    intro listed a w hfree hr hy hS H
    refine ⟨fun h => (by rw [h] at hr; cases hr), fun j hj => ?_⟩
    by_cases e : j = i
    · subst e; exact hy.wpOp hi trivial ⟨fun h => hS (hset _ _ h), H⟩
    · obtain ⟨hjun, oj, hoj, hall⟩ := mem_ready.1 hj
      have hiun := (mem_ready.1 hr).1
      have hilt : i < listed.size := by
        rcases Nat.lt_or_ge i listed.size with h' | h'
        · exact h'
        · simp [Array.getElem?_eq_none h'] at hiun
      have hnot : ∀ e ∈ oj.after, Region.binds md e = true → e.on ≠ i := fun x hx hb heq => by
        have h1 := hall x hx hb
        rw [heq] at h1
        simp [hilt] at hiun h1
        rw [hiun] at h1; cases h1
      have h2 := wpOp_putIf (S := fun _ => True) hoj (hfree j oj hoj e hjun hnot) (fun cs b => hsel i oi cs b hi) (fun cs b => hsel j oj cs b hoj) hQ hy (H.2 j (ready_mono hj e))
      refine wpOp_mono (fun b x hx => ⟨fun hf => ?_, ih (listed.setIfInBounds j true) b x (fun l ol hl hli hun hno => ?_) (ready_mono hr (Ne.symm e)) hx.1 (fun hf => ?_) ?_⟩) h2
      · exact hx.2.1 (by rw [Array.setIfInBounds_comm _ _ (Ne.symm e), getD_set_ne true hik]; exact hf)
      · refine hfree l ol hl hli ?_ hno
        by_cases ejl : j = l
        · subst ejl; exact hjun
        · rw [getD_set_ne true ejl] at hun; exact hun
      · exact hx.2.1 (by rw [Array.setIfInBounds_comm _ _ (Ne.symm e), getD_set_ne true hik]; exact hf)
      · rw [Array.setIfInBounds_comm _ _ e]
        exact hx.2.2

def waitsB (md : Region.Mode) (ops : Array Oper) (k i : Nat) : Bool := ((ops[k]?).map fun o => o.after.any fun e => Region.binds md e && (e.on == i)).getD false
theorem waits_spec {i : Nat} (h : waitsB md ops k i = true) : ∃ ok, ops[k]? = some ok ∧ ∃ e ∈ ok.after, Region.binds md e = true ∧ e.on = i := by
  unfold waitsB at h
  cases ho : ops[k]? with
  | none => rw [ho] at h; simp at h
  | some o =>
    rw [ho] at h
    simp only [Option.map_some, Option.getD_some, Array.any_eq_true] at h
    obtain ⟨j, hj, h7⟩ := h
    rw [Bool.and_eq_true] at h7
    exact ⟨o, rfl, o.after[j], Array.getElem_mem hj, h7.1, by simpa using h7.2⟩

/-- take number i first -/
theorem K_take {i : Nat} {oi : Oper} {v : Value} {n : Nat} {listed : Array Bool} {a : Act} {w : World} (hi : ops[i]? = some oi) (hkw : waitsB md ops k i = true)
    (hs : Region.noSelect ops = true) (hf : Region.free md ops listed i = true) (hr : (Region.ready md ops listed).contains i = true) (hkl : listed.getD k true = false)
    (hQ : ∀ c a w, Q (.panic c) (a.put oi.dst v) w → Q (.panic c) a w) (hy : YieldsIf P ops S oi v a) (hS : S w)
    (h : wpAnyK P md ops Q S k n (listed.setIfInBounds i true) (a.put oi.dst v) w) : wpAnyK P md ops Q S k (n + 1) listed a w := by
  obtain ⟨ok, hok, hw⟩ := waits_spec hkw
  exact K_first hi hok hw (Region.noSelect_spec hs) hQ n listed a w (Region.free_spec hi hf) (by simpa using hr) hkl hy hS h

/-- take number i first, whose value is the same in every world -/
theorem K_pure {i : Nat} {oi : Oper} {v : Value} {n : Nat} {listed : Array Bool} {a : Act} {w : World} (hi : ops[i]? = some oi) (hik : decide (i ≠ k) = true)
    (hs : Region.noSelect ops = true) (hf : Region.free md ops listed i = true) (hr : (Region.ready md ops listed).contains i = true)
    (hQ : ∀ c a w, Q (.panic c) (a.put oi.dst v) w → Q (.panic c) a w) (hy : YieldsIf P ops (fun _ => True) oi v a) (hS : S w)
    (h : wpAnyK P md ops Q S k n (listed.setIfInBounds i true) (a.put oi.dst v) w) : wpAnyK P md ops Q S k (n + 1) listed a w :=
  K_firstP hi (of_decide_eq_true hik) (Region.noSelect_spec hs) hQ n listed a w (Region.free_spec hi hf) (by simpa using hr) hy (fun _ => hS) h

/-- whichever comes up -/
theorem K_all {rs : List Nat} {n : Nat} {listed : Array Bool} {a : Act} {w : World} (hr : Region.ready md ops listed = rs) (hne : rs ≠ [])
    (h : ∀ i ∈ rs, wpOp P ops Q i (fun b v => ((listed.setIfInBounds i true).getD k true = false → S v) ∧ wpAnyK P md ops Q S k n (listed.setIfInBounds i true) b v) a w) : wpAnyK P md ops Q S k (n + 1) listed a w :=
  ⟨fun h0 => absurd (hr ▸ h0) hne, hr ▸ h⟩

/-- operation k has come up: from here on nothing is asked of the world -/
theorem K_past {n : Nat} {listed : Array Bool} {a : Act} {w : World} (hk : listed.getD k true = true) (h : wpAny P md ops Q n listed a w) : (listed.getD k true = false → S w) ∧ wpAnyK P md ops Q S k n listed a w :=
  ⟨fun hf => absurd (hk.symm.trans hf) (by decide), K_of_any n listed a w hk h⟩

theorem region_K (k : Nat) (S : World → Prop) {id : Nat} {a : Act} {w : World} (hm : P.follows .mixedOrders = true)
    (h : wpAnyK P .any ops Q S k ops.size (Array.replicate ops.size false) a w.drew) : (Code.region id ops true).wp P Q a w :=
  wp_region_any hm (any_of_K _ _ _ _ h)
end
end Go.Proofs.Ytmmaimopombepaa