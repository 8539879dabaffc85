/- A region that draws its order, walked by a schedule: operations that look at no memory (0), operations that read beside others that only read (1), operations that nothing else can come before (2). One walk in the schedule's order serves every order. -/
import Derived.WalkKit
import Derived.Orders
import Derived.Shelf.Abstract
import Derived.Test.YtdnjieffbgmagaaDoorRows
namespace Go.Proofs.YtdnjieffbgmagaaDoor
open Go.RowKit

section
variable {P : Program} {ops : Array Oper} {md : Region.Mode} {Q : Exit → Act → World → Prop}

/-- it hands back a value, and the world as it was -/
def StillO (P : Program) (o : Oper) : Prop := ∀ (ρ : Operand → Value) (w w' : World) (n : Next), (execOp ρ o).run P w = .ok n w' → w' = w ∧ ∃ u, n = .value u
def stillK (T : TypeId) (o : Oper) : Bool :=
  match o.op with
  | .move _ => true
  | .assign _ => true
  | .extract _ _ => true
  | .load t _ => t == T
  | .binOp .xor _ _ _ _ => true
  | _ => false
theorem still_xor (a b : Value) (t : TypeId) (w w' : World) (u : Value) (hr : (binOp .xor t a b).run P w = .ok u w') : w' = w := by
  unfold binOp at hr
  cases a <;> cases b <;> simp only [] at hr
  all_goals first
    | (simp [Op.stringOp, unsupported, stuck] at hr; done)
    | (split at hr
       · simp [stuck] at hr
       · first
         | (simp [Op.floatCmp, stuck] at hr; done)
         | (simp [Op.complexOp, stuck] at hr; done)
         | (simp only [Op.intBits, Sem.run_pure] at hr; cases hr; rfl))
theorem still_load {T : TypeId} (hT : ∀ w, (isAgg T).run P w = .ok false w) (addr : Value) (w w' : World) (u : Value) (hr : (Instr.loadAt T addr).run P w = .ok u w') : w' = w := by
  unfold Instr.loadAt at hr
  cases addr with
  | pointer p =>
    cases p with
    | none => simp [Instr.sureAddr] at hr
    | some a =>
      simp only [Instr.sureAddr, loadVar, Sem.run_bind, Sem.run_pure, Result.andThen_ok, hT] at hr
      simp only [Bool.false_eq_true, if_false, run_load] at hr
      split at hr
      · cases hr; rfl
      · split at hr
        · cases hr; rfl
        · cases hr
  | _ => simp [Instr.sureAddr] at hr
theorem stillK_spec {T : TypeId} (hT : ∀ w, (isAgg T).run P w = .ok false w) {o : Oper} (h : stillK T o = true) : StillO P o := by
  intro ρ w w' n hr
  obtain ⟨dst, op, type, pos, after, guard⟩ := o
  unfold stillK at h
  cases op <;> simp only [Bool.false_eq_true] at h
  case move x => simp only [execOp, Sem.run_pure] at hr; cases hr; exact ⟨rfl, _, rfl⟩
  case assign x => simp only [execOp, Sem.run_pure] at hr; cases hr; exact ⟨rfl, _, rfl⟩
  case extract t i =>
    simp only [execOp, Sem.run_bind, Instr.extract] at hr
    split at hr
    · split at hr
      · simp only [Sem.run_pure, Result.andThen_ok] at hr; cases hr; exact ⟨rfl, _, rfl⟩
      · simp at hr
    · simp at hr
  case binOp op t x y r =>
    cases op <;> simp only [Bool.false_eq_true] at h
    simp only [execOp, eqGuard, Sem.run_bind] at hr
    cases hr2 : (binOp .xor t (ρ x) (ρ y)).run P w with
    | ok u w2 =>
      have e := still_xor _ _ _ _ _ _ hr2
      subst e
      simp [hr2] at hr
      obtain ⟨rfl, rfl⟩ := hr
      exact ⟨rfl, _, rfl⟩
    | halt x w2 => simp [hr2] at hr
  case load t x =>
    have e : t = T := by simpa using h
    subst e
    simp only [execOp, Sem.run_bind] at hr
    cases hr2 : (Instr.loadAt t (ρ x)).run P w with
    | ok u w2 =>
      rw [hr2] at hr
      have e := still_load hT _ _ _ _ hr2
      subst e
      simp only [Result.andThen_ok, Sem.run_pure] at hr
      cases hr; exact ⟨rfl, _, rfl⟩
    | halt x w2 => rw [hr2] at hr; simp at hr

def YAt (P : Program) (ops : Array Oper) (o : Oper) (v : Value) (a : Act) (w : World) : Prop :=
  Region.wanted o (yielded ops a.tmps) = true ∧ (execOp a.eval o).run P w = .ok (.value v) w
theorem YAt.wpOp {i : Nat} {o : Oper} {v : Value} {a : Act} {w : World} (hi : ops[i]? = some o) (hy : YAt P ops o v a w) {K : Act → World → Prop} (h : K (a.put o.dst v) w) : wpOp P ops Q i K a w := by
  unfold Go.wpOp
  simp only [hi]
  obtain ⟨hw, hv⟩ := hy
  simp only [hw, if_true, Oper.wp, hv, Oper.upon]; exact .inl h
theorem YAt.of_same {o : Oper} {v : Value} {a a' : Act} {w : World} (hy : YAt P ops o v a w) (he : execOp a'.eval o = execOp a.eval o)
    (hw : Region.wanted o (yielded ops a'.tmps) = Region.wanted o (yielded ops a.tmps)) : YAt P ops o v a' w := by
  unfold YAt at *
  rw [he, hw]
  exact hy
theorem wpOp_put_still {j : Nat} {oi oj : Oper} {v : Value} (hj : ops[j]? = some oj) (hap : oi.apart ops oj = true) (hst : StillO P oj) (hlets : ¬ LetsOut Q)
    (hsi : ∀ cs b, oi.op ≠ .select cs b) (hsj : ∀ cs b, oj.op ≠ .select cs b)
    (hQ : ∀ c a w, ¬ Q (.panic c) a w) {K : Act → World → Prop} {a : Act} {w : World}
    (hy : YAt P ops oi v a w) (h : wpOp P ops Q j K (a.put oi.dst v) w) :
    wpOp P ops Q j (fun a' w' => w' = w ∧ YAt P ops oi v a' w ∧ K (a'.put oi.dst v) w') a w := by
  obtain ⟨h1, h2, h3⟩ := Oper.apart_spec hap
  have keep : ∀ (a : Act), YAt P ops oi v a w → ∀ u, YAt P ops oi v (a.put oj.dst u) w := fun a hy u =>
    hy.of_same (execOp_put oi hsi a oj.dst u h3) (wanted_put oi a oj.dst u h3)
  unfold wpOp at *
  simp only [hj] at *
  rw [wanted_put oj a oi.dst v h1] at h
  split
  · rename_i hw
    simp only [hw, if_true] at h
    rcases h with h | ⟨-, hl⟩
    case inr => exact absurd hl hlets
    refine .inl ?_
    unfold Oper.wp at *
    rw [execOp_put oj hsj a oi.dst v h1] at h
    have hs := hst a.eval w
    generalize (execOp a.eval oj).run P w = r at *
    cases r with
    | ok n w' =>
      obtain ⟨rfl, u, rfl⟩ := hs w' n rfl
      simp only [Oper.upon] at h ⊢
      exact ⟨by trivial, keep a hy u, by rw [← Act.put_comm a v u h2]; exact h⟩
    | halt x w' =>
      cases x <;> simp only [Oper.upon] at h ⊢
      case panic u => exact absurd h (hQ _ _ _)
  · rename_i hw
    simp only [hw] at h
    exact ⟨by trivial, keep a hy _, by rw [← Act.put_comm a v undef h2]; exact h⟩
theorem wpAny_first_still {i : Nat} {oi : Oper} {v : Value} (hi : ops[i]? = some oi) (hsel : ∀ (j : Nat) (o : Oper) cs b, ops[j]? = some o → o.op ≠ .select cs b)
    (hQ : ∀ c a w, ¬ Q (.panic c) a w) (hlets : ¬ LetsOut Q) :
    ∀ (fuel : Nat) (listed : Array Bool) (a : Act) (w : World),
      (∀ j oj, ops[j]? = some oj → j ≠ i → listed.getD j true = false → (∀ e ∈ oj.after, Region.binds md e = true → e.on ≠ i) → oi.apart ops oj = true ∧ StillO P oj) →
      i ∈ Region.ready md ops listed → YAt P ops oi v a w →
      wpAny P md ops Q fuel (listed.setIfInBounds i true) (a.put oi.dst v) w → wpAny P md ops Q (fuel + 1) listed a w := by
  intro fuel
  induction fuel with
  | zero =>
    intro listed a w _ hr hy H
    refine ⟨fun h => (by rw [h] at hr; cases hr), fun j hj => ?_⟩
    by_cases hji : j = i
    · subst hji; exact hy.wpOp hi H
    · have := ready_mono hj hji
      rw [H.1] at this
      cases this
  | succ fuel ih =>
    intro listed a w hfree hr hy H
    refine ⟨fun h => (by rw [h] at hr; cases hr), fun j hj => ?_⟩
    by_cases hji : j = i
    · subst hji; exact hy.wpOp hi H
    · have h1 := H.2 j (ready_mono hj hji)
      obtain ⟨hjun, oj, hoj, hall⟩ := mem_ready.1 hj
      have hnot : ∀ e ∈ oj.after, Region.binds md e = true → e.on ≠ i := fun e he hb heq => by
        have h1 := hall e he hb
        have h0 := (mem_ready.1 hr).1
        rw [heq] at h1
        rcases Nat.lt_or_ge i listed.size with h' | h'
        · simp [h'] at h0 h1; rw [h0] at h1; cases h1
        · simp [Array.getElem?_eq_none h'] at h1
      obtain ⟨hap, hstj⟩ := hfree j oj hoj hji hjun hnot
      have h2 := wpOp_put_still hoj hap hstj hlets (fun cs b => hsel i oi cs b hi) (fun cs b => hsel j oj cs b hoj) hQ hy h1
      have hfree' : ∀ k ok, ops[k]? = some ok → k ≠ i → (listed.setIfInBounds j true).getD k true = false →
          (∀ e ∈ ok.after, Region.binds md e = true → e.on ≠ i) → oi.apart ops ok = true ∧ StillO P ok := fun k ok hk hki hun hno => by
        refine hfree k ok hk hki ?_ hno
        by_cases hjk : j = k
        · subst hjk; exact hjun
        · rw [getD_set_ne true hjk] at hun; exact hun
      refine wpOp_mono (fun a' w' h3 => ?_) h2
      obtain ⟨rfl, hy', hK⟩ := h3
      refine ih (listed.setIfInBounds j true) a' _ hfree' (ready_mono hr (Ne.symm hji)) hy' ?_
      rw [Array.setIfInBounds_comm _ _ hji]
      exact hK

def stillFree (md : Region.Mode) (T : TypeId) (ops : Array Oper) (listed : Array Bool) (i : Nat) : Bool :=
  (List.range ops.size).all fun j => j == i || listed.getD j true || match ops[j]? with
    | some oj => oj.after.any (fun e => Region.binds md e && e.on == i) || stillK T oj
    | none => true
theorem stillFree_spec {T : TypeId} (hT : ∀ w, (isAgg T).run P w = .ok false w) {listed : Array Bool} {i : Nat} (h : stillFree md T ops listed i = true) (j : Nat) (oj : Oper)
    (hj : ops[j]? = some oj) (hne : j ≠ i) (hun : listed.getD j true = false) (hno : ∀ e ∈ oj.after, Region.binds md e = true → e.on ≠ i) : StillO P oj := by
  simp only [stillFree, List.all_eq_true, List.mem_range] at h
  have h1 := h j (Array.getElem?_eq_some_iff.1 hj).1
  simp only [hj, Bool.or_eq_true, beq_iff_eq, hne, false_or, hun, Bool.false_eq_true] at h1
  rcases h1 with h1 | h1
  · obtain ⟨e, he, hb⟩ := Array.any_eq_true'.1 h1
    simp only [Bool.and_eq_true, beq_iff_eq] at hb
    exact absurd hb.2 (hno e he hb.1)
  · exact stillK_spec hT h1

/-- the schedule may be followed -/
def schB (md : Region.Mode) (T : TypeId) (ops : Array Oper) : List (Nat × Nat) → Array Bool → Bool
  | [], listed => (Region.ready md ops listed).isEmpty
  | (i, k) :: r, listed => (Region.ready md ops listed).contains i && (match k with
      | 0 => Region.free md ops listed i
      | 1 => Region.free md ops listed i && stillFree md T ops listed i
      | _ => Region.ready md ops listed == [i]) && schB md T ops r (listed.setIfInBounds i true)
def schStep (P : Program) (Q : Exit → Act → World → Prop) (o : Oper) (k : Nat) (a : Act) (w : World) (K : Act → World → Prop) : Prop :=
  match k with
  | 0 => ∃ v, (∀ w', (execOp a.eval o).run P w' = .ok (.value v) w') ∧ K (a.put o.dst v) w
  | 1 => ∃ v, (execOp a.eval o).run P w = .ok (.value v) w ∧ K (a.put o.dst v) w
  | _ => o.wp P a w K Q
/-- the walk by the schedule -/
def wpS (P : Program) (Q : Exit → Act → World → Prop) : List (Oper × Nat) → Act → World → Prop
  | [], a, w => Q .normal a w
  | (o, k) :: r, a, w => schStep P Q o k a w (wpS P Q r)
theorem wpS_step {o : Oper} {k : Nat} {r : List (Oper × Nat)} {a : Act} {w : World} (h : ∀ K : Act → World → Prop, (∀ a w, wpS P Q r a w → K a w) → schStep P Q o k a w K) : wpS P Q ((o, k) :: r) a w := h _ fun _ _ h => h
def pickS (o0 : Oper) (L : List Oper) (s : List (Nat × Nat)) : List (Oper × Nat) := s.map fun p => (L.getD p.1 o0, p.2)
theorem wpAny_sch {L : List Oper} {o0 : Oper} {T : TypeId} (hT : ∀ w, (isAgg T).run P w = .ok false w) (hs : Region.noSelect L.toArray = true) (hg : (L.all fun o => o.guard.isNone) = true) (hQ : ∀ c a w, ¬ Q (.panic c) a w) (hlets : ¬ LetsOut Q) :
    ∀ (s : List (Nat × Nat)) (listed : Array Bool) (a : Act) (w : World), schB md T L.toArray s listed = true → wpS P Q (pickS o0 L s) a w → wpAny P md L.toArray Q s.length listed a w
  | [], listed, a, w, hB, h => ⟨by simpa [schB] using hB, h⟩
  | (i, k) :: r, listed, a, w, hB, h => by
    simp only [schB, Bool.and_eq_true] at hB
    obtain ⟨⟨hr, hk⟩, hB'⟩ := hB
    have hr' : i ∈ Region.ready md L.toArray listed := by simpa using hr
    obtain ⟨-, oi, hoi, -⟩ := mem_ready.1 hr'
    have hget : L.getD i o0 = oi := by
      have : L[i]? = some oi := by simpa using hoi
      simp [List.getD, this]
    have hwant : ∀ a' : Act, Region.wanted oi (yielded L.toArray a'.tmps) = true := by
      intro a'
      have hm : oi ∈ L := List.mem_of_getElem? (by simpa using hoi)
      have := List.all_eq_true.1 hg oi hm
      unfold Region.wanted
      cases hgd : oi.guard with
      | none => rfl
      | some g => rw [hgd] at this; cases this
    have h' : schStep P Q oi k a w (wpS P Q (pickS o0 L r)) := by rw [← hget]; exact h
    have next := fun a' w' (hh : wpS P Q (pickS o0 L r) a' w') => wpAny_sch hT hs hg hQ hlets r (listed.setIfInBounds i true) a' w' hB' hh
    rcases k with _ | _ | k
    · obtain ⟨v, hv, hK⟩ := h'
      exact wpAny_take hoi hs hk hr (fun c a w h => absurd h (hQ _ _ _)) (.inl ⟨hwant a, hv⟩) (next _ _ hK)
    · obtain ⟨v, hv, hK⟩ := h'
      simp only [Bool.and_eq_true] at hk
      exact wpAny_first_still hoi (Region.noSelect_spec hs) hQ hlets r.length listed a w (fun j oj hj hne hun hno => ⟨Region.free_spec hoi hk.1 j oj hj hne hun hno, stillFree_spec hT hk.2 j oj hj hne hun hno⟩) hr' ⟨hwant a, hv⟩ (next _ _ hK)
    · have hk' : Region.ready md L.toArray listed = [i] := by simpa using hk
      refine ⟨fun h0 => (by rw [h0] at hr'; cases hr'), fun j hj => ?_⟩
      rw [hk'] at hj
      obtain rfl : j = i := by simpa using hj
      unfold wpOp
      simp only [hoi, hwant a, if_true]
      exact .inl (Oper.wp_mono next h')
theorem Oper.wp_post {Q' : Exit → Act → World → Prop} {o : Oper} {a : Act} {w : World} {K : Act → World → Prop} (h : ∀ e a w, Q e a w → Q' e a w) (hh : o.wp P a w K Q) : o.wp P a w K Q' := by
  unfold Oper.wp at *
  generalize (execOp a.eval o).run P w = r at *
  have hl : LetsOut Q → LetsOut Q' := fun ⟨a, w, q⟩ => ⟨a, w, h _ _ _ q⟩
  cases r with
  | ok n w' =>
    cases n <;> simp only [Oper.upon] at hh ⊢ <;>
      first
        | exact hh
        | exact Calls.mono hh (fun e w'' he => by cases e <;> first | exact h _ _ _ he | exact hl he | exact he)
  | halt x w' => cases x <;> simp only [Oper.upon] at hh ⊢ <;> first | exact h _ _ _ hh | exact hh
theorem wpAny_post {Q' : Exit → Act → World → Prop} (h : ∀ e a w, Q e a w → Q' e a w) : ∀ (fuel : Nat) (listed : Array Bool) (a : Act) (w : World), wpAny P md ops Q fuel listed a w → wpAny P md ops Q' fuel listed a w
  | 0, _, _, _, hh => ⟨hh.1, h _ _ _ hh.2⟩
  | fuel + 1, listed, a, w, hh => ⟨fun h0 => h _ _ _ (hh.1 h0), fun i hi => by
      have h2 := wpOp_mono (fun a' w' => wpAny_post h fuel (listed.setIfInBounds i true) a' w') (hh.2 i hi)
      unfold wpOp at h2 ⊢
      split
      · rename_i ho; simp only [ho] at h2; exact h2
      · rename_i o ho
        simp only [ho] at h2
        split
        · rename_i hw; simp only [hw, if_true] at h2; exact h2.imp (Oper.wp_post h) fun ⟨ha, a, w, q⟩ => ⟨ha, a, w, h _ _ _ q⟩
        · rename_i hw; simp only [hw] at h2; exact h2⟩
/-- the law -/
theorem wp_region_sch {id : Nat} {Q' : Exit → Act → World → Prop} {a : Act} {w : World} {L : List Oper} (T : TypeId) (s : List (Nat × Nat)) (o0 : Oper) (hm : P.follows .mixedOrders = true) (hT : ∀ w, (isAgg T).run P w = .ok false w)
    (hs : Region.noSelect L.toArray = true) (hg : (L.all fun o => o.guard.isNone) = true) (hlen : s.length = L.length) (hB : schB .any T L.toArray s (Array.replicate L.length false) = true)
    (h : wpS P (fun e a w => e = .normal ∧ Q' .normal a w) (pickS o0 L s) a w.drew) : (Code.region id L.toArray true).wp P Q' a w := by
  refine wp_region_any hm (wpAny_post (Q := fun e a w => e = .normal ∧ Q' .normal a w) (fun e a w ⟨he, q⟩ => by subst he; exact q) _ _ _ _ ?_)
  have := wpAny_sch (md := .any) (Q := fun e a w => e = .normal ∧ Q' .normal a w) hT hs hg (fun c a w q => by cases q.1) (fun ⟨a, w, q⟩ => by cases q.1) s (Array.replicate L.length false) a w.drew hB h
  rw [hlen] at this
  simpa using this
theorem Oper.wp_post2 {Q' : Exit → Act → World → Prop} {o : Oper} {a : Act} {w : World} {K : Act → World → Prop} (h : ∀ e a w, e ≠ .normal → ¬ Q e a w) (hh : o.wp P a w K Q) : o.wp P a w K Q' := by
  unfold Oper.wp at *
  generalize (execOp a.eval o).run P w = r at *
  have hl : ¬ LetsOut Q := fun ⟨a, w, q⟩ => h _ a w (fun e => by cases e) q
  cases r with
  | ok n w' =>
    cases n <;> simp only [Oper.upon] at hh ⊢ <;>
      first
        | exact hh
        | exact Calls.mono hh (fun e w'' he => by cases e <;> first | exact absurd he (h _ _ _ (fun e => by cases e)) | exact absurd he hl | exact he)
  | halt x w' => cases x <;> simp only [Oper.upon] at hh ⊢ <;> first | exact absurd hh (h _ _ _ (fun e => by cases e)) | exact hh
/-- one operation that nothing else can come before, by a law of a plain region's list -/
theorem wpS_one {o : Oper} {r : List (Oper × Nat)} {a : Act} {w : World} (ops' : Array Oper) (hg : o.guard = none) (h : wpList P ops' (fun e a w => e = .normal ∧ wpS P Q r a w) [o] a w) : wpS P Q ((o, 2) :: r) a w := by
  have hl : ¬ LetsOut (fun e a w => e = Exit.normal ∧ wpS P Q r a w) := fun ⟨a, w, q⟩ => by cases q.1
  unfold wpList at h
  rw [if_pos (by simp [Region.wanted, hg])] at h
  rcases h with h | ⟨-, h⟩
  · exact Oper.wp_post2 (Q := fun e a w => e = Exit.normal ∧ wpS P Q r a w) (fun e a w hne q => hne q.1) (Oper.wp_mono (fun a w q => q.2) h)
  · exact absurd h hl
end
end Go.Proofs.YtdnjieffbgmagaaDoor
