/- The texts Qs, Lnum, Lrow, Lclamp, one behind the other. -/
import Derived.WalkKit
import Derived.Orders
import Derived.Shelf.Abstract
import Derived.Test.YthjlhcmdpeinpaaGreatDoorRows
import Derived.Test.YthjlhcmdpeinpaaGreatDoorGg7
import Derived.Test.YthjlhcmdpeinpaaGreatDoorGg8
import Derived.Test.YthjlhcmdpeinpaaGreatDoorGg1
import Derived.Lib.ConvBytes
/- A region that draws its order, walked by a schedule: operations that look at no memory (0), operations that read beside others that only read (1), operations that nothing else can come before (2). One walk in the schedule's order serves every order. -/
namespace Go.Proofs.YthjlhcmdpeinpaaGreatDoor
open Go.RowKit
section
variable {P : Program} {ops : Array Oper} {md : Region.Mode} {Q : Exit → Act → World → Prop}
/-- it hands back a value, and the world as it was -/
def StillO (P : Program) (o : Oper) : Prop := ∀ (ρ : Operand → Value) (w w' : World) (n : Next), (execOp ρ o).run P w = .ok n w' → w' = w ∧ ∃ u, n = .value u
def stillK (T : TypeId) (o : Oper) : Bool :=
  match o.op with
  | .move _ => true
  | .assign _ => true
  | .extract _ _ => true
  | .load t _ => t == T
  | .binOp .xor _ _ _ _ => true
  | _ => false
theorem still_xor (a b : Value) (t : TypeId) (w w' : World) (u : Value) (hr : (binOp .xor t a b).run P w = .ok u w') : w' = w := by
  unfold binOp at hr
  cases a <;> cases b <;> simp only [] at hr
  all_goals first
    | (simp [Op.stringOp, unsupported, stuck] at hr; done)
    | (split at hr
       · simp [stuck] at hr
       · first
         | (simp [Op.floatCmp, stuck] at hr; done)
         | (simp [Op.complexOp, stuck] at hr; done)
         | (simp only [Op.intBits, Sem.run_pure] at hr; cases hr; rfl))
theorem still_load {T : TypeId} (hT : ∀ w, (isAgg T).run P w = .ok false w) (addr : Value) (w w' : World) (u : Value) (hr : (Instr.loadAt T addr).run P w = .ok u w') : w' = w := by
  unfold Instr.loadAt at hr
  cases addr with
  | pointer p =>
    cases p with
    | none => simp [Instr.sureAddr] at hr
    | some a =>
      simp only [Instr.sureAddr, loadVar, Sem.run_bind, Sem.run_pure, Result.andThen_ok, hT] at hr
      simp only [Bool.false_eq_true, if_false, run_load] at hr
      split at hr
      · cases hr; rfl
      · split at hr
        · cases hr; rfl
        · cases hr
  | _ => simp [Instr.sureAddr] at hr
theorem stillK_spec {T : TypeId} (hT : ∀ w, (isAgg T).run P w = .ok false w) {o : Oper} (h : stillK T o = true) : StillO P o := by
  intro ρ w w' n hr
  obtain ⟨dst, op, type, pos, after, guard⟩ := o
  unfold stillK at h
  cases op <;> simp only [Bool.false_eq_true] at h
  case move x => simp only [execOp, Sem.run_pure] at hr; cases hr; exact ⟨rfl, _, rfl⟩
  case assign x => simp only [execOp, Sem.run_pure] at hr; cases hr; exact ⟨rfl, _, rfl⟩
  case extract t i =>
    simp only [execOp, Sem.run_bind, Instr.extract] at hr
    split at hr
    · split at hr
      · simp only [Sem.run_pure, Result.andThen_ok] at hr; cases hr; exact ⟨rfl, _, rfl⟩
      · simp at hr
    · simp at hr
  case binOp op t x y r =>
    cases op <;> simp only [Bool.false_eq_true] at h
    simp only [execOp, eqGuard, Sem.run_bind] at hr
    cases hr2 : (binOp .xor t (ρ x) (ρ y)).run P w with
    | ok u w2 =>
      have e := still_xor _ _ _ _ _ _ hr2
      subst e
      simp [hr2] at hr
      obtain ⟨rfl, rfl⟩ := hr
      exact ⟨rfl, _, rfl⟩
    | halt x w2 => simp [hr2] at hr
  case load t x =>
    have e : t = T := by simpa using h
    subst e
    simp only [execOp, Sem.run_bind] at hr
    cases hr2 : (Instr.loadAt t (ρ x)).run P w with
    | ok u w2 =>
      rw [hr2] at hr
      have e := still_load hT _ _ _ _ hr2
      subst e
      simp only [Result.andThen_ok, Sem.run_pure] at hr
      cases hr; exact ⟨rfl, _, rfl⟩
    | halt x w2 => rw [hr2] at hr; simp at hr

def YAt (P : Program) (ops : Array Oper) (o : Oper) (v : Value) (a : Act) (w : World) : Prop :=
  Region.wanted o (yielded ops a.tmps) = true ∧ (execOp a.eval o).run P w = .ok (.value v) w
theorem YAt.wpOp {i : Nat} {o : Oper} {v : Value} {a : Act} {w : World} (hi : ops[i]? = some o) (hy : YAt P ops o v a w) {K : Act → World → Prop} (h : K (a.put o.dst v) w) : wpOp P ops Q i K a w := by
  unfold Go.wpOp
  simp only [hi]
  obtain ⟨hw, hv⟩ := hy
  simp only [hw, if_true, Oper.wp, hv, Oper.upon]; exact .inl h
theorem YAt.of_same {o : Oper} {v : Value} {a a' : Act} {w : World} (hy : YAt P ops o v a w) (he : execOp a'.eval o = execOp a.eval o)
    (hw : Region.wanted o (yielded ops a'.tmps) = Region.wanted o (yielded ops a.tmps)) : YAt P ops o v a' w := by
  unfold YAt at *
  rw [he, hw]
  exact hy
theorem wpOp_put_still {j : Nat} {oi oj : Oper} {v : Value} (hj : ops[j]? = some oj) (hap : oi.apart ops oj = true) (hst : StillO P oj) (hlets : ¬ LetsOut Q)
    (hsi : ∀ cs b, oi.op ≠ .select cs b) (hsj : ∀ cs b, oj.op ≠ .select cs b)
    (hQ : ∀ c a w, ¬ Q (.panic c) a w) {K : Act → World → Prop} {a : Act} {w : World}
    (hy : YAt P ops oi v a w) (h : wpOp P ops Q j K (a.put oi.dst v) w) :
    wpOp P ops Q j (fun a' w' => w' = w ∧ YAt P ops oi v a' w ∧ K (a'.put oi.dst v) w') a w := by
  obtain ⟨h1, h2, h3⟩ := Oper.apart_spec hap
  have keep : ∀ (a : Act), YAt P ops oi v a w → ∀ u, YAt P ops oi v (a.put oj.dst u) w := fun a hy u =>
    hy.of_same (execOp_put oi hsi a oj.dst u h3) (wanted_put oi a oj.dst u h3)
  unfold wpOp at *
  simp only [hj] at *
  rw [wanted_put oj a oi.dst v h1] at h
  split
  · rename_i hw
    simp only [hw, if_true] at h
    rcases h with h | ⟨-, hl⟩
    case inr => exact absurd hl hlets
    refine .inl ?_
    unfold Oper.wp at *
    rw [execOp_put oj hsj a oi.dst v h1] at h
    have hs := hst a.eval w
    generalize (execOp a.eval oj).run P w = r at *
    cases r with
    | ok n w' =>
      obtain ⟨rfl, u, rfl⟩ := hs w' n rfl
      simp only [Oper.upon] at h ⊢
      exact ⟨by trivial, keep a hy u, by rw [← Act.put_comm a v u h2]; exact h⟩
    | halt x w' =>
      cases x <;> simp only [Oper.upon] at h ⊢
      case panic u => exact absurd h (hQ _ _ _)
  · rename_i hw
    simp only [hw] at h
    exact ⟨by trivial, keep a hy _, by rw [← Act.put_comm a v undef h2]; exact h⟩
theorem wpAny_first_still {i : Nat} {oi : Oper} {v : Value} (hi : ops[i]? = some oi) (hsel : ∀ (j : Nat) (o : Oper) cs b, ops[j]? = some o → o.op ≠ .select cs b)
    (hQ : ∀ c a w, ¬ Q (.panic c) a w) (hlets : ¬ LetsOut Q) :
    ∀ (fuel : Nat) (listed : Array Bool) (a : Act) (w : World),
      (∀ j oj, ops[j]? = some oj → j ≠ i → listed.getD j true = false → (∀ e ∈ oj.after, Region.binds md e = true → e.on ≠ i) → oi.apart ops oj = true ∧ StillO P oj) →
      i ∈ Region.ready md ops listed → YAt P ops oi v a w →
      wpAny P md ops Q fuel (listed.setIfInBounds i true) (a.put oi.dst v) w → wpAny P md ops Q (fuel + 1) listed a w := by
  intro fuel
  induction fuel with
  | zero =>
    intro listed a w _ hr hy H
    refine ⟨fun h => (by rw [h] at hr; cases hr), fun j hj => ?_⟩
    by_cases hji : j = i
    · subst hji; exact hy.wpOp hi H
    · have := ready_mono hj hji
      rw [H.1] at this
      cases this
  | succ fuel ih =>
    intro listed a w hfree hr hy H
    refine ⟨fun h => (by rw [h] at hr; cases hr), fun j hj => ?_⟩
    by_cases hji : j = i
    · subst hji; exact hy.wpOp hi H
    · have h1 := H.2 j (ready_mono hj hji)
      obtain ⟨hjun, oj, hoj, hall⟩ := mem_ready.1 hj
      have hnot : ∀ e ∈ oj.after, Region.binds md e = true → e.on ≠ i := fun e he hb heq => by
        have h1 := hall e he hb
        have h0 := (mem_ready.1 hr).1
        rw [heq] at h1
        rcases Nat.lt_or_ge i listed.size with h' | h'
        · simp [h'] at h0 h1; rw [h0] at h1; cases h1
        · simp [Array.getElem?_eq_none h'] at h1
      obtain ⟨hap, hstj⟩ := hfree j oj hoj hji hjun hnot
      have h2 := wpOp_put_still hoj hap hstj hlets (fun cs b => hsel i oi cs b hi) (fun cs b => hsel j oj cs b hoj) hQ hy h1
      have hfree' : ∀ k ok, ops[k]? = some ok → k ≠ i → (listed.setIfInBounds j true).getD k true = false →
          (∀ e ∈ ok.after, Region.binds md e = true → e.on ≠ i) → oi.apart ops ok = true ∧ StillO P ok := fun k ok hk hki hun hno => by
        refine hfree k ok hk hki ?_ hno
        by_cases hjk : j = k
        · subst hjk; exact hjun
        · rw [getD_set_ne true hjk] at hun; exact hun
      refine wpOp_mono (fun a' w' h3 => ?_) h2
      obtain ⟨rfl, hy', hK⟩ := h3
      refine ih (listed.setIfInBounds j true) a' _ hfree' (ready_mono hr (Ne.symm hji)) hy' ?_
      rw [Array.setIfInBounds_comm _ _ hji]
      exact hK

def stillFree (md : Region.Mode) (T : TypeId) (ops : Array Oper) (listed : Array Bool) (i : Nat) : Bool :=
  (List.range ops.size).all fun j => j == i || listed.getD j true || match ops[j]? with
    | some oj => oj.after.any (fun e => Region.binds md e && e.on == i) || stillK T oj
    | none => true
theorem stillFree_spec {T : TypeId} (hT : ∀ w, (isAgg T).run P w = .ok false w) {listed : Array Bool} {i : Nat} (h : stillFree md T ops listed i = true) (j : Nat) (oj : Oper)
    (hj : ops[j]? = some oj) (hne : j ≠ i) (hun : listed.getD j true = false) (hno : ∀ e ∈ oj.after, Region.binds md e = true → e.on ≠ i) : StillO P oj := by
  simp only [stillFree, List.all_eq_true, List.mem_range] at h
  have h1 := h j (Array.getElem?_eq_some_iff.1 hj).1
  simp only [hj, Bool.or_eq_true, beq_iff_eq, hne, false_or, hun, Bool.false_eq_true] at h1
  rcases h1 with h1 | h1
  · obtain ⟨e, he, hb⟩ := Array.any_eq_true'.1 h1
    simp only [Bool.and_eq_true, beq_iff_eq] at hb
    exact absurd hb.2 (hno e he hb.1)
  · exact stillK_spec hT h1

/-- the schedule may be followed -/
def schB (md : Region.Mode) (T : TypeId) (ops : Array Oper) : List (Nat × Nat) → Array Bool → Bool
  | [], listed => (Region.ready md ops listed).isEmpty
  | (i, k) :: r, listed => (Region.ready md ops listed).contains i && (match k with
      | 0 => Region.free md ops listed i
      | 1 => Region.free md ops listed i && stillFree md T ops listed i
      | _ => Region.ready md ops listed == [i]) && schB md T ops r (listed.setIfInBounds i true)
def schStep (P : Program) (Q : Exit → Act → World → Prop) (o : Oper) (k : Nat) (a : Act) (w : World) (K : Act → World → Prop) : Prop :=
  match k with
  | 0 => ∃ v, (∀ w', (execOp a.eval o).run P w' = .ok (.value v) w') ∧ K (a.put o.dst v) w
  | 1 => ∃ v, (execOp a.eval o).run P w = .ok (.value v) w ∧ K (a.put o.dst v) w
  | _ => o.wp P a w K Q
/-- the walk by the schedule -/
def wpS (P : Program) (Q : Exit → Act → World → Prop) : List (Oper × Nat) → Act → World → Prop
  | [], a, w => Q .normal a w
  | (o, k) :: r, a, w => schStep P Q o k a w (wpS P Q r)
theorem wpS_step {o : Oper} {k : Nat} {r : List (Oper × Nat)} {a : Act} {w : World} (h : ∀ K : Act → World → Prop, (∀ a w, wpS P Q r a w → K a w) → schStep P Q o k a w K) : wpS P Q ((o, k) :: r) a w := h _ fun _ _ h => h
def pickS (o0 : Oper) (L : List Oper) (s : List (Nat × Nat)) : List (Oper × Nat) := s.map fun p => (L.getD p.1 o0, p.2)
theorem wpAny_sch {L : List Oper} {o0 : Oper} {T : TypeId} (hT : ∀ w, (isAgg T).run P w = .ok false w) (hs : Region.noSelect L.toArray = true) (hg : (L.all fun o => o.guard.isNone) = true) (hQ : ∀ c a w, ¬ Q (.panic c) a w) (hlets : ¬ LetsOut Q) :
    ∀ (s : List (Nat × Nat)) (listed : Array Bool) (a : Act) (w : World), schB md T L.toArray s listed = true → wpS P Q (pickS o0 L s) a w → wpAny P md L.toArray Q s.length listed a w
  | [], listed, a, w, hB, h => ⟨by simpa [schB] using hB, h⟩
  | (i, k) :: r, listed, a, w, hB, h => by
    simp only [schB, Bool.and_eq_true] at hB
    obtain ⟨⟨hr, hk⟩, hB'⟩ := hB
    have hr' : i ∈ Region.ready md L.toArray listed := by simpa using hr
    obtain ⟨-, oi, hoi, -⟩ := mem_ready.1 hr'
    have hget : L.getD i o0 = oi := by
      have : L[i]? = some oi := by simpa using hoi
      simp [List.getD, this]
    have hwant : ∀ a' : Act, Region.wanted oi (yielded L.toArray a'.tmps) = true := by
      intro a'
      have hm : oi ∈ L := List.mem_of_getElem? (by simpa using hoi)
      have := List.all_eq_true.1 hg oi hm
      unfold Region.wanted
      cases hgd : oi.guard with
      | none => rfl
      | some g => rw [hgd] at this; cases this
    have h' : schStep P Q oi k a w (wpS P Q (pickS o0 L r)) := by rw [← hget]; exact h
    have next := fun a' w' (hh : wpS P Q (pickS o0 L r) a' w') => wpAny_sch hT hs hg hQ hlets r (listed.setIfInBounds i true) a' w' hB' hh
    rcases k with _ | _ | k
    · obtain ⟨v, hv, hK⟩ := h'
      exact wpAny_take hoi hs hk hr (fun c a w h => absurd h (hQ _ _ _)) (.inl ⟨hwant a, hv⟩) (next _ _ hK)
    · obtain ⟨v, hv, hK⟩ := h'
      simp only [Bool.and_eq_true] at hk
      exact wpAny_first_still hoi (Region.noSelect_spec hs) hQ hlets r.length listed a w (fun j oj hj hne hun hno => ⟨Region.free_spec hoi hk.1 j oj hj hne hun hno, stillFree_spec hT hk.2 j oj hj hne hun hno⟩) hr' ⟨hwant a, hv⟩ (next _ _ hK)
    · have hk' : Region.ready md L.toArray listed = [i] := by simpa using hk
      refine ⟨fun h0 => (by rw [h0] at hr'; cases hr'), fun j hj => ?_⟩
      rw [hk'] at hj
      obtain rfl : j = i := by simpa using hj
      unfold wpOp
      simp only [hoi, hwant a, if_true]
      exact .inl (Oper.wp_mono next h')
theorem Oper.wp_post {Q' : Exit → Act → World → Prop} {o : Oper} {a : Act} {w : World} {K : Act → World → Prop} (h : ∀ e a w, Q e a w → Q' e a w) (hh : o.wp P a w K Q) : o.wp P a w K Q' := by
  unfold Oper.wp at *
  generalize (execOp a.eval o).run P w = r at *
  have hl : LetsOut Q → LetsOut Q' := fun ⟨a, w, q⟩ => ⟨a, w, h _ _ _ q⟩
  cases r with
  | ok n w' =>
    cases n <;> simp only [Oper.upon] at hh ⊢ <;>
      first
        | exact hh
        | exact Calls.mono hh (fun e w'' he => by cases e <;> first | exact h _ _ _ he | exact hl he | exact he)
  | halt x w' => cases x <;> simp only [Oper.upon] at hh ⊢ <;> first | exact h _ _ _ hh | exact hh
theorem wpAny_post {Q' : Exit → Act → World → Prop} (h : ∀ e a w, Q e a w → Q' e a w) : ∀ (fuel : Nat) (listed : Array Bool) (a : Act) (w : World), wpAny P md ops Q fuel listed a w → wpAny P md ops Q' fuel listed a w
  | 0, _, _, _, hh => ⟨hh.1, h _ _ _ hh.2⟩
  | fuel + 1, listed, a, w, hh => ⟨fun h0 => h _ _ _ (hh.1 h0), fun i hi => by
      have h2 := wpOp_mono (fun a' w' => wpAny_post h fuel (listed.setIfInBounds i true) a' w') (hh.2 i hi)
      unfold wpOp at h2 ⊢
      split
      · rename_i ho; simp only [ho] at h2; exact h2
      · rename_i o ho
        simp only [ho] at h2
        split
        · rename_i hw; simp only [hw, if_true] at h2; exact h2.imp (Oper.wp_post h) fun ⟨ha, a, w, q⟩ => ⟨ha, a, w, h _ _ _ q⟩
        · rename_i hw; simp only [hw] at h2; exact h2⟩
/-- the law -/
theorem wp_region_sch {id : Nat} {Q' : Exit → Act → World → Prop} {a : Act} {w : World} {L : List Oper} (T : TypeId) (s : List (Nat × Nat)) (o0 : Oper) (hm : P.follows .mixedOrders = true) (hT : ∀ w, (isAgg T).run P w = .ok false w)
    (hs : Region.noSelect L.toArray = true) (hg : (L.all fun o => o.guard.isNone) = true) (hlen : s.length = L.length) (hB : schB .any T L.toArray s (Array.replicate L.length false) = true)
    (h : wpS P (fun e a w => e = .normal ∧ Q' .normal a w) (pickS o0 L s) a w.drew) : (Code.region id L.toArray true).wp P Q' a w := by
  refine wp_region_any hm (wpAny_post (Q := fun e a w => e = .normal ∧ Q' .normal a w) (fun e a w ⟨he, q⟩ => by subst he; exact q) _ _ _ _ ?_)
  have := wpAny_sch (md := .any) (Q := fun e a w => e = .normal ∧ Q' .normal a w) hT hs hg (fun c a w q => by cases q.1) (fun ⟨a, w, q⟩ => by cases q.1) s (Array.replicate L.length false) a w.drew hB h
  rw [hlen] at this
  simpa using this
theorem Oper.wp_post2 {Q' : Exit → Act → World → Prop} {o : Oper} {a : Act} {w : World} {K : Act → World → Prop} (h : ∀ e a w, e ≠ .normal → ¬ Q e a w) (hh : o.wp P a w K Q) : o.wp P a w K Q' := by
  unfold Oper.wp at *
  generalize (execOp a.eval o).run P w = r at *
  have hl : ¬ LetsOut Q := fun ⟨a, w, q⟩ => h _ a w (fun e => by cases e) q
  cases r with
  | ok n w' =>
    cases n <;> simp only [Oper.upon] at hh ⊢ <;>
      first
        | exact hh
        | exact Calls.mono hh (fun e w'' he => by cases e <;> first | exact absurd he (h _ _ _ (fun e => by cases e)) | exact absurd he hl | exact he)
  | halt x w' => cases x <;> simp only [Oper.upon] at hh ⊢ <;> first | exact absurd hh (h _ _ _ (fun e => by cases e)) | exact hh
/-- one operation that nothing else can come before, by a law of a plain region's list -/
theorem wpS_one {o : Oper} {r : List (Oper × Nat)} {a : Act} {w : World} (ops' : Array Oper) (hg : o.guard = none) (h : wpList P ops' (fun e a w => e = .normal ∧ wpS P Q r a w) [o] a w) : wpS P Q ((o, 2) :: r) a w := by
  have hl : ¬ LetsOut (fun e a w => e = Exit.normal ∧ wpS P Q r a w) := fun ⟨a, w, q⟩ => by cases q.1
  unfold wpList at h
  rw [if_pos (by simp [Region.wanted, hg])] at h
  rcases h with h | ⟨-, h⟩
  · exact Oper.wp_post2 (Q := fun e a w => e = Exit.normal ∧ wpS P Q r a w) (fun e a w hne q => hne q.1) (Oper.wp_mono (fun a w q => q.2) h)
  · exact absurd h hl
end
end Go.Proofs.YthjlhcmdpeinpaaGreatDoor

/- The ladder's numbers: texts that tell numbers below the prime; what its methods tell of them. -/
namespace Go.Proofs.YthjlhcmdpeinpaaGreatDoor
set_option maxRecDepth 100000
open Go.RowKit Go.Sort
/-- a number that is left -/
def Rd (x : Int) : Prop := 0 ≤ x ∧ x < Pr
theorem Rd.mod (x : Int) : Rd (x % Pr) := ⟨Int.emod_nonneg _ (by have := pr_pos; omega), Int.emod_lt_of_pos _ pr_pos⟩
theorem Rd.num {x : Int} (h : Rd x) : leNum (leStr x) = x := by
  obtain ⟨h0, h1⟩ := h
  refine leNum_leStr x h0 ?_
  unfold Pr at h1
  unfold W256
  omega
/-- a call that hands back a text, and leaves what was there -/
def Tells (x : Int) (w : World) (e : Ending) (w' : World) : Prop := e = .returned (.string (leStr x)) ∧ Below w.heap.size w w'

set_option maxHeartbeats 1000000 in
theorem lplus {x y : Int} (hx : Rd x) (hy : Rd y) (w : World) (hP : PrimeAt w) :
    Calls Tryz.prog 161 #[.string (leStr x), .string (leStr y)] w (Tells ((x + y) % Pr) w) := by
  have H := add_good _ _ (leStr_size x) (leStr_size y) w hP
  rw [hx.num, hy.num] at H
  have HH := Lib.hid H
  clear H
  go_enter Tryz.func161, Tryz.ntmps161
  go_wp2_with fail
  refine HH.out.mono ?_
  rintro e w1 ⟨rfl, hb1⟩
  go_wp2_with fail
  go_ret
  exact ⟨rfl, hb1⟩
set_option maxHeartbeats 1000000 in
theorem lminus {x y : Int} (hx : Rd x) (hy : Rd y) (w : World) (hP : PrimeAt w) :
    Calls Tryz.prog 162 #[.string (leStr x), .string (leStr y)] w (Tells ((x - y) % Pr) w) := by
  have H := sub_good _ _ (leStr_size x) (leStr_size y) w hP
  rw [hx.num, hy.num] at H
  have HH := Lib.hid H
  clear H
  go_enter Tryz.func162, Tryz.ntmps162
  go_wp2_with fail
  refine HH.out.mono ?_
  rintro e w1 ⟨rfl, hb1⟩
  go_wp2_with fail
  go_ret
  exact ⟨rfl, hb1⟩
set_option maxHeartbeats 1000000 in
theorem ltimes {x y : Int} (hx : Rd x) (hy : Rd y) (w : World) (hP : PrimeAt w) :
    Calls Tryz.prog 164 #[.string (leStr x), .string (leStr y)] w (Tells ((x * y) % Pr) w) := by
  have H := mul_good _ _ (leStr_size x) (leStr_size y) w hP
  rw [hx.num, hy.num] at H
  have HH := Lib.hid H
  clear H
  go_enter Tryz.func164, Tryz.ntmps164
  go_wp2_with fail
  refine HH.out.mono ?_
  rintro e w1 ⟨rfl, hb1⟩
  go_wp2_with fail
  go_ret
  exact ⟨rfl, hb1⟩
set_option maxHeartbeats 1000000 in
theorem lsquare {x : Int} (hx : Rd x) (w : World) (hP : PrimeAt w) :
    Calls Tryz.prog 163 #[.string (leStr x)] w (Tells ((x * x) % Pr) w) := by
  have HH := Lib.hid (ltimes hx hx w hP)
  go_enter Tryz.func163, Tryz.ntmps163
  go_wp2_with fail
  refine HH.out.mono ?_
  rintro e w1 ⟨rfl, hb1⟩
  go_wp2_with fail
  go_ret
  exact ⟨rfl, hb1⟩
set_option maxHeartbeats 1000000 in
theorem linverse {x : Int} (hx : Rd x) (w : World) (hP : PrimeAt w) :
    Calls Tryz.prog 165 #[.string (leStr x)] w (Tells (x ^ ExpN % Pr) w) := by
  have H := inv_good _ (leStr_size x) w hP
  rw [hx.num] at H
  have HH := Lib.hid H
  clear H
  go_enter Tryz.func165, Tryz.ntmps165
  go_wp2_with fail
  refine HH.out.mono ?_
  rintro e w1 ⟨rfl, hb1⟩
  go_wp2_with fail
  go_ret
  exact ⟨rfl, hb1⟩

/-- the same, in every world in which nothing of W has turned -/
theorem gplus {W : World} (hP : PrimeAt W) {x y : Int} (hx : Rd x) (hy : Rd y) (d : Nat) (os : Array Obj) :
    Calls Tryz.prog 161 #[.string (leStr x), .string (leStr y)] (grow (redrawn W d) os) fun e w'' => e = .returned (.string (leStr ((x + y) % Pr))) ∧ ∃ p : Regrown, w'' = grow (redrawn W p.d) p.os :=
  Calls.regrown_of (lplus hx hy _ (hP.below (below_regrown W d os) hP.lt))
theorem gminus {W : World} (hP : PrimeAt W) {x y : Int} (hx : Rd x) (hy : Rd y) (d : Nat) (os : Array Obj) :
    Calls Tryz.prog 162 #[.string (leStr x), .string (leStr y)] (grow (redrawn W d) os) fun e w'' => e = .returned (.string (leStr ((x - y) % Pr))) ∧ ∃ p : Regrown, w'' = grow (redrawn W p.d) p.os :=
  Calls.regrown_of (lminus hx hy _ (hP.below (below_regrown W d os) hP.lt))
theorem gtimes {W : World} (hP : PrimeAt W) {x y : Int} (hx : Rd x) (hy : Rd y) (d : Nat) (os : Array Obj) :
    Calls Tryz.prog 164 #[.string (leStr x), .string (leStr y)] (grow (redrawn W d) os) fun e w'' => e = .returned (.string (leStr ((x * y) % Pr))) ∧ ∃ p : Regrown, w'' = grow (redrawn W p.d) p.os :=
  Calls.regrown_of (ltimes hx hy _ (hP.below (below_regrown W d os) hP.lt))
theorem gsquare {W : World} (hP : PrimeAt W) {x : Int} (hx : Rd x) (d : Nat) (os : Array Obj) :
    Calls Tryz.prog 163 #[.string (leStr x)] (grow (redrawn W d) os) fun e w'' => e = .returned (.string (leStr ((x * x) % Pr))) ∧ ∃ p : Regrown, w'' = grow (redrawn W p.d) p.os :=
  Calls.regrown_of (lsquare hx _ (hP.below (below_regrown W d os) hP.lt))
theorem ginverse {W : World} (hP : PrimeAt W) {x : Int} (hx : Rd x) (d : Nat) (os : Array Obj) :
    Calls Tryz.prog 165 #[.string (leStr x)] (grow (redrawn W d) os) fun e w'' => e = .returned (.string (leStr (x ^ ExpN % Pr))) ∧ ∃ p : Regrown, w'' = grow (redrawn W p.d) p.os :=
  Calls.regrown_of (linverse hx _ (hP.below (below_regrown W d os) hP.lt))
end Go.Proofs.YthjlhcmdpeinpaaGreatDoor

/- Five texts that lie in a block of their own. -/
namespace Go.Proofs.YthjlhcmdpeinpaaGreatDoor
set_option maxRecDepth 100000
open Go.RowKit
def Row5 (w : World) (B : Nat) (a b c d e : ByteArray) : Prop :=
  (w.cell? ⟨B, 0, none⟩ = some (.string a) ∧ w.cell? ⟨B, 1, none⟩ = some (.string b) ∧ w.cell? ⟨B, 2, none⟩ = some (.string c) ∧ w.cell? ⟨B, 3, none⟩ = some (.string d) ∧ w.cell? ⟨B, 4, none⟩ = some (.string e)) ∧
  (w.frozen? ⟨B, 0, none⟩ = false ∧ w.frozen? ⟨B, 1, none⟩ = false ∧ w.frozen? ⟨B, 2, none⟩ = false ∧ w.frozen? ⟨B, 3, none⟩ = false ∧ w.frozen? ⟨B, 4, none⟩ = false)

theorem Row5.below {n B : Nat} {w w' : World} {a b c d e : ByteArray} (h : Row5 w B a b c d e) (hb : Below n w w') (hB : B < n) : Row5 w' B a b c d e := by
  obtain ⟨⟨h0, h1, h2, h3, h4⟩, ⟨f0, f1, f2, f3, f4⟩⟩ := h
  refine ⟨⟨?_, ?_, ?_, ?_, ?_⟩, ⟨?_, ?_, ?_, ?_, ?_⟩⟩
  all_goals first | rw [hb.cell (p := ⟨B, _, none⟩) hB]; assumption | rw [hb.frozen (p := ⟨B, _, none⟩) hB]; assumption
theorem Row5.lt {B : Nat} {w : World} {a b c d e : ByteArray} (h : Row5 w B a b c d e) : B < w.heap.size := World.block_lt_of_cell? w _ h.1.1
theorem Row5.on {B : Nat} {w w' : World} {a b c d e : ByteArray} (h : Row5 w B a b c d e) (hb : Below w.heap.size w w') : Row5 w' B a b c d e := h.below hb h.lt
theorem Row5.alloc {B : Nat} {w : World} {a b c d e : ByteArray} (h : Row5 w B a b c d e) (o : Obj) : Row5 (w.alloc o) B a b c d e :=
  h.below ((Below.refl _ _).alloc (Nat.le_refl _) o) h.lt
theorem Row5.fresh (w : World) (a b c d e : ByteArray) (t : TypeId) : Row5 (w.alloc (.cells #[.string a, .string b, .string c, .string d, .string e] t)) w.heap.size a b c d e := by
  refine ⟨⟨?_, ?_, ?_, ?_, ?_⟩, ⟨?_, ?_, ?_, ?_, ?_⟩⟩ <;> simp
theorem Row5.fresh_at (w : World) (a b c d e : ByteArray) (t : TypeId) (n : Nat) (hn : n = w.heap.size) : Row5 (w.alloc (.cells #[.string a, .string b, .string c, .string d, .string e] t)) n a b c d e := by
  subst hn; exact Row5.fresh w a b c d e t
theorem setCell_at {w : World} {B i j : Nat} {v u : Value} (h : w.cell? ⟨B, j, none⟩ = some v) (hij : j ≠ i) : (w.setCell ⟨B, i, none⟩ u).cell? ⟨B, j, none⟩ = some v := by
  rw [World.cell?_setCell_other]
  · exact h
  · intro e; cases e; exact hij rfl
theorem Row5.set {B : Nat} {w : World} {a b c d e : ByteArray} (h : Row5 w B a b c d e) (a' b' c' d' e' : ByteArray) :
    Row5 (((((w.setCell ⟨B, 0, none⟩ (.string a')).setCell ⟨B, 1, none⟩ (.string b')).setCell ⟨B, 2, none⟩ (.string c')).setCell ⟨B, 3, none⟩ (.string d')).setCell ⟨B, 4, none⟩ (.string e')) B a' b' c' d' e' := by
  obtain ⟨⟨h0, h1, h2, h3, h4⟩, ⟨f0, f1, f2, f3, f4⟩⟩ := h
  refine ⟨⟨?_, ?_, ?_, ?_, ?_⟩, ⟨by simpa using f0, by simpa using f1, by simpa using f2, by simpa using f3, by simpa using f4⟩⟩
  · exact setCell_at (setCell_at (setCell_at (setCell_at (World.cell?_setCell_same _ _ _ h0) (by omega)) (by omega)) (by omega)) (by omega)
  · exact setCell_at (setCell_at (setCell_at (World.cell?_setCell_same _ _ _ (setCell_at h1 (by omega))) (by omega)) (by omega)) (by omega)
  · exact setCell_at (setCell_at (World.cell?_setCell_same _ _ _ (setCell_at (setCell_at h2 (by omega)) (by omega))) (by omega)) (by omega)
  · exact setCell_at (World.cell?_setCell_same _ _ _ (setCell_at (setCell_at (setCell_at h3 (by omega)) (by omega)) (by omega))) (by omega)
  · exact World.cell?_setCell_same _ _ _ (setCell_at (setCell_at (setCell_at (setCell_at h4 (by omega)) (by omega)) (by omega)) (by omega))
theorem below_set5 {n B : Nat} {w0 w : World} (h : Below n w0 w) (hn : n ≤ B) (p q r s t : Value) :
    Below n w0 (((((w.setCell ⟨B, 0, none⟩ p).setCell ⟨B, 1, none⟩ q).setCell ⟨B, 2, none⟩ r).setCell ⟨B, 3, none⟩ s).setCell ⟨B, 4, none⟩ t) :=
  ((((h.setCell hn p).setCell hn q).setCell hn r).setCell hn s).setCell hn t

/-- the numbers behind a step: what the chapter calls A to E, by their own names -/
def sA (x z : Int) : Int := (x + z) % Pr
def sB (x z : Int) : Int := (x - z) % Pr
def sSq (x : Int) : Int := (x * x) % Pr
def sE (x z : Int) : Int := (sSq (sA x z) - sSq (sB x z)) % Pr
def sDA (x2 z2 x3 z3 : Int) : Int := (sB x3 z3 * sA x2 z2) % Pr
def sCB (x2 z2 x3 z3 : Int) : Int := (sA x3 z3 * sB x2 z2) % Pr
def nX2 (x2 z2 : Int) : Int := (sSq (sA x2 z2) * sSq (sB x2 z2)) % Pr
def nZ2 (x2 z2 : Int) : Int := (sE x2 z2 * ((sSq (sA x2 z2) + (sE x2 z2 * 121665) % Pr) % Pr)) % Pr
def nX3 (x2 z2 x3 z3 : Int) : Int := sSq ((sDA x2 z2 x3 z3 + sCB x2 z2 x3 z3) % Pr)
def nZ3 (u x2 z2 x3 z3 : Int) : Int := (u * sSq ((sDA x2 z2 x3 z3 - sCB x2 z2 x3 z3) % Pr)) % Pr

/-- the factor's bytes -/
theorem fac_str : (⟨#[65, 219, 1, 0, 0, 0, 0, 0, 0, 0, 0, 0, 0, 0, 0, 0, 0, 0, 0, 0, 0, 0, 0, 0, 0, 0, 0, 0, 0, 0, 0, 0]⟩ : ByteArray) = leStr 121665 := by decide +kernel
theorem one_str : (⟨#[1, 0, 0, 0, 0, 0, 0, 0, 0, 0, 0, 0, 0, 0, 0, 0, 0, 0, 0, 0, 0, 0, 0, 0, 0, 0, 0, 0, 0, 0, 0, 0]⟩ : ByteArray) = leStr 1 := by decide +kernel
theorem zero_str : (⟨#[0, 0, 0, 0, 0, 0, 0, 0, 0, 0, 0, 0, 0, 0, 0, 0, 0, 0, 0, 0, 0, 0, 0, 0, 0, 0, 0, 0, 0, 0, 0, 0]⟩ : ByteArray) = leStr 0 := by decide +kernel
theorem nine_str : (⟨#[9, 0, 0, 0, 0, 0, 0, 0, 0, 0, 0, 0, 0, 0, 0, 0, 0, 0, 0, 0, 0, 0, 0, 0, 0, 0, 0, 0, 0, 0, 0, 0]⟩ : ByteArray) = leStr 9 := by decide +kernel
theorem Rd.lit {n : Int} (h0 : 0 ≤ n) (h1 : n < 1000000) : Rd n := ⟨h0, by unfold Pr; omega⟩
end Go.Proofs.YthjlhcmdpeinpaaGreatDoor

/- A key clamped; a point without its highest bit. -/
namespace Go.Proofs.YthjlhcmdpeinpaaGreatDoor
set_option maxRecDepth 100000
open Go.RowKit Go.PlainAid
/-- the row of a text's bytes, as the conversion lays it -/
theorem bytes_cell (w : World) (e : TypeId) (s : ByteArray) (j : Nat) (hj : j < s.size) : (Lib.bytesWorld w e s).cell? ⟨w.heap.size, j, none⟩ = some (.int .u8 (bt s j)) := by
  rw [Lib.bytesWorld_cell w e s j hj]
  unfold bt
  rw [dif_pos hj]
  have : s.data.toList.getD j 0 = s[j] := by
    rw [List.getD_eq_getElem?_getD, List.getElem?_eq_getElem (by simpa using hj), Option.getD_some]
    rfl
  rw [this]
theorem bytes_frozen (w : World) (e : TypeId) (s : ByteArray) (j : Nat) (hj : j < s.size) : (Lib.bytesWorld w e s).frozen? ⟨w.heap.size, j, none⟩ = false := by
  have h2 : (Lib.bytesCells w e s).size ≥ s.size := by
    unfold Lib.bytesCells
    simp
  unfold World.frozen?
  rw [Lib.bytesWorld_at_new]
  simp
  omega
theorem bytes_below (w : World) (e : TypeId) (s : ByteArray) : Below w.heap.size w (Lib.bytesWorld w e s) :=
  ⟨rfl, rfl, rfl, by rw [Lib.bytesWorld_size]; omega, fun k hk => Lib.bytesWorld_at_old w e s k hk⟩

theorem andNot7 (b : Int) (h0 : 0 ≤ b) (h1 : b ≤ 255) : bits .andNot .u8 b 7 = b - b % 8 := by
  obtain ⟨n, rfl⟩ := Int.eq_ofNat_of_zero_le h0
  exact (by decide +kernel : ∀ n : Fin 256, bits .andNot .u8 (n.val : Int) 7 = (n.val : Int) - (n.val : Int) % 8) ⟨n, by omega⟩
theorem and127 (b : Int) (h0 : 0 ≤ b) (h1 : b ≤ 255) : bits .and .u8 b 127 = b % 128 := by
  obtain ⟨n, rfl⟩ := Int.eq_ofNat_of_zero_le h0
  exact (by decide +kernel : ∀ n : Fin 256, bits .and .u8 (n.val : Int) 127 = (n.val : Int) % 128) ⟨n, by omega⟩
theorem or64 (b : Int) (h0 : 0 ≤ b) (h1 : b ≤ 255) : bits .or .u8 (b % 128) 64 = b % 64 + 64 := by
  obtain ⟨n, rfl⟩ := Int.eq_ofNat_of_zero_le h0
  exact (by decide +kernel : ∀ n : Fin 256, bits .or .u8 ((n.val : Int) % 128) 64 = (n.val : Int) % 64 + 64) ⟨n, by omega⟩

/-- byte i of a key clamped, of a point without its highest bit -/
def clampAt (s : ByteArray) (i : Nat) : Int := if i = 0 then bt s 0 - bt s 0 % 8 else if i = 31 then bt s 31 % 64 + 64 else bt s i
def pointAt (s : ByteArray) (i : Nat) : Int := if i = 31 then bt s 31 % 128 else bt s i
def row32 (f : Nat → Int) : ByteArray := strOfNums ((List.range 32).map f)
def clampB (s : ByteArray) : ByteArray := row32 (clampAt s)
def pointB (s : ByteArray) : ByteArray := row32 (pointAt s)
theorem row32_size (f : Nat → Int) : (row32 f).size = 32 := by unfold row32; rw [strOfNums_size]; simp
theorem range_getD (f : Nat → Int) (i : Nat) (hi : i < 32) : ((List.range 32).map f).getD i 0 = f i := by
  rw [List.getD_eq_getElem?_getD, List.getElem?_map, List.getElem?_range hi]
  rfl
theorem clampAt_byte (s : ByteArray) (i : Nat) : 0 ≤ clampAt s i ∧ clampAt s i < 256 := by
  have a0 := bt_nonneg s 0; have a1 := bt_le s 0; have b0 := bt_nonneg s 31; have b1 := bt_le s 31; have c0 := bt_nonneg s i; have c1 := bt_le s i
  unfold clampAt
  split
  · omega
  · split <;> omega
theorem pointAt_byte (s : ByteArray) (i : Nat) : 0 ≤ pointAt s i ∧ pointAt s i < 256 := by
  have b0 := bt_nonneg s 31; have b1 := bt_le s 31; have c0 := bt_nonneg s i; have c1 := bt_le s i
  unfold pointAt
  split <;> omega
theorem row32_bt (f : Nat → Int) (hf : ∀ i, 0 ≤ f i ∧ f i < 256) (i : Nat) (hi : i < 32) : bt (row32 f) i = f i := by
  unfold row32
  rw [bt_str _ (fun v hv => by obtain ⟨j, -, rfl⟩ := List.mem_map.1 hv; exact hf j) i (by simpa using hi), range_getD f i hi]
theorem clampB_bt (s : ByteArray) (i : Nat) (hi : i < 32) : bt (clampB s) i = clampAt s i := row32_bt _ (clampAt_byte s) i hi
theorem pointB_bt (s : ByteArray) (i : Nat) (hi : i < 32) : bt (pointB s) i = pointAt s i := row32_bt _ (pointAt_byte s) i hi

set_option maxHeartbeats 1000000 in
theorem clamped_any (s : ByteArray) (hs : s.size = 32) (w : World) :
    Calls Tryz.prog 86 #[.string s] w fun e w' => e = .returned (.string (clampB s)) ∧ Below w.heap.size w w' := by
  have eA := andNot7 _ (bt_nonneg s 0) (bt_le s 0)
  have eM := and127 _ (bt_nonneg s 31) (bt_le s 31)
  have eO := or64 _ (bt_nonneg s 31) (bt_le s 31)
  go_enter Tryz.func86, Tryz.ntmps86
  go_wp2_with fail
  rw [Lib.run_convert_string_bytes _ 9 94 5 s Tryz.underlying9 Tryz.underlying94 Tryz.underlying5, hs]
  have h0 := bytes_cell w 5 s 0 (by omega)
  have h31 := bytes_cell w 5 s 31 (by omega)
  have f0 := bytes_frozen w 5 s 0 (by omega)
  have f31 := bytes_frozen w 5 s 31 (by omega)
  have hB := bytes_below w 5 s
  have hc : ∀ j, j < 32 → (Lib.bytesWorld w 5 s).cell? ⟨w.heap.size, j, none⟩ = some (.int .u8 (bt s j)) := fun j hj => bytes_cell w _ s j (by omega)
  have HC := Lib.hid hc
  clear hc
  generalize grownCap w 32 0 5 = cap
  generalize Lib.bytesWorld w 5 s = W at *
  go_wp2_with fail
  rw [run_convert_bytes_arg _ 94 5 Tryz.underlying94 Tryz.underlying5 w.heap.size 0 32 cap ((List.range 32).map (clampAt s)) (by simp) ?cells 9 Tryz.underlying9]
  case cells =>
    intro i hi
    rw [range_getD _ i hi, Nat.zero_add]
    unfold clampAt
    split
    · rename_i h; subst h
      exact setCell_at (setCell_at (World.cell?_setCell_same _ _ _ h0) (by omega)) (by omega)
    · split
      · rename_i h; subst h
        exact World.cell?_setCell_same _ _ _ (World.cell?_setCell_same _ _ _ (setCell_at h31 (by omega)))
      · exact setCell_at (setCell_at (setCell_at (HC.out i hi) (by omega)) (by omega)) (by omega)
  clear HC h0 h31 f0 f31 eA eM eO
  have hB' := ((hB.setCell (p := ⟨w.heap.size, 0, none⟩) (Nat.le_refl _) (.int .u8 (bt s 0 - bt s 0 % 8))).setCell (p := ⟨w.heap.size, 31, none⟩) (Nat.le_refl _) (.int .u8 (bt s 31 % 128))).setCell (p := ⟨w.heap.size, 31, none⟩) (Nat.le_refl _) (.int .u8 (bt s 31 % 64 + 64))
  go_wp2_with fail
  go_ret
  exact ⟨rfl, hB'⟩

set_option maxHeartbeats 1000000 in
theorem ofPoint_any (s : ByteArray) (hs : s.size = 32) (w : World) (hP : PrimeAt w) :
    Calls Tryz.prog 87 #[.string s] w (Tells (leNum (pointB s) % Pr) w) := by
  have eM := and127 _ (bt_nonneg s 31) (bt_le s 31)
  have lb := hP.lt
  go_enter Tryz.func87, Tryz.ntmps87
  go_wp2_with fail
  rw [Lib.run_convert_string_bytes _ 9 94 5 s Tryz.underlying9 Tryz.underlying94 Tryz.underlying5, hs]
  have h31 := bytes_cell w 5 s 31 (by omega)
  have f31 := bytes_frozen w 5 s 31 (by omega)
  have hB := bytes_below w 5 s
  have hc : ∀ j, j < 32 → (Lib.bytesWorld w 5 s).cell? ⟨w.heap.size, j, none⟩ = some (.int .u8 (bt s j)) := fun j hj => bytes_cell w _ s j (by omega)
  have HC := Lib.hid hc
  clear hc
  generalize grownCap w 32 0 5 = cap
  generalize Lib.bytesWorld w 5 s = W at *
  go_wp2_with fail
  rw [run_convert_bytes_arg _ 94 5 Tryz.underlying94 Tryz.underlying5 w.heap.size 0 32 cap ((List.range 32).map (pointAt s)) (by simp) ?cells 9 Tryz.underlying9]
  case cells =>
    intro i hi
    rw [range_getD _ i hi, Nat.zero_add]
    unfold pointAt
    split
    · rename_i h; subst h
      exact World.cell?_setCell_same _ _ _ h31
    · exact setCell_at (HC.out i hi) (by omega)
  have hB' := hB.setCell (p := ⟨w.heap.size, 31, none⟩) (Nat.le_refl _) (.int .u8 (bt s 31 % 128))
  clear HC h31 f31 eM hB
  generalize World.setCell W _ _ = W1 at hB' ⊢
  have HN := Lib.hid (norm_good (pointB s) (row32_size _) W1 (hP.below hB' lb))
  have hs1 := hB'.size
  rw [show strOfNums ((List.range 32).map (pointAt s)) = pointB s from rfl]
  go_wp2_with fail
  refine HN.out.mono ?_
  rintro e w2 ⟨rfl, hb2⟩
  have hB2 := hB'.trans (hb2.mono hs1)
  clear hb2 hB' HN
  go_wp2_with fail
  go_ret
  exact ⟨rfl, hB2⟩
end Go.Proofs.YthjlhcmdpeinpaaGreatDoor
