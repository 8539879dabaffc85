/- What is pushed and acknowledged leaves the relay's boxes: plain mathematics for RelayApart. -/
import Derived.Test.YtmmaimopombepaaDc
namespace Go.Proofs.Ytmmaimopombepaa
set_option maxRecDepth 100000

theorem filtB_true (l : List Bx) (hn : ∀ b ∈ l, b.ml ≠ []) : filtB (fun _ _ => true) l = l := by
  unfold filtB
  induction l with
  | nil => rfl
  | cons c k ih =>
    rw [List.flatMap_cons, ih (fun x hx => hn x (List.mem_cons_of_mem _ hx))]
    unfold keepB
    rw [List.filter_eq_self.2 fun m _ => rfl, if_neg (hn c List.mem_cons_self)]
    rfl
theorem withB_self (l : List Bx) (u : Nat) (hr : risesB l) (hn : ∀ b ∈ l, b.ml ≠ []) : withB l u (mailsR l u) = l := by
  have h := filtB_but (fun _ _ => true) l u hr hn (fun _ _ _ => rfl)
  rw [filtB_true l hn, List.filter_eq_self.2 fun m _ => rfl] at h
  exact h.symm
theorem withB_lt (l : List Bx) (u : Nat) (m : List Ml) : (withB l u m).filter (fun b => decide (b.user < u)) = l.filter (fun b => decide (b.user < u)) := by
  unfold withB
  rw [List.filter_append, List.filter_append, List.filter_filter, List.filter_filter]
  rw [filter_none _ (if m = [] then [] else [⟨u, m⟩]) (fun c hc => by
    by_cases g : m = []
    · rw [if_pos g] at hc; cases hc
    · rw [if_neg g, List.mem_singleton] at hc
      rw [hc]; exact decide_eq_false (by show ¬ u < u; omega))]
  rw [filter_none (fun a => decide (a.user < u) && decide (u < a.user)) l (fun c _ => by
    rw [Bool.and_eq_false_iff]
    by_cases g : c.user < u
    · exact Or.inr (decide_eq_false (by omega))
    · exact Or.inl (decide_eq_false g))]
  rw [List.append_nil, List.append_nil]
  congr 1
  funext c
  rw [Bool.and_self]
theorem withB_gt (l : List Bx) (u : Nat) (m : List Ml) : (withB l u m).filter (fun b => decide (u < b.user)) = l.filter (fun b => decide (u < b.user)) := by
  unfold withB
  rw [List.filter_append, List.filter_append, List.filter_filter, List.filter_filter]
  rw [filter_none _ (if m = [] then [] else [⟨u, m⟩]) (fun c hc => by
    by_cases g : m = []
    · rw [if_pos g] at hc; cases hc
    · rw [if_neg g, List.mem_singleton] at hc
      rw [hc]; exact decide_eq_false (by show ¬ u < u; omega))]
  rw [filter_none _ l (fun c _ => by
    rw [Bool.and_eq_false_iff]
    by_cases g : c.user < u
    · exact Or.inl (decide_eq_false (by omega))
    · exact Or.inr (decide_eq_false g))]
  rw [List.nil_append, List.nil_append]
  congr 1
  funext c
  rw [Bool.and_self]
theorem withB_withB (l : List Bx) (u : Nat) (m m2 : List Ml) : withB (withB l u m) u m2 = withB l u m2 := by
  have h1 := withB_lt l u m
  have h2 := withB_gt l u m
  show (withB l u m).filter _ ++ _ ++ (withB l u m).filter _ = _
  rw [h1, h2]
  rfl
theorem find_out (l : List Bx) (v : Nat) (h : ∀ c ∈ l, c.user ≠ v) : (l.find? fun b => decide (b.user = v)) = none := List.find?_eq_none.2 fun c hc e => h c hc (of_decide_eq_true e)
theorem mailsR_withB (l : List Bx) (u : Nat) (m : List Ml) : mailsR (withB l u m) u = m := by
  unfold mailsR withB
  rw [List.find?_append, List.find?_append, find_out _ u (fun c hc => by have := of_decide_eq_true (List.mem_filter.1 hc).2; omega), find_out (l.filter fun b => decide (u < b.user)) u (fun c hc => by have := of_decide_eq_true (List.mem_filter.1 hc).2; omega)]
  by_cases g : m = []
  · rw [if_pos g, g]; rfl
  · rw [if_neg g]; simp
theorem mailsR_other (l : List Bx) (u v : Nat) (m : List Ml) (h : v ≠ u) : mailsR (withB l u m) v = mailsR l v := by
  have hm : ((if m = [] then [] else [⟨u, m⟩] : List Bx).find? fun b => decide (b.user = v)) = none := find_out _ v (fun c hc => by
    by_cases g : m = []
    · rw [if_pos g] at hc; cases hc
    · rw [if_neg g, List.mem_singleton] at hc
      rw [hc]; exact fun e => h e.symm)
  have key : ((withB l u m).find? fun b => decide (b.user = v)) = l.find? fun b => decide (b.user = v) := by
    unfold withB
    rw [List.find?_append, List.find?_append, hm]
    rcases Nat.lt_or_gt_of_ne h with h2 | h2
    · rw [find_out (l.filter fun b => decide (u < b.user)) v (fun c hc => by have := of_decide_eq_true (List.mem_filter.1 hc).2; omega)]
      rw [List.find?_filter]
      have e : (fun a : Bx => decide (a.user < u) && decide (a.user = v)) = fun a => decide (a.user = v) := by
        funext a
        by_cases g : a.user = v
        · rw [decide_eq_true g, decide_eq_true (by omega)]; rfl
        · rw [decide_eq_false g, Bool.and_false]
      simp only [Option.or_none]
      first
        | rw [e]
        | (simp only [e])
        | (congr 1; funext a; by_cases g : a.user = v <;> simp [g] <;> omega)
    · rw [find_out (l.filter fun b => decide (b.user < u)) v (fun c hc => by have := of_decide_eq_true (List.mem_filter.1 hc).2; omega)]
      rw [List.find?_filter]
      have e : (fun a : Bx => decide (u < a.user) && decide (a.user = v)) = fun a => decide (a.user = v) := by
        funext a
        by_cases g : a.user = v
        · rw [decide_eq_true g, decide_eq_true (by omega)]; rfl
        · rw [decide_eq_false g, Bool.and_false]
      simp only [Option.none_or]
      first
        | rw [e]
        | (simp only [e])
        | (congr 1; funext a; by_cases g : a.user = v <;> simp [g] <;> omega)
  unfold mailsR
  rw [key]
theorem right_rises {r : Rl} (h : rightR r) : risesB r.bx := h.2.2.2.2
theorem withB_len (l : List Bx) (u : Nat) (m : List Ml) : (withB l u m).length ≤ l.length + 1 := by
  unfold withB
  rw [List.length_append, List.length_append]
  have h1 : (l.filter (fun b => decide (b.user < u))).length + (l.filter (fun b => decide (u < b.user))).length ≤ l.length := by
    induction l with
    | nil => simp
    | cons x N ih =>
      by_cases e1 : x.user < u
      · rw [List.filter_cons_of_pos (by simpa using e1), List.filter_cons_of_neg (by simp; omega), List.length_cons, List.length_cons]; omega
      · rw [List.filter_cons_of_neg (by simpa using e1)]
        by_cases e2 : u < x.user
        · rw [List.filter_cons_of_pos (by simpa using e2), List.length_cons, List.length_cons]; omega
        · rw [List.filter_cons_of_neg (by simpa using e2), List.length_cons]; omega
  have h2 : (if m = [] then ([] : List Bx) else [⟨u, m⟩]).length ≤ 1 := by split <;> simp
  omega
theorem withB_len_same (l : List Bx) (u : Nat) (m m2 : List Ml) (h1 : m ≠ []) (h2 : m2 ≠ []) : (withB l u m).length = (withB l u m2).length := by
  unfold withB
  rw [if_neg h1, if_neg h2]
  simp only [List.length_append, List.length_singleton]
theorem rises_withB (l : List Bx) (u : Nat) (m : List Ml) (h : risesB l) : risesB (withB l u m) := by
  have hf : ∀ p : Bx → Bool, (l.filter p).Pairwise fun a b => a.user < b.user := fun p => List.Pairwise.filter p h
  unfold risesB withB
  rw [List.pairwise_append, List.pairwise_append]
  refine ⟨⟨hf _, ?_, fun x hx y hy => ?_⟩, hf _, fun x hx y hy => ?_⟩
  · by_cases g : m = []
    · rw [if_pos g]; exact List.Pairwise.nil
    · rw [if_neg g]; exact List.pairwise_singleton _ _
  · by_cases g : m = []
    · rw [if_pos g] at hy; cases hy
    · rw [if_neg g, List.mem_singleton] at hy
      rw [hy]
      exact of_decide_eq_true (List.mem_filter.1 hx).2
  · have h2 := of_decide_eq_true (List.mem_filter.1 hy).2
    rcases List.mem_append.1 hx with hx | hx
    · have := of_decide_eq_true (List.mem_filter.1 hx).2; omega
    · by_cases g : m = []
      · rw [if_pos g] at hx; cases hx
      · rw [if_neg g, List.mem_singleton] at hx
        rw [hx]; exact h2
theorem okMs_up {now next : Nat} {l : List Ml} (h : okMs now next l) : okMs now (next + 1) l := ⟨fun m hm => by
  obtain ⟨h1, h2, h3, h4⟩ := h.1 m hm
  exact ⟨h1, by omega, h3, h4⟩, h.2⟩
theorem mem_withB {l : List Bx} {u : Nat} {m : List Ml} {b : Bx} (h : b ∈ withB l u m) : b ∈ l ∨ m ≠ [] ∧ b = ⟨u, m⟩ := by
  unfold withB at h
  rcases List.mem_append.1 h with h | h
  · rcases List.mem_append.1 h with h | h
    · exact Or.inl (List.mem_filter.1 h).1
    · by_cases g : m = []
      · rw [if_pos g] at h; cases h
      · rw [if_neg g, List.mem_singleton] at h
        exact Or.inr ⟨g, h⟩
  · exact Or.inl (List.mem_filter.1 h).1
theorem mailsR_mem {l : List Bx} {u : Nat} (h : mailsR l u ≠ []) : (⟨u, mailsR l u⟩ : Bx) ∈ l := by
  unfold mailsR at h ⊢
  cases hf : l.find? fun b => decide (b.user = u) with
  | none => rw [hf] at h; exact absurd rfl h
  | some b =>
    have h1 := List.mem_of_find?_eq_some hf
    obtain ⟨x, y, -, h2⟩ := find_split hf
    show (⟨u, b.ml⟩ : Bx) ∈ l
    rw [← h2]
    exact h1
/-- what RelayApart asks -/
theorem apart_of {r : Rl} {u : Nat} {b : ByteArray} (h : pushE r u b = 0) : rightR r ∧ rightR (pushR r u b) ∧ rightR ⟨r.bx, r.now, r.next + 1⟩ ∧ ackE (pushR r u b) u r.next = 0 ∧ ackR (pushR r u b) u r.next = ⟨r.bx, r.now, r.next + 1⟩ ∧ mailsR (pushR r u b).bx u ≠ [] ∧ ∀ v, v ≠ u → mailsR (pushR r u b).bx v = mailsR r.bx v := by
  have hr := pushE_zero h
  have hn := right_some hr
  unfold pushE at h
  rw [if_neg (fun g => g hr)] at h
  by_cases hs : 1400 < b.size
  · rw [if_pos hs] at h; exact absurd h (by decide)
  rw [if_neg hs] at h
  by_cases hb : hasB (mailsR r.bx u) b = true
  · rw [if_pos hb] at h; exact absurd h (by decide)
  rw [if_neg hb] at h
  by_cases hfull : (mailsR r.bx u).length = 16 ∨ (mailsR r.bx u).length = 0 ∧ r.bx.length = 8
  · rw [if_pos hfull] at h; exact absurd h (by decide)
  rw [if_neg hfull] at h
  by_cases hx : r.next = 4611686018427387903
  · rw [if_pos hx] at h; exact absurd h (by decide)
  clear h
  have hb2 : hasB (mailsR r.bx u) b = false := by simpa using hb
  have hself := withB_self r.bx u hr.2.2.2.2 hn
  obtain ⟨F, eF⟩ : ∃ F, mailsR r.bx u = F := ⟨_, rfl⟩
  have hFok : okMs r.now r.next F ∧ F.length ≤ 16 := by
    by_cases g : F = []
    · rw [g]; exact ⟨⟨fun m hm => (by cases hm), List.Pairwise.nil⟩, Nat.zero_le _⟩
    · have := hr.2.2.2.1 _ (mailsR_mem (l := r.bx) (u := u) (by rw [eF]; exact g))
      rw [eF] at this
      exact ⟨this.2.2, this.2.1⟩
  rw [eF] at hb2 hfull hself
  have hid : ∀ m ∈ F, m.id < r.next := fun m hm => (hFok.1.1 m hm).2.1
  have hnx : r.next + 1 < 4611686018427387904 := by have := hr.2.2.1; omega
  have hne : F ++ [(⟨r.next, b, r.now⟩ : Ml)] ≠ [] := by simp
  have hP : pushR r u b = ⟨withB r.bx u (F ++ [⟨r.next, b, r.now⟩]), r.now, r.next + 1⟩ := by unfold pushR; rw [eF]
  have hup : ∀ c ∈ r.bx, okBx r.now (r.next + 1) c := fun c hc => by
    obtain ⟨h1, h2, h3⟩ := hr.2.2.2.1 c hc
    exact ⟨h1, h2, okMs_up h3⟩
  have hnew : okBx r.now (r.next + 1) ⟨u, F ++ [⟨r.next, b, r.now⟩]⟩ := by
    refine ⟨by simp, ?_, fun m hm => ?_, ?_⟩
    · show (F ++ [_]).length ≤ 16
      rw [List.length_append, List.length_singleton]
      have := hFok.2
      omega
    · rcases List.mem_append.1 hm with hm | hm
      · exact (okMs_up hFok.1).1 m hm
      · rw [List.mem_singleton.1 hm]
        exact ⟨by show b.size ≤ 1400; omega, by show r.next < r.next + 1; omega, Nat.le_refl _, by show r.now - r.now ≤ 50; omega⟩
    · show (F ++ [_]).Pairwise _
      rw [List.pairwise_append]
      refine ⟨hFok.1.2, List.pairwise_singleton _ _, fun x hx y hy => ?_⟩
      rw [List.mem_singleton.1 hy]
      exact ⟨hid x hx, hasB_false.1 hb2 x hx⟩
  have hlen : (withB r.bx u (F ++ [⟨r.next, b, r.now⟩])).length ≤ 8 := by
    by_cases g : F = []
    · have h1 := withB_len r.bx u (F ++ [⟨r.next, b, r.now⟩])
      have h2 := hr.1
      have : ¬ r.bx.length = 8 := fun e => hfull (Or.inr ⟨by rw [g]; rfl, e⟩)
      omega
    · rw [withB_len_same r.bx u _ F hne g, hself]
      exact hr.1
  have hmails := mailsR_withB r.bx u (F ++ [⟨r.next, b, r.now⟩])
  have hright : rightR (pushR r u b) := by
    rw [hP]
    refine ⟨hlen, hr.2.1, hnx, fun c hc => ?_, rises_withB _ _ _ hr.2.2.2.2⟩
    rcases mem_withB hc with hc | ⟨-, hc⟩
    · exact hup c hc
    · rw [hc]; exact hnew
  have hf1 : (F ++ [(⟨r.next, b, r.now⟩ : Ml)]).filter (fun m => decide (m.id = r.next)) ≠ [] := fun e => by
    have := List.filter_eq_nil_iff.1 e ⟨r.next, b, r.now⟩ (List.mem_append_right _ List.mem_cons_self)
    exact this (decide_eq_true rfl)
  have hf2 : (F ++ [(⟨r.next, b, r.now⟩ : Ml)]).filter (fun m => !decide (m.id = r.next)) = F := by
    rw [List.filter_append, List.filter_eq_self.2 (fun m hm => by have := hid m hm; rw [decide_eq_false (by omega)]; rfl), List.filter_eq_nil_iff.2 (fun m hm => by rw [List.mem_singleton.1 hm]; simp), List.append_nil]
  refine ⟨hr, hright, ⟨hr.1, hr.2.1, hnx, hup, hr.2.2.2.2⟩, ?_, ?_, ?_, ?_⟩
  · unfold ackE
    rw [if_neg (fun g => g hright), hP]
    show (if ((mailsR (withB r.bx u _) u).filter _ = []) then (5 : Int) else 0) = 0
    rw [hmails, if_neg hf1]
  · unfold ackR
    rw [hP]
    show (⟨withB (withB r.bx u _) u ((mailsR (withB r.bx u _) u).filter _), r.now, r.next + 1⟩ : Rl) = _
    rw [hmails, hf2, withB_withB, hself]
  · rw [hP]
    show mailsR (withB r.bx u _) u ≠ []
    rw [hmails]
    exact hne
  · intro v hv
    rw [hP]
    exact mailsR_other r.bx u v _ hv
end Go.Proofs.Ytmmaimopombepaa
