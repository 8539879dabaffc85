/- Relays of boxes of mails in plain mathematics: what may be, a chain of filters, a user's mails, one box in place. -/
import Derived.WalkKit
import Derived.ProofKit
namespace Go.Proofs.Ytmmaimopombepaa
set_option maxRecDepth 100000

/-- a mail -/
structure Ml where
  id : Nat
  b : ByteArray
  born : Nat
deriving DecidableEq
/-- a user's box -/
structure Bx where
  user : Nat
  ml : List Ml
deriving DecidableEq
/-- a relay -/
structure Rl where
  bx : List Bx
  now : Nat
  next : Nat
deriving DecidableEq
def ml0 : Ml := ⟨0, ⟨#[]⟩, 0⟩
def bx0 : Bx := ⟨0, []⟩
instance : Inhabited Ml := ⟨ml0⟩
instance : Inhabited Bx := ⟨bx0⟩
/-- may a mail be? -/
def okMl (now next : Nat) (m : Ml) : Prop := m.b.size ≤ 1400 ∧ m.id < next ∧ m.born ≤ now ∧ now - m.born ≤ 50
instance (now next : Nat) (m : Ml) : Decidable (okMl now next m) := by unfold okMl; exact inferInstance
/-- numbers rise, and bytes differ -/
def apartM (l : List Ml) : Prop := l.Pairwise fun a b => a.id < b.id ∧ a.b ≠ b.b
instance (l : List Ml) : Decidable (apartM l) := by unfold apartM; exact inferInstance
def okMs (now next : Nat) (l : List Ml) : Prop := (∀ m ∈ l, okMl now next m) ∧ apartM l
instance (now next : Nat) (l : List Ml) : Decidable (okMs now next l) := by unfold okMs; exact inferInstance
/-- may a box be? -/
def okBx (now next : Nat) (b : Bx) : Prop := 1 ≤ b.ml.length ∧ b.ml.length ≤ 16 ∧ okMs now next b.ml
instance (now next : Nat) (b : Bx) : Decidable (okBx now next b) := by unfold okBx; exact inferInstance
def risesB (l : List Bx) : Prop := l.Pairwise fun a b => a.user < b.user
instance (l : List Bx) : Decidable (risesB l) := by unfold risesB; exact inferInstance
def okBs (now next : Nat) (l : List Bx) : Prop := (∀ b ∈ l, okBx now next b) ∧ risesB l
instance (now next : Nat) (l : List Bx) : Decidable (okBs now next l) := by unfold okBs; exact inferInstance
/-- may a relay be? -/
def rightR (r : Rl) : Prop := r.bx.length ≤ 8 ∧ r.now < 4611686018427387904 ∧ r.next < 4611686018427387904 ∧ okBs r.now r.next r.bx
instance (r : Rl) : Decidable (rightR r) := by unfold rightR; exact inferInstance
/-- one mail more -/
theorem okMs_step (now next : Nat) (l : List Ml) (i : Nat) (h : i < l.length) : okMs now next (l.take (i + 1)) ↔ okMs now next (l.take i) ∧ okMl now next l[i] ∧ ∀ j, (hj : j < i) → (l[j]'(by omega)).id < l[i].id ∧ (l[j]'(by omega)).b ≠ l[i].b := by
  unfold okMs apartM
  rw [List.take_succ_eq_append_getElem h, List.pairwise_append]
  constructor
  · rintro ⟨h1, h2, -, h3⟩
    refine ⟨⟨fun m hm => h1 m (List.mem_append_left _ hm), h2⟩, h1 _ (List.mem_append_right _ List.mem_cons_self), fun j hj => ?_⟩
    exact h3 _ (List.mem_take_iff_getElem.2 ⟨j, by omega, rfl⟩) _ List.mem_cons_self
  · rintro ⟨⟨h1, h2⟩, h3, h4⟩
    refine ⟨fun m hm => ?_, h2, List.pairwise_singleton _ _, fun x hx y hy => ?_⟩
    · rcases List.mem_append.1 hm with hm | hm
      · exact h1 m hm
      · rw [List.mem_singleton.1 hm]; exact h3
    · rw [List.mem_singleton.1 hy]
      obtain ⟨j, hj, rfl⟩ := List.mem_take_iff_getElem.1 hx
      exact h4 j (by omega)
theorem okMs_sub {now next : Nat} {l : List Ml} (h : okMs now next l) (i : Nat) : okMs now next (l.take i) := ⟨fun m hm => h.1 m (List.mem_of_mem_take hm), List.Pairwise.sublist (List.take_sublist _ _) h.2⟩
theorem okMs_nil (now next : Nat) : okMs now next [] := ⟨fun m hm => (by cases hm), List.Pairwise.nil⟩
/-- the number behind is above the one ahead: enough -/
theorem okMs_adj {now next : Nat} {l : List Ml} {i : Nat} (h : i < l.length) (hp : okMs now next (l.take i)) (ha : ∀ h0 : 0 < i, (l[i - 1]'(by omega)).id < l[i].id) : ∀ j, (hj : j < i) → (l[j]'(by omega)).id < l[i].id := fun j hj => by
  have h1 := ha (by omega)
  rcases Nat.lt_or_ge j (i - 1) with h2 | h2
  · have h3 := List.pairwise_iff_getElem.1 hp.2 j (i - 1) (by rw [List.length_take]; omega) (by rw [List.length_take]; omega) h2
    rw [List.getElem_take, List.getElem_take] at h3
    omega
  · obtain rfl : j = i - 1 := by omega
    exact h1
theorem okBs_step (now next : Nat) (l : List Bx) (i : Nat) (h : i < l.length) : okBs now next (l.take (i + 1)) ↔ okBs now next (l.take i) ∧ okBx now next l[i] ∧ ∀ h0 : 0 < i, (l[i - 1]'(by omega)).user < l[i].user := by
  unfold okBs risesB
  rw [List.take_succ_eq_append_getElem h, List.pairwise_append]
  constructor
  · rintro ⟨h1, h2, -, h3⟩
    refine ⟨⟨fun m hm => h1 m (List.mem_append_left _ hm), h2⟩, h1 _ (List.mem_append_right _ List.mem_cons_self), fun h0 => ?_⟩
    exact h3 _ (List.mem_take_iff_getElem.2 ⟨i - 1, by omega, rfl⟩) _ List.mem_cons_self
  · rintro ⟨⟨h1, h2⟩, h3, h4⟩
    refine ⟨fun m hm => ?_, h2, List.pairwise_singleton _ _, fun x hx y hy => ?_⟩
    · rcases List.mem_append.1 hm with hm | hm
      · exact h1 m hm
      · rw [List.mem_singleton.1 hm]; exact h3
    · rw [List.mem_singleton.1 hy]
      obtain ⟨j, hj, rfl⟩ := List.mem_take_iff_getElem.1 hx
      have h5 := h4 (by omega)
      rcases Nat.lt_or_ge j (i - 1) with h6 | h6
      · have h7 := List.pairwise_iff_getElem.1 h2 j (i - 1) (by rw [List.length_take]; omega) (by rw [List.length_take]; omega) h6
        rw [List.getElem_take, List.getElem_take] at h7
        omega
      · obtain rfl : j = i - 1 := by omega
        exact h5
theorem okBs_sub {now next : Nat} {l : List Bx} (h : okBs now next l) (i : Nat) : okBs now next (l.take i) := ⟨fun m hm => h.1 m (List.mem_of_mem_take hm), List.Pairwise.sublist (List.take_sublist _ _) h.2⟩
theorem okBs_nil (now next : Nat) : okBs now next [] := ⟨fun m hm => (by cases hm), List.Pairwise.nil⟩
/-- boxes with the mails that stay, and without boxes that are empty then -/
def keepB (p : Nat → Ml → Bool) (b : Bx) : List Bx := if b.ml.filter (p b.user) = [] then [] else [⟨b.user, b.ml.filter (p b.user)⟩]
def filtB (p : Nat → Ml → Bool) (l : List Bx) : List Bx := l.flatMap (keepB p)
theorem filtB_nil (p : Nat → Ml → Bool) : filtB p [] = [] := rfl
theorem filtB_step (p : Nat → Ml → Bool) (l : List Bx) (i : Nat) (h : i < l.length) : filtB p (l.take (i + 1)) = filtB p (l.take i) ++ keepB p l[i] := by
  unfold filtB
  rw [List.take_succ_eq_append_getElem h, List.flatMap_append, List.flatMap_cons, List.flatMap_nil, List.append_nil]
theorem filter_step (p : Ml → Bool) (l : List Ml) (i : Nat) (h : i < l.length) : (l.take (i + 1)).filter p = (l.take i).filter p ++ (if p l[i] = true then [l[i]] else []) := by
  rw [List.take_succ_eq_append_getElem h, List.filter_append, List.filter_cons, List.filter_nil]
/-- by users alone: whole boxes, where none is empty -/
theorem filtB_user (q : Nat → Bool) (l : List Bx) (h : ∀ b ∈ l, b.ml ≠ []) : filtB (fun u _ => q u) l = l.filter fun b => q b.user := by
  unfold filtB
  induction l with
  | nil => rfl
  | cons b l ih =>
    rw [List.flatMap_cons, ih fun x hx => h x (List.mem_cons_of_mem _ hx), List.filter_cons]
    unfold keepB
    show (if b.ml.filter (fun _ => q b.user) = [] then [] else [(⟨b.user, b.ml.filter (fun _ => q b.user)⟩ : Bx)]) ++ _ = _
    cases hq : q b.user
    · rw [if_pos (List.filter_eq_nil_iff.2 fun m _ => by simp), if_neg (by simp)]
      rfl
    · have e : (b.ml.filter fun _ => true) = b.ml := List.filter_eq_self.2 fun _ _ => rfl
      rw [e, if_neg (h b List.mem_cons_self), if_pos rfl]
      rfl
/-- a user's mails -/
def mailsR (l : List Bx) (u : Nat) : List Ml := match l.find? fun b => decide (b.user = u) with
  | none => []
  | some b => b.ml
theorem find_split {l : List Bx} {u : Nat} {b : Bx} (h : (l.find? fun b => decide (b.user = u)) = some b) : ∃ x y, l = x ++ b :: y ∧ b.user = u := by
  obtain ⟨h1, x, y, e, -⟩ := List.find?_eq_some_iff_append.1 h
  exact ⟨x, y, e, of_decide_eq_true h1⟩
/-- where users rise: those ahead are below, those behind above -/
theorem rises_split {x y : List Bx} {b : Bx} (h : risesB (x ++ b :: y)) : (∀ c ∈ x, c.user < b.user) ∧ ∀ c ∈ y, b.user < c.user := by
  unfold risesB at h
  rw [List.pairwise_append, List.pairwise_cons] at h
  obtain ⟨-, ⟨hb, -⟩, hab⟩ := h
  exact ⟨fun c hc => hab c hc b List.mem_cons_self, fun c hc => hb c hc⟩
theorem filter_none (p : Bx → Bool) (l : List Bx) (h : ∀ c ∈ l, p c = false) : l.filter p = [] := List.filter_eq_nil_iff.2 fun c hc => by rw [h c hc]; decide
theorem filter_all (p : Bx → Bool) (l : List Bx) (h : ∀ c ∈ l, p c = true) : l.filter p = l := List.filter_eq_self.2 h
/-- one box in place of a user's; none, if it is empty -/
def withB (l : List Bx) (u : Nat) (m : List Ml) : List Bx := l.filter (fun b => decide (b.user < u)) ++ (if m = [] then [] else [⟨u, m⟩]) ++ l.filter (fun b => decide (u < b.user))
/-- the user's boxes by a filter: its one -/
theorem filtB_of (p : Nat → Ml → Bool) (l : List Bx) (u : Nat) (hr : risesB l) (hp : ∀ v m, v ≠ u → p v m = false) : filtB p l = if (mailsR l u).filter (p u) = [] then [] else [⟨u, (mailsR l u).filter (p u)⟩] := by
  have none_ : ∀ k : List Bx, (∀ c ∈ k, c.user ≠ u) → filtB p k = [] := fun k hk => by
    unfold filtB
    rw [List.flatMap_eq_nil_iff]
    intro c hc
    unfold keepB
    rw [if_pos (List.filter_eq_nil_iff.2 fun m _ => by rw [hp _ m (hk c hc)]; decide)]
  unfold mailsR
  cases hf : l.find? fun b => decide (b.user = u) with
  | none =>
    have : ∀ c ∈ l, c.user ≠ u := fun c hc e => by
      have := List.find?_eq_none.1 hf c hc
      exact this (decide_eq_true e)
    rw [none_ l this]
    rfl
  | some b =>
    obtain ⟨x, y, rfl, hb⟩ := find_split hf
    obtain ⟨h1, h2⟩ := rises_split hr
    have e : filtB p (x ++ b :: y) = filtB p x ++ (keepB p b ++ filtB p y) := by unfold filtB; rw [List.flatMap_append, List.flatMap_cons]
    rw [e, none_ x (fun c hc => by have := h1 c hc; omega), none_ y (fun c hc => by have := h2 c hc; omega), List.nil_append, List.append_nil]
    unfold keepB
    rw [hb]
/-- all but some of the user's mails -/
theorem filtB_but (p : Nat → Ml → Bool) (l : List Bx) (u : Nat) (hr : risesB l) (hn : ∀ b ∈ l, b.ml ≠ []) (hp : ∀ v m, v ≠ u → p v m = true) : filtB p l = withB l u ((mailsR l u).filter (p u)) := by
  have all_ : ∀ k : List Bx, (∀ c ∈ k, c.user ≠ u) → (∀ c ∈ k, c.ml ≠ []) → filtB p k = k := fun k hk hm => by
    unfold filtB
    induction k with
    | nil => rfl
    | cons c k ih =>
      rw [List.flatMap_cons, ih (fun x hx => hk x (List.mem_cons_of_mem _ hx)) (fun x hx => hm x (List.mem_cons_of_mem _ hx))]
      unfold keepB
      rw [List.filter_eq_self.2 fun m _ => hp _ m (hk c List.mem_cons_self), if_neg (hm c List.mem_cons_self)]
      rfl
  unfold mailsR
  cases hf : l.find? fun b => decide (b.user = u) with
  | none =>
    have hne : ∀ c ∈ l, c.user ≠ u := fun c hc e => by
      have := List.find?_eq_none.1 hf c hc
      exact this (decide_eq_true e)
    rw [all_ l hne hn]
    unfold withB
    show l = _ ++ (if ([] : List Ml).filter (p u) = [] then [] else _) ++ _
    rw [List.filter_nil, if_pos rfl, List.append_nil]
    -- users below, then those above
    have hr' := hr
    clear hf hn all_
    induction l with
    | nil => rfl
    | cons c k ih =>
      unfold risesB at hr'
      rw [List.pairwise_cons] at hr'
      have h1 := ih hr'.2 (fun x hx => hne x (List.mem_cons_of_mem _ hx)) hr'.2
      rcases Nat.lt_or_gt_of_ne (hne c List.mem_cons_self) with h2 | h2
      · rw [List.filter_cons_of_pos (by simpa using h2), List.filter_cons_of_neg (by simp; omega), List.cons_append, ← h1]
      · have h3 : ∀ x ∈ c :: k, u < x.user := fun x hx => by
          rcases List.mem_cons.1 hx with rfl | hx
          · exact h2
          · have := hr'.1 x hx; omega
        rw [filter_none _ _ (fun x hx => decide_eq_false (by have := h3 x hx; omega)), filter_all _ _ (fun x hx => decide_eq_true (h3 x hx))]
        rfl
  | some b =>
    obtain ⟨x, y, rfl, hb⟩ := find_split hf
    obtain ⟨h1, h2⟩ := rises_split hr
    have e : filtB p (x ++ b :: y) = filtB p x ++ (keepB p b ++ filtB p y) := by unfold filtB; rw [List.flatMap_append, List.flatMap_cons]
    rw [e, all_ x (fun c hc => by have := h1 c hc; omega) (fun c hc => hn c (List.mem_append_left _ hc)), all_ y (fun c hc => by have := h2 c hc; omega) (fun c hc => hn c (List.mem_append_right _ (List.mem_cons_of_mem _ hc)))]
    unfold withB
    rw [List.filter_append, List.filter_append, List.filter_cons_of_neg (by simp; omega), List.filter_cons_of_neg (by simp; omega), filter_all _ x (fun c hc => decide_eq_true (by have := h1 c hc; omega)), filter_none _ y (fun c hc => decide_eq_false (by have := h2 c hc; omega)), filter_none _ x (fun c hc => decide_eq_false (by have := h1 c hc; omega)), filter_all _ y (fun c hc => decide_eq_true (by have := h2 c hc; omega)), List.append_nil, List.nil_append, List.append_assoc]
    unfold keepB
    rw [hb]
end Go.Proofs.Ytmmaimopombepaa
