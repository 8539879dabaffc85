/- Shelves of points in plain mathematics: what may be, a user's place, one shelf put in its place. -/
import Derived.WalkKit
import Derived.ProofKit
namespace Go.Proofs.Ytmmaimopombepaa
set_option maxRecDepth 100000
/-- a point and its number -/
structure Pn where
  id : Nat
  pt : ByteArray
deriving DecidableEq
/-- a user's shelf -/
structure Sh where
  user : Nat
  ident : ByteArray
  sgn : Pn
  once : List Pn
deriving DecidableEq
def pn0 : Pn := ⟨0, ⟨#[]⟩⟩
def sh0 : Sh := ⟨0, ⟨#[]⟩, pn0, []⟩
/-- may all points be? -/
def okPs (l : List Pn) : Prop := ∀ p ∈ l, p.id ≠ 0 ∧ p.pt.size = 32
instance (l : List Pn) : Decidable (okPs l) := by unfold okPs; exact inferInstance
/-- no two have one number -/
def alonePs (l : List Pn) : Prop := (l.map (·.id)).Nodup
instance (l : List Pn) : Decidable (alonePs l) := by unfold alonePs; exact inferInstance
/-- may a shelf be? -/
def rightSh (s : Sh) : Prop := s.ident.size = 32 ∧ s.sgn.pt.size = 32 ∧ s.once.length ≤ 20 ∧ okPs s.once ∧ alonePs s.once
instance (s : Sh) : Decidable (rightSh s) := by unfold rightSh; exact inferInstance
/-- users rise -/
def risesS (l : List Sh) : Prop := l.Pairwise fun a b => a.user < b.user
instance (l : List Sh) : Decidable (risesS l) := by unfold risesS; exact inferInstance
/-- may shelves be? -/
def rightSL (l : List Sh) : Prop := l.length ≤ 8 ∧ (∀ s ∈ l, rightSh s) ∧ risesS l
instance (l : List Sh) : Decidable (rightSL l) := by unfold rightSL; exact inferInstance
/-- shelves with one in place of its user's, or more -/
def withS (l : List Sh) (s : Sh) : List Sh := l.filter (fun x => decide (x.user < s.user)) ++ s :: l.filter (fun x => decide (s.user < x.user))
/-- a user's place -/
def placeS (l : List Sh) (u : Nat) : Option Nat := l.findIdx? fun s => decide (s.user = u)

theorem rises_step {l : List Sh} (h : risesS l) (i j : Nat) (hij : i < j) (hj : j < l.length) : (l[i]'(by omega)).user < l[j].user := List.pairwise_iff_getElem.1 h i j (by omega) hj hij
/-- one behind the other is enough -/
theorem rises_of {l : List Sh} (h : ∀ i, (hi : i + 1 < l.length) → (l[i]'(by omega)).user < l[i + 1].user) : risesS l := by
  refine List.pairwise_iff_getElem.2 fun i j hi hj hij => ?_
  induction j with
  | zero => omega
  | succ j ih =>
    rcases Nat.lt_or_ge i j with hlt | hge
    · exact Nat.lt_trans (ih (by omega) hlt) (h j hj)
    · obtain rfl : i = j := by omega
      exact h i hj
theorem rises_iff (l : List Sh) : risesS l ↔ ∀ i, (hi : i + 1 < l.length) → (l[i]'(by omega)).user < l[i + 1].user := ⟨fun h i hi => rises_step h i (i + 1) (by omega) hi, rises_of⟩
theorem place_some {l : List Sh} {u i : Nat} (h : placeS l u = some i) : ∃ hi : i < l.length, l[i].user = u := by
  obtain ⟨hi, h1, -⟩ := List.findIdx?_eq_some_iff_getElem.1 h
  exact ⟨hi, of_decide_eq_true h1⟩
theorem place_none {l : List Sh} {u : Nat} (h : placeS l u = none) : ∀ s ∈ l, s.user ≠ u := fun s hs e => by
  have := List.findIdx?_eq_none_iff.1 h s hs
  rw [e, decide_eq_true rfl] at this
  cases this
theorem place_of {l : List Sh} (h : risesS l) {i : Nat} (hi : i < l.length) : placeS l l[i].user = some i := by
  refine List.findIdx?_eq_some_iff_getElem.2 ⟨hi, decide_eq_true rfl, fun j hj e => ?_⟩
  have := rises_step h j i hj hi
  have := of_decide_eq_true e
  omega
theorem filter_lt_split {a b : List Sh} {s x : Sh} (h : risesS (a ++ x :: b)) (hx : x.user = s.user) : withS (a ++ x :: b) s = a ++ s :: b := by
  unfold risesS at h
  rw [List.pairwise_append, List.pairwise_cons] at h
  obtain ⟨-, ⟨hb, -⟩, hab⟩ := h
  have h1 : ∀ y ∈ a, y.user < s.user := fun y hy => by have := hab y hy x List.mem_cons_self; omega
  have h2 : ∀ y ∈ b, s.user < y.user := fun y hy => by have := hb y hy; omega
  have e1 : a.filter (fun y => decide (y.user < s.user)) = a := List.filter_eq_self.2 fun y hy => decide_eq_true (h1 y hy)
  have e2 : b.filter (fun y => decide (y.user < s.user)) = [] := List.filter_eq_nil_iff.2 fun y hy e => by have := h2 y hy; have := of_decide_eq_true e; omega
  have e3 : a.filter (fun y => decide (s.user < y.user)) = [] := List.filter_eq_nil_iff.2 fun y hy e => by have := h1 y hy; have := of_decide_eq_true e; omega
  have e4 : b.filter (fun y => decide (s.user < y.user)) = b := List.filter_eq_self.2 fun y hy => decide_eq_true (h2 y hy)
  unfold withS
  rw [List.filter_append, List.filter_append, List.filter_cons_of_neg (by simp; omega), List.filter_cons_of_neg (by simp; omega), e1, e2, e3, e4]
  simp
/-- in place of its user's -/
theorem with_set {l : List Sh} (h : risesS l) {s : Sh} {i : Nat} (hi : i < l.length) (hu : l[i].user = s.user) : withS l s = l.set i s := by
  have e : l = l.take i ++ l[i] :: l.drop (i + 1) := by rw [← List.drop_eq_getElem_cons hi, List.take_append_drop]
  have h' := h
  rw [e] at h'
  have := filter_lt_split (s := s) h' hu
  rw [← e] at this
  rw [this, List.set_eq_take_append_cons_drop, if_pos hi]
/-- twice -/
theorem with_twice {l : List Sh} (h : risesS l) {s t : Sh} {i : Nat} (hi : i < l.length) (hu : l[i].user = s.user) (ht : t.user = s.user) : withS (withS l s) t = withS l t := by
  have hr : risesS (l.set i s) := by
    refine rises_of fun j hj => ?_
    rw [List.length_set] at hj
    have h1 := rises_step h j (j + 1) (by omega) hj
    rw [List.getElem_set, List.getElem_set]
    by_cases e1 : i = j
    · subst e1
      rw [if_pos rfl, if_neg (by omega)]
      omega
    · rw [if_neg e1]
      by_cases e2 : i = j + 1
      · subst e2
        rw [if_pos rfl]
        omega
      · rw [if_neg e2]
        exact h1
  rw [with_set h hi hu, with_set h hi (by omega), with_set hr (i := i) (by rw [List.length_set]; exact hi) (by rw [List.getElem_set_self]; exact ht.symm), List.set_set]
theorem with_rises {l : List Sh} (h : risesS l) (s : Sh) : risesS (withS l s) := by
  unfold withS risesS
  rw [List.pairwise_append, List.pairwise_cons]
  refine ⟨List.Pairwise.filter _ h, ⟨fun y hy => of_decide_eq_true (List.mem_filter.1 hy).2, List.Pairwise.filter _ h⟩, fun x hx y hy => ?_⟩
  have h1 := of_decide_eq_true (List.mem_filter.1 hx).2
  rcases List.mem_cons.1 hy with rfl | hy
  · exact h1
  · have := of_decide_eq_true (List.mem_filter.1 hy).2
    omega
theorem with_mem {l : List Sh} {s x : Sh} : x ∈ withS l s ↔ x = s ∨ x ∈ l ∧ x.user ≠ s.user := by
  unfold withS
  rw [List.mem_append, List.mem_cons, List.mem_filter, List.mem_filter]
  constructor
  · rintro (⟨h1, h2⟩ | rfl | ⟨h1, h2⟩)
    · have := of_decide_eq_true h2
      exact Or.inr ⟨h1, by omega⟩
    · exact Or.inl rfl
    · have := of_decide_eq_true h2
      exact Or.inr ⟨h1, by omega⟩
  · rintro (rfl | ⟨h1, h2⟩)
    · exact Or.inr (Or.inl rfl)
    · rcases Nat.lt_or_gt_of_ne h2 with h | h
      · exact Or.inl ⟨h1, decide_eq_true h⟩
      · exact Or.inr (Or.inr ⟨h1, decide_eq_true h⟩)
theorem with_length_new {l : List Sh} {s : Sh} (h : ∀ x ∈ l, x.user ≠ s.user) : (withS l s).length = l.length + 1 := by
  have key : (l.filter fun x => decide (x.user < s.user)).length + (l.filter fun x => decide (s.user < x.user)).length = l.length := by
    induction l with
    | nil => rfl
    | cons y l ih =>
      have h1 := ih fun x hx => h x (List.mem_cons_of_mem _ hx)
      have h2 := h y List.mem_cons_self
      rcases Nat.lt_or_gt_of_ne h2 with hy | hy
      · have d1 : decide (y.user < s.user) = true := decide_eq_true hy
        have d2 : decide (s.user < y.user) = false := decide_eq_false (by omega)
        simp only [List.filter_cons, d1, d2, if_true, Bool.false_eq_true, if_false, List.length_cons]; omega
      · have d1 : decide (y.user < s.user) = false := decide_eq_false (by omega)
        have d2 : decide (s.user < y.user) = true := decide_eq_true hy
        simp only [List.filter_cons, d1, d2, if_true, Bool.false_eq_true, if_false, List.length_cons]; omega
  unfold withS
  rw [List.length_append, List.length_cons]; omega
/-- what stays may be -/
theorem with_right {l : List Sh} {s : Sh} (h : rightSL l) (hs : rightSh s) (hn : placeS l s.user ≠ none ∨ l.length < 8) : rightSL (withS l s) := by
  refine ⟨?_, fun x hx => ?_, with_rises h.2.2 s⟩
  · cases hp : placeS l s.user with
    | none =>
      rw [with_length_new (place_none hp)]
      rcases hn with hn | hn
      · exact absurd hp hn
      · omega
    | some i =>
      obtain ⟨hi, hu⟩ := place_some hp
      rw [with_set h.2.2 hi hu, List.length_set]
      exact h.1
  · rcases with_mem.1 hx with rfl | ⟨h1, -⟩
    · exact hs
    · exact h.2.1 x h1
theorem with_place {l : List Sh} (h : risesS l) (s : Sh) : ∃ i, placeS (withS l s) s.user = some i ∧ ∃ hi : i < (withS l s).length, (withS l s)[i] = s := by
  obtain ⟨i, hi, e⟩ := List.mem_iff_getElem.1 (with_mem.2 (Or.inl rfl) : s ∈ withS l s)
  refine ⟨i, ?_, hi, e⟩
  have := place_of (with_rises h s) hi
  rw [e] at this
  exact this
/-- the other users' shelves -/
theorem with_others {l : List Sh} (h : risesS l) (s : Sh) {x : Sh} (hx : x ∈ l) (hne : x.user ≠ s.user) : ∃ i, placeS (withS l s) x.user = some i ∧ ∃ hi : i < (withS l s).length, (withS l s)[i] = x := by
  obtain ⟨i, hi, e⟩ := List.mem_iff_getElem.1 (with_mem.2 (Or.inr ⟨hx, hne⟩) : x ∈ withS l s)
  refine ⟨i, ?_, hi, e⟩
  have := place_of (with_rises h s) hi
  rw [e] at this
  exact this
/-- a shelf without its first one-time point, and as it is told -/
def restSh (s : Sh) : Sh := { s with once := s.once.drop 1 }
def tellSh (s : Sh) : Sh := { s with once := s.once.take 1 }
theorem rest_right {s : Sh} (h : rightSh s) : rightSh (restSh s) :=
  ⟨h.1, h.2.1, by show (s.once.drop 1).length ≤ 20; rw [List.length_drop]; have := h.2.2.1; omega, fun p hp => h.2.2.2.1 p (List.mem_of_mem_drop hp), by
    show ((s.once.drop 1).map (·.id)).Nodup
    rw [List.map_drop]
    exact List.Sublist.nodup (List.drop_sublist _ _) h.2.2.2.2⟩
/-- a shelf without its first one-time points, so many -/
def dropSh (k : Nat) (s : Sh) : Sh := { s with once := s.once.drop k }
theorem dropSh_zero (s : Sh) : dropSh 0 s = s := rfl
theorem rest_drop (k : Nat) (s : Sh) : restSh (dropSh k s) = dropSh (k + 1) s := by
  unfold restSh dropSh
  simp only [List.drop_drop]
theorem take_next (l : List Pn) (k : Nat) : l.take (k + 1) = l.take k ++ (l.drop k).take 1 := by rw [List.take_add]
theorem drop_right {s : Sh} (h : rightSh s) (k : Nat) : rightSh (dropSh k s) :=
  ⟨h.1, h.2.1, by show (s.once.drop k).length ≤ 20; rw [List.length_drop]; have := h.2.2.1; omega, fun p hp => h.2.2.2.1 p (List.mem_of_mem_drop hp), by
    show ((s.once.drop k).map (·.id)).Nodup
    rw [List.map_drop]
    exact List.Sublist.nodup (List.drop_sublist _ _) h.2.2.2.2⟩
/-- shelves behind so many fetches of one user's -/
def nowS (l : List Sh) (i k : Nat) : List Sh := l.set i (dropSh k (l.getD i sh0))
theorem nowS_zero (l : List Sh) (i : Nat) (hi : i < l.length) : nowS l i 0 = l := by
  unfold nowS
  rw [dropSh_zero, List.getD_eq_getElem?_getD, List.getElem?_eq_getElem hi]
  exact List.set_getElem_self hi
theorem nowS_length (l : List Sh) (i k : Nat) : (nowS l i k).length = l.length := List.length_set
theorem nowS_at (l : List Sh) (i k : Nat) (hi : i < l.length) : (nowS l i k)[i]'(by rw [nowS_length]; exact hi) = dropSh k l[i] := by
  unfold nowS
  rw [List.getElem_set_self, List.getD_eq_getElem?_getD, List.getElem?_eq_getElem hi]
  rfl
theorem nowS_other (l : List Sh) (i k j : Nat) (hj : j < l.length) (hne : j ≠ i) : (nowS l i k)[j]'(by rw [nowS_length]; exact hj) = l[j] := by
  unfold nowS
  rw [List.getElem_set_ne (by omega)]
theorem nowS_rises {l : List Sh} (h : risesS l) (i k : Nat) (hi : i < l.length) : risesS (nowS l i k) := by
  have e : (dropSh k (l.getD i sh0)).user = l[i].user := by rw [List.getD_eq_getElem?_getD, List.getElem?_eq_getElem hi]; rfl
  unfold nowS
  rw [← with_set h hi e.symm]
  exact with_rises h _
theorem nowS_right {l : List Sh} (h : rightSL l) (i k : Nat) (hi : i < l.length) : rightSL (nowS l i k) := by
  refine ⟨by rw [nowS_length]; exact h.1, fun x hx => ?_, nowS_rises h.2.2 i k hi⟩
  rcases List.mem_or_eq_of_mem_set hx with hx | rfl
  · exact h.2.1 x hx
  · rw [List.getD_eq_getElem?_getD, List.getElem?_eq_getElem hi]
    exact drop_right (h.2.1 _ (List.getElem_mem hi)) k
theorem nowS_place {l : List Sh} (h : risesS l) (i k : Nat) (hi : i < l.length) : placeS (nowS l i k) l[i].user = some i := by
  have := place_of (nowS_rises h i k hi) (i := i) (by rw [nowS_length]; exact hi)
  rw [nowS_at l i k hi] at this
  exact this
/-- one fetch more -/
theorem nowS_step {l : List Sh} (h : risesS l) (i k : Nat) (hi : i < l.length) : withS (nowS l i k) (restSh (dropSh k l[i])) = nowS l i (k + 1) := by
  rw [rest_drop, with_set (nowS_rises h i k hi) (i := i) (by rw [nowS_length]; exact hi) (by rw [nowS_at l i k hi]; rfl)]
  unfold nowS
  rw [List.set_set, List.getD_eq_getElem?_getD, List.getElem?_eq_getElem hi]
  rfl
/-- a shelf that was published, and fetched: where all are -/
theorem published_at {l : List Sh} (h : risesS l) (s : Sh) {x : Sh} (hx : x ∈ l) : ∃ i, placeS (withS (withS l s) (restSh s)) x.user = some i ∧ ∃ hi : i < (withS (withS l s) (restSh s)).length, (x.user ≠ s.user → (withS (withS l s) (restSh s))[i] = x) := by
  by_cases e : x.user = s.user
  · obtain ⟨i, h1, hi, -⟩ := with_place (with_rises h s) (restSh s)
    exact ⟨i, by rw [e]; exact h1, hi, fun hne => absurd e hne⟩
  · obtain ⟨i, h1, hi, h2⟩ := with_others (with_rises h s) (restSh s) (with_mem.2 (Or.inr ⟨hx, e⟩)) e
    exact ⟨i, h1, hi, fun _ => h2⟩
/-- why a shelf may not be published -/
def whyPub (l : List Sh) (s : Sh) : Int :=
  if ¬ (rightSL l ∧ rightSh s) then 1
  else match placeS l s.user with
    | some i => if (l.getD i sh0).ident = s.ident then 0 else 3
    | none => if l.length = 8 then 6 else 0
/-- why points may not be put behind a shelf's -/
def whyMore (l : List Sh) (u : Nat) (m : List Pn) : Int :=
  if ¬ rightSL l then 1
  else match placeS l u with
    | none => 5
    | some i => if ¬ alonePs ((l.getD i sh0).once ++ m) then 7 else if 20 < ((l.getD i sh0).once ++ m).length then 6 else if ¬ okPs ((l.getD i sh0).once ++ m) then 1 else 0
/-! ### one element more -/
theorem ok_step (l : List Pn) (i : Nat) (h : i < l.length) : okPs (l.take (i + 1)) ↔ okPs (l.take i) ∧ (l[i].id ≠ 0 ∧ l[i].pt.size = 32) := by
  unfold okPs
  rw [List.take_succ_eq_append_getElem h]
  constructor
  · exact fun hh => ⟨fun p hp => hh p (List.mem_append_left _ hp), hh _ (List.mem_append_right _ List.mem_cons_self)⟩
  · rintro ⟨h1, h2⟩ p hp
    rcases List.mem_append.1 hp with hp | hp
    · exact h1 p hp
    · rw [List.mem_singleton] at hp
      subst hp
      exact h2
theorem ok_sub {l : List Pn} (h : okPs l) (i : Nat) : okPs (l.take i) := fun p hp => h p (List.mem_of_mem_take hp)
theorem alone_step (l : List Pn) (i : Nat) (h : i < l.length) : alonePs (l.take (i + 1)) ↔ alonePs (l.take i) ∧ ∀ j, (hj : j < i) → (l[j]'(by omega)).id ≠ l[i].id := by
  unfold alonePs
  rw [List.take_succ_eq_append_getElem h, List.map_append, List.nodup_append]
  constructor
  · rintro ⟨h1, -, h2⟩
    refine ⟨h1, fun j hj e => ?_⟩
    refine h2 (l[j]'(by omega)).id ?_ l[i].id (by simp) e
    exact List.mem_map.2 ⟨l[j]'(by omega), List.mem_take_iff_getElem.2 ⟨j, by omega, rfl⟩, rfl⟩
  · rintro ⟨h1, h2⟩
    refine ⟨h1, by simp, fun x hx y hy e => ?_⟩
    obtain ⟨p, hp, rfl⟩ := List.mem_map.1 hx
    obtain ⟨j, hj, rfl⟩ := List.mem_take_iff_getElem.1 hp
    have hy' : y = l[i].id := by simpa using hy
    exact h2 j (by omega) (e.trans hy')
theorem alone_sub {l : List Pn} (h : alonePs l) (i : Nat) : alonePs (l.take i) := by
  unfold alonePs at h ⊢
  rw [List.map_take]
  exact List.Sublist.nodup (List.take_sublist _ _) h
theorem rises_sub {l : List Sh} (h : risesS l) (i : Nat) : risesS (l.take i) := List.Pairwise.sublist (List.take_sublist _ _) h
theorem rises_next (l : List Sh) (i : Nat) (h : i < l.length) : risesS (l.take (i + 1)) ↔ risesS (l.take i) ∧ ∀ j, (hj : j + 1 = i) → (l[j]'(by omega)).user < l[i].user := by
  constructor
  · intro hh
    refine ⟨?_, fun j hj => ?_⟩
    · have := rises_sub hh i
      rw [List.take_take, Nat.min_eq_left (by omega)] at this
      exact this
    · subst hj
      have := rises_step hh j (j + 1) (by omega) (by rw [List.length_take]; omega)
      simpa using this
  · rintro ⟨h1, h2⟩
    refine rises_of fun j hj => ?_
    rw [List.length_take] at hj
    rw [List.getElem_take, List.getElem_take]
    by_cases e : j + 1 = i
    · subst e
      exact h2 j rfl
    · have := rises_step h1 j (j + 1) (by omega) (by rw [List.length_take]; omega)
      rw [List.getElem_take, List.getElem_take] at this
      exact this
theorem filter_step (l : List Sh) (p : Sh → Bool) (i : Nat) (h : i < l.length) : (l.take (i + 1)).filter p = (l.take i).filter p ++ (if p l[i] then [l[i]] else []) := by
  rw [List.take_succ_eq_append_getElem h, List.filter_append]
  cases hp : p l[i]
  · simp [hp]
  · simp [hp]
theorem place_here {l : List Sh} {u i : Nat} (h : i < l.length) (hno : ∀ j, (hj : j < i) → (l[j]'(by omega)).user ≠ u) (hu : l[i].user = u) : placeS l u = some i :=
  List.findIdx?_eq_some_iff_getElem.2 ⟨h, decide_eq_true hu, fun j hj e => hno j hj (of_decide_eq_true e)⟩
theorem place_nowhere {l : List Sh} {u : Nat} (hno : ∀ j, (hj : j < l.length) → l[j].user ≠ u) : placeS l u = none :=
  List.findIdx?_eq_none_iff.2 fun s hs => by
    obtain ⟨j, hj, rfl⟩ := List.mem_iff_getElem.1 hs
    exact decide_eq_false (hno j hj)
end Go.Proofs.Ytmmaimopombepaa