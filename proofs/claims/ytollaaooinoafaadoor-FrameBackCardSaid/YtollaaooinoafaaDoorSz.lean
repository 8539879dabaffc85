/- The texts Sa, Sf, one behind the other. -/
import Derived.Test.YtollaaooinoafaaDoorPa
/- Frames in plain mathematics: their bytes, the frame that bytes tell, and that what is put is got as it was. -/
namespace Go.Proofs.YtollaaooinoafaaDoor
set_option maxRecDepth 100000
/-- a frame -/
structure Fr where
  kind : Int
  frm : Nat
  dst : Nat
  id : Nat
  ident : ByteArray
  base : ByteArray
  signed : Nat
  once : Nat
  ratchet : ByteArray
  prev : Nat
  num : Nat
  body : ByteArray
  keys : List ByteArray
deriving DecidableEq
def np (n : Nat) : Pt := ⟨false, n, ⟨#[]⟩⟩
def tp (s : ByteArray) : Pt := ⟨true, 0, s⟩
def rightF (f : Fr) : Bool :=
  if f.kind = 0 then decide (f.ident.size = 32) && decide (f.base.size = 32) && decide (f.ratchet.size = 32) && decide (f.body.size ≤ 1024) && decide (f.keys.length = 0)
  else if f.ident.size = 0 ∧ f.base.size = 0 ∧ f.signed = 0 ∧ f.once = 0 then
    (if f.kind = 1 then decide (f.ratchet.size = 32) && decide (f.body.size ≤ 1024) && decide (f.keys.length = 0)
     else decide (f.kind = 2) && decide (f.ratchet.size = 0) && decide (f.body.size = 0) && decide (f.prev = 0) && decide (f.num = 0) && (f.keys.all fun k => decide (k.size = 32)) && decide (f.keys.length ≤ 32))
  else false
/-- its numbers are Go's -/
structure FrOk (f : Fr) : Prop where
  frm : f.frm < 18446744073709551616
  dst : f.dst < 18446744073709551616
  id : f.id < 18446744073709551616
  signed : f.signed < 18446744073709551616
  once : f.once < 18446744073709551616
  prev : f.prev < 18446744073709551616
  num : f.num < 18446744073709551616
def headP (f : Fr) : List Pt :=
  [np f.kind.toNat, np f.frm, np f.dst, np f.id] ++ (if f.kind = 0 then [tp f.ident, tp f.base, np f.signed, np f.once] else []) ++ (if f.kind < 2 then [tp f.ratchet, np f.prev, np f.num] else [])
def allP (f : Fr) : List Pt := headP f ++ (if f.kind < 2 then [tp f.body] else np f.keys.length :: f.keys.map tp)
def headF (f : Fr) : List UInt8 := packL (headP f)
def putF (f : Fr) : List UInt8 := packL (allP f)
def fmA : List UInt8 := [110, 110, 110, 110, 116, 116, 110, 110, 116, 110, 110, 116]
def fmB : List UInt8 := [110, 110, 110, 110, 116, 110, 110, 116]
def fmC : List UInt8 := [110, 110, 110, 110, 42]
def gN (l : List Pt) (i : Nat) : Nat := (l.getD i ⟨false, 0, ⟨#[]⟩⟩).n
def gS (l : List Pt) (i : Nat) : ByteArray := (l.getD i ⟨false, 0, ⟨#[]⟩⟩).s
def helloA (l : List Pt) : Fr := ⟨0, gN l 1, gN l 2, gN l 3, gS l 4, gS l 5, gN l 6, gN l 7, gS l 8, gN l 9, gN l 10, gS l 11, []⟩
def helloB (l : List Pt) : Fr := ⟨1, gN l 1, gN l 2, gN l 3, ⟨#[]⟩, ⟨#[]⟩, 0, 0, gS l 4, gN l 5, gN l 6, gS l 7, []⟩
def revealC (l : List Pt) : Fr := ⟨2, gN l 1, gN l 2, gN l 3, ⟨#[]⟩, ⟨#[]⟩, 0, 0, ⟨#[]⟩, 0, 0, ⟨#[]⟩, (l.drop 5).map (·.s)⟩
def hitU (s : List UInt8) (fm : List UInt8) (k : Nat) : Bool := decide ((unpackL s fm).2.2 = 0) && decide (gN (unpackL s fm).1 0 = k)
/-- the frame that bytes tell, if there is one -/
def getF (s : List UInt8) : Option Fr :=
  if hitU s fmC 2 then (if rightF (revealC (unpackL s fmC).1) then some (revealC (unpackL s fmC).1) else none)
  else if hitU s fmB 1 then (if rightF (helloB (unpackL s fmB).1) then some (helloB (unpackL s fmB).1) else none)
  else if hitU s fmA 0 then (if rightF (helloA (unpackL s fmA).1) then some (helloA (unpackL s fmA).1) else none)
  else none

theorem normP_np (n : Nat) : normP (np n) = np n := rfl
theorem stepKs_append (s a b : List UInt8) (st : St) : stepKs s (a ++ b) st = if (stepKs s a st).2 then stepKs s b (stepKs s a st).1 else stepKs s a st := by
  induction a generalizing st with
  | nil => simp [stepKs]
  | cons k a ih =>
    rw [List.cons_append, stepKs, stepKs]
    by_cases h : (stepK s k st).2 = true
    · rw [if_pos h, if_pos h, ih]
    · rw [if_neg h, if_neg h, if_neg h]
/-- texts that are packed are read one by one -/
theorem stepTs_parts (ts : List ByteArray) (a b : List UInt8) (l : List Pt) (h : ∀ t ∈ ts, t.size ≤ 1024) :
    stepTs (a ++ packL (ts.map tp) ++ b) ts.length (l, a.length) = ((l ++ ts.map tp, a.length + (packL (ts.map tp)).length), true) := by
  induction ts generalizing a l with
  | nil => simp [packL, stepTs]
  | cons t ts ih =>
    have hc : packL ((t :: ts).map tp) = partB (tp t) ++ packL (ts.map tp) := by rw [List.map_cons]; unfold packL; rw [List.flatMap_cons]
    have h1 := stepK_part (tp t) a (packL (ts.map tp) ++ b) l (by show 0 < _; omega) (by have h9 := h t (by simp); show (true && decide (1024 < t.size)) = false; rw [decide_eq_false (by omega)]; rfl)
    have hs : stepT (a ++ partB (tp t) ++ (packL (ts.map tp) ++ b)) (l, a.length) = ((l ++ [tp t], a.length + (partB (tp t)).length), true) := h1
    have e : a ++ packL ((t :: ts).map tp) ++ b = a ++ partB (tp t) ++ (packL (ts.map tp) ++ b) := by rw [hc]; simp only [List.append_assoc]
    rw [e, List.length_cons, stepTs, hs, if_pos rfl]
    have h2 := ih (a ++ partB (tp t)) (l ++ [tp t]) (fun u hu => h u (by simp [hu]))
    rw [List.length_append] at h2
    rw [show a ++ partB (tp t) ++ (packL (ts.map tp) ++ b) = a ++ partB (tp t) ++ packL (ts.map tp) ++ b by simp only [List.append_assoc]]
    show stepTs _ _ (l ++ [tp t], a.length + (partB (tp t)).length) = _
    rw [h2, hc]
    simp [Nat.add_assoc]
theorem stepM_parts (ts : List ByteArray) (a b : List UInt8) (l : List Pt) (h : ∀ t ∈ ts, t.size ≤ 1024) (h32 : ts.length ≤ 32) :
    stepM (a ++ packL (np ts.length :: ts.map tp) ++ b) (l, a.length) = ((l ++ np ts.length :: ts.map tp, a.length + (packL (np ts.length :: ts.map tp)).length), true) := by
  have hc : packL (np ts.length :: ts.map tp) = numB ts.length ++ packL (ts.map tp) := by unfold packL; rw [List.flatMap_cons]; rfl
  have hd : (a ++ packL (np ts.length :: ts.map tp) ++ b).drop a.length = numB ts.length ++ (packL (ts.map tp) ++ b) := by rw [hc, List.append_assoc, List.drop_left, List.append_assoc]
  have hah : ahead ((a ++ packL (np ts.length :: ts.map tp) ++ b).drop a.length) = some (ts.length, (numB ts.length).length) := by rw [hd, ahead_numB _ _ (by omega)]
  have hN : stepN (a ++ packL (np ts.length :: ts.map tp) ++ b) 32 (l, a.length) = ((l ++ [np ts.length], a.length + (numB ts.length).length), true) := by
    unfold stepN
    show (match ahead (List.drop a.length _) with | none => _ | some (n, k) => _) = _
    rw [hah]
    simp only
    rw [if_pos h32]
    rfl
  unfold stepM
  rw [hN, if_pos rfl]
  have hm : manyAt (a ++ packL (np ts.length :: ts.map tp) ++ b) ((l, a.length) : St).2 = ts.length := by
    unfold manyAt
    show (match ahead (List.drop a.length _) with | none => 0 | some (n, _) => n) = _
    rw [hah]
  rw [hm]
  have h2 := stepTs_parts ts (a ++ numB ts.length) b (l ++ [np ts.length]) h
  rw [List.length_append] at h2
  rw [show a ++ packL (np ts.length :: ts.map tp) ++ b = a ++ numB ts.length ++ packL (ts.map tp) ++ b by rw [hc]; simp only [List.append_assoc]]
  show stepTs _ _ (l ++ [np ts.length], a.length + (numB ts.length).length) = _
  rw [h2, hc]
  simp [Nat.add_assoc]

/-- what a row of kinds without texts to count tells has those kinds -/
theorem stepK_shape (s : List UInt8) (k : UInt8) (st : St) (hk : k = 110 ∨ k = 116) (h : (stepK s k st).2 = true) : ∃ p : Pt, (stepK s k st).1.1 = st.1 ++ [p] ∧ kindP p = k ∧ normP p = p := by
  unfold stepK at h ⊢
  rcases hk with rfl | rfl
  · rw [if_pos rfl] at h ⊢
    unfold stepN at h ⊢
    split at h
    · simp at h
    · split at h
      · rename_i n k' _ hm
        rw [if_pos hm]
        exact ⟨np n, rfl, rfl, rfl⟩
      · simp at h
  · rw [if_neg (by decide), if_pos rfl] at h ⊢
    unfold stepT at h ⊢
    split at h
    · simp at h
    · split at h
      · rename_i n k' _ hm
        rw [if_pos hm]
        exact ⟨_, rfl, rfl, rfl⟩
      · simp at h
theorem stepKs_shape (s : List UInt8) (ks : List UInt8) (st : St) (hk : ∀ k ∈ ks, k = 110 ∨ k = 116) (h : (stepKs s ks st).2 = true) :
    ∃ m : List Pt, (stepKs s ks st).1.1 = st.1 ++ m ∧ kindsL m = ks ∧ ∀ p ∈ m, normP p = p := by
  induction ks generalizing st with
  | nil => exact ⟨[], by simp [stepKs], rfl, fun p hp => by cases hp⟩
  | cons k ks ih =>
    rw [stepKs] at h ⊢
    by_cases hok : (stepK s k st).2 = true
    · rw [if_pos hok] at h ⊢
      obtain ⟨p, hp1, hp2, hp3⟩ := stepK_shape s k st (hk k (by simp)) hok
      obtain ⟨m, hm1, hm2, hm3⟩ := ih (stepK s k st).1 (fun x hx => hk x (by simp [hx])) h
      refine ⟨p :: m, by rw [hm1, hp1]; simp, by show kindP p :: kindsL m = _; rw [hp2, hm2], fun q hq => ?_⟩
      rcases List.mem_cons.1 hq with rfl | hq
      · exact hp3
      · exact hm3 q hq
    · rw [if_neg hok] at h
      exact absurd h hok
theorem stepTs_shape (s : List UInt8) (j : Nat) (st : St) (h : (stepTs s j st).2 = true) : ∃ ts : List ByteArray, ts.length = j ∧ (stepTs s j st).1.1 = st.1 ++ ts.map tp := by
  induction j generalizing st with
  | zero => exact ⟨[], rfl, by simp [stepTs]⟩
  | succ j ih =>
    rw [stepTs] at h ⊢
    by_cases hok : (stepT s st).2 = true
    · rw [if_pos hok] at h ⊢
      obtain ⟨ts, h1, h2⟩ := ih _ h
      have hx : ∃ x, (stepT s st).1.1 = st.1 ++ [tp x] := by
        unfold stepT at hok ⊢
        split at hok
        · simp at hok
        · split at hok
          · rename_i n k' _ hm
            rw [if_pos hm]
            exact ⟨_, rfl⟩
          · simp at hok
      obtain ⟨x, hx⟩ := hx
      exact ⟨x :: ts, by simp [h1], by rw [h2, hx]; simp⟩
    · rw [if_neg hok] at h
      exact absurd h hok
theorem stepM_shape (s : List UInt8) (st : St) (h : (stepM s st).2 = true) : ∃ ts : List ByteArray, ts.length ≤ 32 ∧ (stepM s st).1.1 = st.1 ++ np ts.length :: ts.map tp := by
  unfold stepM at h ⊢
  by_cases hok : (stepN s 32 st).2 = true
  · rw [if_pos hok] at h ⊢
    obtain ⟨ts, h1, h2⟩ := stepTs_shape s _ _ h
    have hx : (stepN s 32 st).1.1 = st.1 ++ [np (manyAt s st.2)] ∧ manyAt s st.2 ≤ 32 := by
      unfold stepN at hok ⊢
      unfold manyAt
      rcases hah : ahead (s.drop st.2) with _ | ⟨n, k⟩
      · rw [hah] at hok; simp at hok
      · rw [hah] at hok
        simp only at hok ⊢
        by_cases hm : n ≤ 32
        · rw [if_pos hm]; exact ⟨rfl, hm⟩
        · rw [if_neg hm] at hok; simp at hok
    refine ⟨ts, by rw [h1]; exact hx.2, ?_⟩
    rw [h2, hx.1, h1]
    simp
  · rw [if_neg hok] at h
    exact absurd h hok
/-- where bytes are unpacked whole -/
theorem unpackL_ok (s ks : List UInt8) (h : (unpackL s ks).2.2 = 0) : ks.all isKind = true ∧ (stepKs s ks ([], 0)).2 = true ∧ (unpackL s ks).1 = (stepKs s ks ([], 0)).1.1 := by
  unfold unpackL at h ⊢
  split at h
  · rename_i h1
    split at h
    · rename_i h2
      split at h
      · simp at h
      · rename_i h3
        rw [if_pos h1, if_pos h2, if_neg h3]
        exact ⟨h1, h2, rfl⟩
    · simp at h
  · simp at h
theorem unpackL_shape (s ks : List UInt8) (hk : ∀ k ∈ ks, k = 110 ∨ k = 116) (h : (unpackL s ks).2.2 = 0) : kindsL (unpackL s ks).1 = ks ∧ ∀ p ∈ (unpackL s ks).1, normP p = p := by
  obtain ⟨-, h2, h3⟩ := unpackL_ok s ks h
  obtain ⟨m, hm1, hm2, hm3⟩ := stepKs_shape s ks ([], 0) hk h2
  rw [h3, hm1]
  exact ⟨hm2, hm3⟩
theorem kind_n {p : Pt} (h : kindP p = 110) (hn : normP p = p) : p = np p.n := by
  obtain ⟨t, n, s⟩ := p
  cases t
  · exact hn.symm
  · simp [kindP] at h
theorem kind_t {p : Pt} (h : kindP p = 116) (hn : normP p = p) : p = tp p.s := by
  obtain ⟨t, n, s⟩ := p
  cases t
  · simp [kindP] at h
  · exact hn.symm
theorem rowA (l : List Pt) (h : kindsL l = fmA) (hn : ∀ p ∈ l, normP p = p) : l = [np (gN l 0), np (gN l 1), np (gN l 2), np (gN l 3), tp (gS l 4), tp (gS l 5), np (gN l 6), np (gN l 7), tp (gS l 8), np (gN l 9), np (gN l 10), tp (gS l 11)] := by
  have hl : l.length = 12 := by have := congrArg List.length h; simpa [kindsL, fmA] using this
  match l, hl, h, hn with
  | [a0, a1, a2, a3, a4, a5, a6, a7, a8, a9, aA, aB], _, h, hn =>
    simp only [kindsL, fmA, List.map_cons, List.map_nil, List.cons.injEq, and_true] at h
    obtain ⟨h0, h1, h2, h3, h4, h5, h6, h7, h8, h9, hA, hB⟩ := h
    rw [kind_n h0 (hn _ (by simp)), kind_n h1 (hn _ (by simp)), kind_n h2 (hn _ (by simp)), kind_n h3 (hn _ (by simp)), kind_t h4 (hn _ (by simp)), kind_t h5 (hn _ (by simp)), kind_n h6 (hn _ (by simp)), kind_n h7 (hn _ (by simp)), kind_t h8 (hn _ (by simp)), kind_n h9 (hn _ (by simp)), kind_n hA (hn _ (by simp)), kind_t hB (hn _ (by simp))]
    rfl
theorem rowB (l : List Pt) (h : kindsL l = fmB) (hn : ∀ p ∈ l, normP p = p) : l = [np (gN l 0), np (gN l 1), np (gN l 2), np (gN l 3), tp (gS l 4), np (gN l 5), np (gN l 6), tp (gS l 7)] := by
  have hl : l.length = 8 := by have := congrArg List.length h; simpa [kindsL, fmB] using this
  match l, hl, h, hn with
  | [a0, a1, a2, a3, a4, a5, a6, a7], _, h, hn =>
    simp only [kindsL, fmB, List.map_cons, List.map_nil, List.cons.injEq, and_true] at h
    obtain ⟨h0, h1, h2, h3, h4, h5, h6, h7⟩ := h
    rw [kind_n h0 (hn _ (by simp)), kind_n h1 (hn _ (by simp)), kind_n h2 (hn _ (by simp)), kind_n h3 (hn _ (by simp)), kind_t h4 (hn _ (by simp)), kind_n h5 (hn _ (by simp)), kind_n h6 (hn _ (by simp)), kind_t h7 (hn _ (by simp))]
    rfl
theorem fmA_nt : ∀ k ∈ fmA, k = 110 ∨ k = 116 := by decide
theorem fmB_nt : ∀ k ∈ fmB, k = 110 ∨ k = 116 := by decide
theorem rowC (s : List UInt8) (h : (unpackL s fmC).2.2 = 0) : ∃ ts : List ByteArray, ts.length ≤ 32 ∧ (unpackL s fmC).1 = [np (gN (unpackL s fmC).1 0), np (gN (unpackL s fmC).1 1), np (gN (unpackL s fmC).1 2), np (gN (unpackL s fmC).1 3), np ts.length] ++ ts.map tp := by
  obtain ⟨-, h2, h3⟩ := unpackL_ok s fmC h
  replace h2 : (stepKs s ([110, 110, 110, 110] ++ [42]) ([], 0)).2 = true := h2
  replace h3 : (unpackL s fmC).1 = (stepKs s ([110, 110, 110, 110] ++ [42]) ([], 0)).1.1 := h3
  rw [stepKs_append] at h2 h3
  by_cases hok : (stepKs s [110, 110, 110, 110] ([], 0)).2 = true
  · rw [if_pos hok] at h2 h3
    obtain ⟨m, hm1, hm2, hm3⟩ := stepKs_shape s [110, 110, 110, 110] ([], 0) (by decide) hok
    have hone : ∀ st, stepKs s [42] st = if (stepM s st).2 then ((stepM s st).1, true) else stepM s st := fun st => by
      rw [stepKs, stepKs]
      show (if (stepK s 42 st).2 = true then ((stepK s 42 st).1, true) else stepK s 42 st) = _
      rfl
    rw [hone] at h2 h3
    by_cases hM : (stepM s (stepKs s [110, 110, 110, 110] ([], 0)).1).2 = true
    · rw [if_pos hM] at h3
      obtain ⟨ts, ht1, ht2⟩ := stepM_shape s _ hM
      simp only at h3
      rw [ht2, hm1, List.nil_append] at h3
      have hl : m.length = 4 := by have := congrArg List.length hm2; simpa [kindsL] using this
      match m, hl, hm2, hm3 with
      | [a0, a1, a2, a3], _, hm2, hm3 =>
        simp only [kindsL, List.map_cons, List.map_nil, List.cons.injEq, and_true] at hm2
        obtain ⟨k0, k1, k2, k3⟩ := hm2
        rw [kind_n k0 (hm3 _ (by simp)), kind_n k1 (hm3 _ (by simp)), kind_n k2 (hm3 _ (by simp)), kind_n k3 (hm3 _ (by simp))] at h3
        refine ⟨ts, ht1, ?_⟩
        rw [h3]
        rfl
    · rw [if_neg hM] at h2
      exact absurd h2 hM
  · rw [if_neg hok] at h2
    exact absurd h2 hok
end Go.Proofs.YtollaaooinoafaaDoor

/- What is put is got as it was; what is got, put, is those bytes. -/
namespace Go.Proofs.YtollaaooinoafaaDoor
set_option maxRecDepth 100000
theorem packL_cons (p : Pt) (l : List Pt) : packL (p :: l) = partB p ++ packL l := by unfold packL; rw [List.flatMap_cons]
theorem ahead_np (n : Nat) (l : List Pt) (h : n < 18446744073709551616) : ahead (packL (np n :: l)) = some (n, (numB n).length) := by
  rw [packL_cons]; exact ahead_numB n (packL l) h
theorem first_of (s ks : List UInt8) (h : (unpackL s ks).2.2 = 0) (l : List Pt) (hl : (unpackL s ks).1 = np (gN (unpackL s ks).1 0) :: l) : ahead s = some (gN (unpackL s ks).1 0, (numB (gN (unpackL s ks).1 0)).length) := by
  obtain ⟨hp, -, -, hn⟩ := unpackL_packs s ks h
  have h0 : gN (unpackL s ks).1 0 < 18446744073709551616 := by
    have := hn (np (gN (unpackL s ks).1 0)) (by rw [hl]; simp [gN, np])
    exact this
  have e := ahead_np (gN (unpackL s ks).1 0) l h0
  rw [← hl, hp] at e
  exact e
theorem hit_C (s : List UInt8) (h : hitU s fmC 2 = true) : ahead s = some (2, (numB 2).length) := by
  unfold hitU at h
  simp only [Bool.and_eq_true, decide_eq_true_eq] at h
  obtain ⟨ts, -, e⟩ := rowC s h.1
  have := first_of s fmC h.1 _ e
  rw [h.2] at this
  exact this
theorem hit_B (s : List UInt8) (h : hitU s fmB 1 = true) : ahead s = some (1, (numB 1).length) := by
  unfold hitU at h
  simp only [Bool.and_eq_true, decide_eq_true_eq] at h
  obtain ⟨h1, h2⟩ := unpackL_shape s fmB fmB_nt h.1
  have := first_of s fmB h.1 _ (rowB _ h1 h2)
  rw [h.2] at this
  exact this
theorem hit_A (s : List UInt8) (h : hitU s fmA 0 = true) : ahead s = some (0, (numB 0).length) := by
  unfold hitU at h
  simp only [Bool.and_eq_true, decide_eq_true_eq] at h
  obtain ⟨h1, h2⟩ := unpackL_shape s fmA fmA_nt h.1
  have := first_of s fmA h.1 _ (rowA _ h1 h2)
  rw [h.2] at this
  exact this
theorem not_C (s : List UInt8) (n k : Nat) (h : ahead s = some (n, k)) (hn : n ≠ 2) : hitU s fmC 2 = false := by
  rw [Bool.eq_false_iff]; intro e; rw [hit_C s e] at h; simp at h; exact hn h.1.symm
theorem not_B (s : List UInt8) (n k : Nat) (h : ahead s = some (n, k)) (hn : n ≠ 1) : hitU s fmB 1 = false := by
  rw [Bool.eq_false_iff]; intro e; rw [hit_B s e] at h; simp at h; exact hn h.1.symm
theorem rA {f : Fr} (h0 : f.kind = 0) (h : rightF f = true) : f.ident.size = 32 ∧ f.base.size = 32 ∧ f.ratchet.size = 32 ∧ f.body.size ≤ 1024 ∧ f.keys = [] := by
  unfold rightF at h
  rw [if_pos h0] at h
  simp only [Bool.and_eq_true, decide_eq_true_eq] at h
  exact ⟨h.1.1.1.1, h.1.1.1.2, h.1.1.2, h.1.2, List.eq_nil_of_length_eq_zero h.2⟩
theorem size_no (x : ByteArray) (h : x.size = 0) : x = ⟨#[]⟩ := ByteArray.ext (Array.eq_empty_of_size_eq_zero h)
theorem rB {f : Fr} (h0 : f.kind = 1) (h : rightF f = true) : f.ident = ⟨#[]⟩ ∧ f.base = ⟨#[]⟩ ∧ f.signed = 0 ∧ f.once = 0 ∧ f.ratchet.size = 32 ∧ f.body.size ≤ 1024 ∧ f.keys = [] := by
  unfold rightF at h
  rw [if_neg (by omega)] at h
  split at h
  · rename_i h1
    simp only [Bool.and_eq_true, decide_eq_true_eq] at h
    exact ⟨size_no _ h1.1, size_no _ h1.2.1, h1.2.2.1, h1.2.2.2, h.1.1, h.1.2, List.eq_nil_of_length_eq_zero h.2⟩
  · simp at h
theorem rC {f : Fr} (h0 : f.kind = 2) (h : rightF f = true) : f.ident = ⟨#[]⟩ ∧ f.base = ⟨#[]⟩ ∧ f.signed = 0 ∧ f.once = 0 ∧ f.ratchet = ⟨#[]⟩ ∧ f.prev = 0 ∧ f.num = 0 ∧ f.body = ⟨#[]⟩ ∧ (∀ k ∈ f.keys, k.size = 32) ∧ f.keys.length ≤ 32 := by
  unfold rightF at h
  rw [if_neg (by omega)] at h
  split at h
  · rename_i h1
    rw [if_neg (by omega)] at h
    simp only [Bool.and_eq_true, decide_eq_true_eq] at h
    obtain ⟨⟨⟨⟨⟨⟨-, h2⟩, h3⟩, h4⟩, h5⟩, h6⟩, h7⟩ := h
    exact ⟨size_no _ h1.1, size_no _ h1.2.1, h1.2.2.1, h1.2.2.2, size_no _ h2, h4, h5, size_no _ h3, fun k hk => by simpa using List.all_eq_true.1 h6 k hk, h7⟩
  · simp at h
theorem right_kind {f : Fr} (h : rightF f = true) : f.kind = 0 ∨ f.kind = 1 ∨ f.kind = 2 := by
  unfold rightF at h
  split at h
  · exact Or.inl (by assumption)
  · split at h
    · split at h
      · exact Or.inr (Or.inl (by assumption))
      · simp only [Bool.and_eq_true, decide_eq_true_eq] at h
        exact Or.inr (Or.inr h.1.1.1.1.1.1)
    · simp at h
theorem allP_A {f : Fr} (h : f.kind = 0) : allP f = [np 0, np f.frm, np f.dst, np f.id, tp f.ident, tp f.base, np f.signed, np f.once, tp f.ratchet, np f.prev, np f.num, tp f.body] := by
  unfold allP headP; rw [h]; rfl
theorem allP_B {f : Fr} (h : f.kind = 1) : allP f = [np 1, np f.frm, np f.dst, np f.id, tp f.ratchet, np f.prev, np f.num, tp f.body] := by
  unfold allP headP; rw [h]; rfl
theorem allP_C {f : Fr} (h : f.kind = 2) : allP f = [np 2, np f.frm, np f.dst, np f.id] ++ np f.keys.length :: f.keys.map tp := by
  unfold allP headP; rw [h]; rfl
theorem long_np (n : Nat) : longP (np n) = false := rfl
theorem long_tp (s : ByteArray) (h : s.size ≤ 1024) : longP (tp s) = false := by
  show (true && decide (1024 < s.size)) = false; rw [decide_eq_false (by omega)]; rfl
theorem unpA {f : Fr} (h : f.kind = 0) (hr : rightF f = true) (ho : FrOk f) : unpackL (putF f) fmA = (allP f, 0, 0) := by
  obtain ⟨h1, h2, h3, h4, h5⟩ := rA h hr
  unfold putF
  rw [allP_A h]
  have e := unpackL_packed [np 0, np f.frm, np f.dst, np f.id, tp f.ident, tp f.base, np f.signed, np f.once, tp f.ratchet, np f.prev, np f.num, tp f.body]
    (by have := ho.frm; have := ho.dst; have := ho.id; have := ho.signed; have := ho.once; have := ho.prev; have := ho.num; simp [np, tp, *])
    (by simp [longL, long_np, long_tp f.ident (by omega), long_tp f.base (by omega), long_tp f.ratchet (by omega), long_tp f.body h4])
  exact e
theorem unpB {f : Fr} (h : f.kind = 1) (hr : rightF f = true) (ho : FrOk f) : unpackL (putF f) fmB = (allP f, 0, 0) := by
  obtain ⟨-, -, -, -, h3, h4, h5⟩ := rB h hr
  unfold putF
  rw [allP_B h]
  have e := unpackL_packed [np 1, np f.frm, np f.dst, np f.id, tp f.ratchet, np f.prev, np f.num, tp f.body]
    (by have := ho.frm; have := ho.dst; have := ho.id; have := ho.prev; have := ho.num; simp [np, tp, *])
    (by simp [longL, long_np, long_tp f.ratchet (by omega), long_tp f.body h4])
  exact e
theorem unpC {f : Fr} (h : f.kind = 2) (hr : rightF f = true) (ho : FrOk f) : unpackL (putF f) fmC = (allP f, 0, 0) := by
  obtain ⟨-, -, -, -, -, -, -, -, h6, h7⟩ := rC h hr
  unfold putF
  rw [allP_C h, packL_append]
  have h1 := stepKs_parts [np 2, np f.frm, np f.dst, np f.id] [] (packL (np f.keys.length :: f.keys.map tp)) []
    (by have := ho.frm; have := ho.dst; have := ho.id; simp [np, *]) (by simp [longL, long_np])
  have h2 := stepM_parts f.keys (packL [np 2, np f.frm, np f.dst, np f.id]) [] [np 2, np f.frm, np f.dst, np f.id] (fun t ht => by rw [h6 t ht]; omega) h7
  rw [List.append_nil] at h2
  have e1 : stepKs (packL [np 2, np f.frm, np f.dst, np f.id] ++ packL (np f.keys.length :: f.keys.map tp)) [110, 110, 110, 110] ([], 0) = (([np 2, np f.frm, np f.dst, np f.id], (packL [np 2, np f.frm, np f.dst, np f.id]).length), true) := by
    have e : kindsL [np 2, np f.frm, np f.dst, np f.id] = [110, 110, 110, 110] := rfl
    rw [← e]
    simpa [normP_np] using h1
  have e2 : stepKs (packL [np 2, np f.frm, np f.dst, np f.id] ++ packL (np f.keys.length :: f.keys.map tp)) fmC ([], 0) = (([np 2, np f.frm, np f.dst, np f.id] ++ np f.keys.length :: f.keys.map tp, (packL [np 2, np f.frm, np f.dst, np f.id]).length + (packL (np f.keys.length :: f.keys.map tp)).length), true) := by
    show stepKs _ ([110, 110, 110, 110] ++ [42]) ([], 0) = _
    rw [stepKs_append, e1, if_pos rfl, stepKs]
    show (if (stepM _ _).2 = true then stepKs _ [] (stepM _ _).1 else stepM _ _) = _
    rw [h2]
    rfl
  unfold unpackL
  rw [if_pos (by rfl), e2, if_pos rfl, if_neg (by simp)]
theorem mkA {f : Fr} (h : f.kind = 0) (hr : rightF f = true) : helloA (allP f) = f := by
  obtain ⟨-, -, -, -, h5⟩ := rA h hr
  rw [allP_A h]
  obtain ⟨kd, fm, dt, fi, it, bs, sg, oc, rt, pv, nm, bd, ks⟩ := f
  subst h h5
  rfl
theorem mkB {f : Fr} (h : f.kind = 1) (hr : rightF f = true) : helloB (allP f) = f := by
  obtain ⟨h1, h2, h3, h4, -, -, h5⟩ := rB h hr
  rw [allP_B h]
  obtain ⟨kd, fm, dt, fi, it, bs, sg, oc, rt, pv, nm, bd, ks⟩ := f
  subst h h1 h2 h3 h4 h5
  rfl
theorem mkC {f : Fr} (h : f.kind = 2) (hr : rightF f = true) : revealC (allP f) = f := by
  obtain ⟨h1, h2, h3, h4, h5, h6, h7, h8, -, -⟩ := rC h hr
  rw [allP_C h]
  obtain ⟨kd, fm, dt, fi, it, bs, sg, oc, rt, pv, nm, bd, ks⟩ := f
  subst h h1 h2 h3 h4 h5 h6 h7 h8
  have e : (ks.map tp).map (·.s) = ks := by rw [List.map_map]; exact List.map_id'' (fun _ => rfl) ks
  show (⟨2, fm, dt, fi, ⟨#[]⟩, ⟨#[]⟩, 0, 0, ⟨#[]⟩, 0, 0, ⟨#[]⟩, (ks.map tp).map (·.s)⟩ : Fr) = _
  rw [e]
/-- what is put is got as it was -/
theorem getF_put {f : Fr} (hr : rightF f = true) (ho : FrOk f) : getF (putF f) = some f := by
  rcases right_kind hr with h | h | h
  · have ha : ahead (putF f) = some (0, (numB 0).length) := by unfold putF; rw [allP_A h]; exact ahead_np 0 _ (by omega)
    have hh : hitU (putF f) fmA 0 = true := by unfold hitU; rw [unpA h hr ho, allP_A h]; rfl
    unfold getF
    rw [not_C _ _ _ ha (by omega), not_B _ _ _ ha (by omega), hh, unpA h hr ho]
    simp only [Bool.false_eq_true, if_false, if_true]
    rw [mkA h hr, if_pos hr]
  · have ha : ahead (putF f) = some (1, (numB 1).length) := by unfold putF; rw [allP_B h]; exact ahead_np 1 _ (by omega)
    have hh : hitU (putF f) fmB 1 = true := by unfold hitU; rw [unpB h hr ho, allP_B h]; rfl
    unfold getF
    rw [not_C _ _ _ ha (by omega), hh, unpB h hr ho]
    simp only [Bool.false_eq_true, if_false, if_true]
    rw [mkB h hr, if_pos hr]
  · have hh : hitU (putF f) fmC 2 = true := by unfold hitU; rw [unpC h hr ho, allP_C h]; rfl
    unfold getF
    rw [hh, unpC h hr ho]
    simp only [if_true]
    rw [mkC h hr, if_pos hr]
theorem putF_inj {f g : Fr} (hf : rightF f = true) (hg : rightF g = true) (of : FrOk f) (og : FrOk g) (h : putF f = putF g) : f = g := by
  have a := getF_put hf of
  rw [h, getF_put hg og] at a
  exact (Option.some.inj a).symm
theorem gN_lt (l : List Pt) (h : ∀ p ∈ l, p.n < 18446744073709551616) (i : Nat) : gN l i < 18446744073709551616 := by
  unfold gN
  by_cases hi : i < l.length
  · have e : l.getD i ⟨false, 0, ⟨#[]⟩⟩ = l[i] := by simp [List.getD, hi]
    rw [e]; exact h _ (List.getElem_mem hi)
  · have e : l.getD i ⟨false, 0, ⟨#[]⟩⟩ = ⟨false, 0, ⟨#[]⟩⟩ := by simp [List.getD, hi]
    rw [e]; show 0 < _; omega
theorem getF_of (s : List UInt8) (f : Fr) (h : getF s = some f) :
    (hitU s fmC 2 = true ∧ f = revealC (unpackL s fmC).1 ∧ rightF f = true) ∨ (hitU s fmB 1 = true ∧ f = helloB (unpackL s fmB).1 ∧ rightF f = true) ∨ (hitU s fmA 0 = true ∧ f = helloA (unpackL s fmA).1 ∧ rightF f = true) := by
  unfold getF at h
  split at h
  · rename_i h0
    split at h
    · rename_i h1
      have e := Option.some.inj h
      exact Or.inl ⟨h0, e.symm, by rw [← e]; exact h1⟩
    · simp at h
  · split at h
    · rename_i h0
      split at h
      · rename_i h1
        have e := Option.some.inj h
        exact Or.inr (Or.inl ⟨h0, e.symm, by rw [← e]; exact h1⟩)
      · simp at h
    · split at h
      · rename_i h0
        split at h
        · rename_i h1
          have e := Option.some.inj h
          exact Or.inr (Or.inr ⟨h0, e.symm, by rw [← e]; exact h1⟩)
        · simp at h
      · simp at h
/-- what is got may be, and, put, is those bytes -/
theorem putF_get (s : List UInt8) (f : Fr) (h : getF s = some f) : rightF f = true ∧ FrOk f ∧ putF f = s := by
  rcases getF_of s f h with ⟨h0, e, hr⟩ | ⟨h0, e, hr⟩ | ⟨h0, e, hr⟩
  all_goals
    refine ⟨hr, ?_⟩
    unfold hitU at h0
    simp only [Bool.and_eq_true, decide_eq_true_eq] at h0
    obtain ⟨hp, -, -, hn⟩ := unpackL_packs s _ h0.1
    have g := gN_lt _ hn
  · obtain ⟨ts, -, et⟩ := rowC s h0.1
    refine ⟨by rw [e]; exact ⟨g 1, g 2, g 3, by show 0 < _; omega, by show 0 < _; omega, by show 0 < _; omega, by show 0 < _; omega⟩, ?_⟩
    have ek : f.keys = ts := by
      rw [e]; show ((unpackL s fmC).1.drop 5).map (·.s) = ts
      rw [et]
      show (ts.map tp).map (·.s) = ts
      rw [List.map_map]; exact List.map_id'' (fun _ => rfl) ts
    unfold putF
    rw [allP_C (by rw [e]; rfl), ek]
    rw [h0.2] at et
    have : allP f = (unpackL s fmC).1 := by rw [allP_C (by rw [e]; rfl), ek, et, e]; simp [revealC]
    rw [← hp, et, e]
    rfl
  · obtain ⟨h1, h2⟩ := unpackL_shape s fmB fmB_nt h0.1
    have et := rowB _ h1 h2
    refine ⟨by rw [e]; exact ⟨g 1, g 2, g 3, by show 0 < _; omega, by show 0 < _; omega, g 5, g 6⟩, ?_⟩
    unfold putF
    rw [allP_B (by rw [e]; rfl), e]
    rw [h0.2] at et
    show packL [np 1, np (gN _ 1), np (gN _ 2), np (gN _ 3), tp (gS _ 4), np (gN _ 5), np (gN _ 6), tp (gS _ 7)] = s
    rw [← et]
    exact hp
  · obtain ⟨h1, h2⟩ := unpackL_shape s fmA fmA_nt h0.1
    have et := rowA _ h1 h2
    refine ⟨by rw [e]; exact ⟨g 1, g 2, g 3, g 6, g 7, g 9, g 10⟩, ?_⟩
    unfold putF
    rw [allP_A (by rw [e]; rfl), e]
    rw [h0.2] at et
    show packL [np 0, np (gN _ 1), np (gN _ 2), np (gN _ 3), tp (gS _ 4), tp (gS _ 5), np (gN _ 6), np (gN _ 7), tp (gS _ 8), np (gN _ 9), np (gN _ 10), tp (gS _ 11)] = s
    rw [← et]
    exact hp
theorem head_take (f : Fr) : (headF f).length ≤ (putF f).length ∧ (putF f).take (headF f).length = headF f := by
  unfold putF allP headF
  rw [packL_append]
  exact ⟨by simp, List.take_left ..⟩
end Go.Proofs.YtollaaooinoafaaDoor
