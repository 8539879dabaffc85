/- Pairs of a key and a point: their points one behind the other, in plain mathematics; a slice of pairs in memory. -/
import Derived.Test.YtnfhfibbaeiglaaDoorWa
namespace Go.Proofs.YtnfhfibbaeiglaaDoor
open Go.RowKit
set_option maxRecDepth 100000

theorem str_nilH (x : ByteArray) : (x.toList == []) = decide (x.size = 0) := by
  rw [Lib.toList_data, Bool.eq_iff_iff, beq_iff_eq, decide_eq_true_iff]
  show x.data.toList = [] ↔ x.data.size = 0
  rw [← Array.length_toList, List.length_eq_zero_iff]
theorem size_nilH (x : ByteArray) (h : x.size = 0) : x = ⟨#[]⟩ := by
  obtain ⟨d⟩ := x
  have : d = #[] := Array.eq_empty_of_size_eq_zero h
  rw [this]
/-- a text's first bytes (as XKa's cutS, which the pruned base lacked) -/
def cutH (x : ByteArray) (k : Nat) : ByteArray := strL ((bl x).take k)
theorem cutH_min (x : ByteArray) (k : Nat) : x.extract 0 (min (x.size : Int) (k : Int)).toNat = cutH x k := by
  apply bl_inj
  unfold cutH
  rw [bl_strL, bl_extract, List.drop_zero]
  by_cases h : x.size ≤ k
  · rw [show (min (x.size : Int) (k : Int)).toNat = x.size by omega, List.take_of_length_le (by rw [bl_length]; exact Nat.le_refl _), List.take_of_length_le (by rw [bl_length]; exact h)]
  · rw [show (min (x.size : Int) (k : Int)).toNat = k by omega]
abbrev Pr2 := ByteArray × ByteArray
def pr0 : Pr2 := (⟨#[]⟩, ⟨#[]⟩)
/-- a pair of a key and a point -/
def okP (p : Pr2) : Prop := p.1.size = 32 ∧ p.2.size = 32
instance (p : Pr2) : Decidable (okP p) := by unfold okP; exact inferInstance
def okL (l : List Pr2) : Prop := ∀ i, i < l.length → okP (l.getD i pr0)
/-- each pair's point times its key, one behind the other -/
def joinF (l : List Pr2) : ByteArray := l.foldl (fun a p => a ++ pt p.1 p.2) ⟨#[]⟩
theorem joinF_snoc (l : List Pr2) (p : Pr2) : joinF (l ++ [p]) = joinF l ++ pt p.1 p.2 := by unfold joinF; rw [List.foldl_append]; rfl
theorem joinF_take (l : List Pr2) (k : Nat) (h : k < l.length) : joinF (l.take (k + 1)) = joinF (l.take k) ++ pt (l.getD k pr0).1 (l.getD k pr0).2 := by
  rw [List.take_succ_eq_append_getElem h, joinF_snoc]
  simp [List.getD, h]
theorem joinF_size (l : List Pr2) : (joinF l).size = l.length * 32 := by
  have h : ∀ (l : List Pr2) (a : ByteArray), (l.foldl (fun a p => a ++ pt p.1 p.2) a).size = a.size + l.length * 32 := by
    intro l
    induction l with
    | nil => intro a; simp
    | cons p l ih => intro a; rw [List.foldl_cons, ih, ByteArray.size_append, pt_size, List.length_cons]; omega
  have := h l ⟨#[]⟩
  rw [show (⟨#[]⟩ : ByteArray).size = 0 from rfl, Nat.zero_add] at this
  exact this
/-- the pairs of who begins -/
def prsI (i b p s o : ByteArray) : List Pr2 := [(i, s), (b, p), (b, s)] ++ (if o.size = 0 then [] else [(b, o)])
/-- the pairs of who is asked -/
def prsR (i s o p b : ByteArray) : List Pr2 := [(s, p), (i, b), (s, b)] ++ (if o.size = 0 then [] else [(o, b)])
theorem emp_app (x : ByteArray) : (⟨#[]⟩ : ByteArray) ++ x = x := by
  apply bl_inj
  rw [bl_append]; rfl
theorem app_emp (x : ByteArray) : x ++ (⟨#[]⟩ : ByteArray) = x := by
  apply bl_inj
  rw [bl_append]
  show bl x ++ [] = bl x
  rw [List.append_nil]
theorem join_prsI (i b p s o : ByteArray) : joinF (prsI i b p s o) = ptsI i b p s o := by
  unfold prsI ptsI
  by_cases h : o.size = 0
  · rw [if_pos h, if_pos h, List.append_nil, app_emp]
    show ((⟨#[]⟩ ++ pt i s) ++ pt b p) ++ pt b s = _
    rw [emp_app]
  · rw [if_neg h, if_neg h, joinF_snoc]
    show (((⟨#[]⟩ ++ pt i s) ++ pt b p) ++ pt b s) ++ pt b o = _
    rw [emp_app]
theorem join_prsR (i s o p b : ByteArray) : joinF (prsR i s o p b) = ptsR i s o p b := by
  unfold prsR ptsR
  by_cases h : o.size = 0
  · rw [if_pos h, if_pos h, List.append_nil, app_emp]
    show ((⟨#[]⟩ ++ pt s p) ++ pt i b) ++ pt s b = _
    rw [emp_app]
  · rw [if_neg h, if_neg h, joinF_snoc]
    show (((⟨#[]⟩ ++ pt s p) ++ pt i b) ++ pt s b) ++ pt o b = _
    rw [emp_app]
/-- four keys and points, and a one-time one -/
def mayH (a b c d o : ByteArray) : Prop := a.size = 32 ∧ b.size = 32 ∧ c.size = 32 ∧ d.size = 32 ∧ (o.size = 0 ∨ o.size = 32)
instance (a b c d o : ByteArray) : Decidable (mayH a b c d o) := by unfold mayH; exact inferInstance
theorem okL_cons (p : Pr2) (l : List Pr2) : okL (p :: l) ↔ okP p ∧ okL l := by
  unfold okL
  constructor
  · intro h
    exact ⟨h 0 (by simp), fun i hi => h (i + 1) (by simpa using hi)⟩
  · rintro ⟨h1, h2⟩ i hi
    rcases i with _ | i
    · exact h1
    · exact h2 i (by simpa using hi)
theorem okL_nil : okL [] := fun i hi => absurd hi (Nat.not_lt_zero i)
theorem okL_prsI (i b p s o : ByteArray) : okL (prsI i b p s o) ↔ mayH i b p s o := by
  unfold prsI mayH
  by_cases h : o.size = 0
  · rw [if_pos h, List.append_nil, okL_cons, okL_cons, okL_cons]
    unfold okP
    constructor
    · rintro ⟨⟨h1, h2⟩, ⟨h3, h4⟩, ⟨h5, h6⟩, -⟩; exact ⟨h1, h3, h4, h2, Or.inl h⟩
    · rintro ⟨h1, h2, h3, h4, -⟩; exact ⟨⟨h1, h4⟩, ⟨h2, h3⟩, ⟨h2, h4⟩, okL_nil⟩
  · rw [if_neg h]
    show okL [(i, s), (b, p), (b, s), (b, o)] ↔ _
    rw [okL_cons, okL_cons, okL_cons, okL_cons]
    unfold okP
    constructor
    · rintro ⟨⟨h1, h2⟩, ⟨h3, h4⟩, ⟨h5, h6⟩, ⟨h7, h8⟩, -⟩; exact ⟨h1, h3, h4, h2, Or.inr h8⟩
    · rintro ⟨h1, h2, h3, h4, h5⟩
      have h6 : o.size = 32 := h5.resolve_left h
      exact ⟨⟨h1, h4⟩, ⟨h2, h3⟩, ⟨h2, h4⟩, ⟨h2, h6⟩, okL_nil⟩
theorem okL_prsR (i s o p b : ByteArray) : okL (prsR i s o p b) ↔ mayH i b p s o := by
  unfold prsR mayH
  by_cases h : o.size = 0
  · rw [if_pos h, List.append_nil, okL_cons, okL_cons, okL_cons]
    unfold okP
    constructor
    · rintro ⟨⟨h1, h2⟩, ⟨h3, h4⟩, ⟨h5, h6⟩, -⟩; exact ⟨h3, h4, h2, h1, Or.inl h⟩
    · rintro ⟨h1, h2, h3, h4, -⟩; exact ⟨⟨h4, h3⟩, ⟨h1, h2⟩, ⟨h4, h2⟩, okL_nil⟩
  · rw [if_neg h]
    show okL [(s, p), (i, b), (s, b), (o, b)] ↔ _
    rw [okL_cons, okL_cons, okL_cons, okL_cons]
    unfold okP
    constructor
    · rintro ⟨⟨h1, h2⟩, ⟨h3, h4⟩, ⟨h5, h6⟩, ⟨h7, h8⟩, -⟩; exact ⟨h3, h4, h2, h1, Or.inr h7⟩
    · rintro ⟨h1, h2, h3, h4, h5⟩
      have h6 : o.size = 32 := h5.resolve_left h
      exact ⟨⟨h4, h3⟩, ⟨h1, h2⟩, ⟨h4, h2⟩, ⟨h6, h2⟩, okL_nil⟩
theorem prsI_len (i b p s o : ByteArray) : (prsI i b p s o).length ≤ 4 := by unfold prsI; split <;> simp
theorem prsR_len (i s o p b : ByteArray) : (prsR i s o p b).length ≤ 4 := by unfold prsR; split <;> simp
/-- two cells that are a pair -/
structure PrAt (w : World) (b o : Nat) (p : Pr2) : Prop where
  c0 : w.cell? ⟨b, o, none⟩ = some (.string p.1)
  c1 : w.cell? ⟨b, o + 1, none⟩ = some (.string p.2)
theorem PrAt.on {w w' : World} {b o : Nat} {p : Pr2} (h : PrAt w b o p) (hb : Below w.heap.size w w') : PrAt w' b o p := by
  have hlt := World.block_lt_of_cell? w _ h.c0
  exact ⟨by rw [hb.cell (p := ⟨b, o, none⟩) hlt]; exact h.c0, by rw [hb.cell (p := ⟨b, o + 1, none⟩) hlt]; exact h.c1⟩
/-- a slice of pairs, nil or not, that reads as l -/
def PrL (w : World) (a : Option Addr) (l : List Pr2) : Prop :=
  0 < l.length → ∃ b off : Nat, a = some ⟨b, off, none⟩ ∧ b < w.heap.size ∧ ∀ i, i < l.length → PrAt w b (off + i * 2) (l.getD i pr0)
theorem PrL.on {w w' : World} {a : Option Addr} {l : List Pr2} (h : PrL w a l) (hb : Below w.heap.size w w') : PrL w' a l := by
  intro h0
  obtain ⟨b, off, ha, hlt, hc⟩ := h h0
  exact ⟨b, off, ha, Nat.lt_of_lt_of_le hlt hb.size, fun i hi => (hc i hi).on hb⟩
/-- the package variables that a secret is told by -/
structure TriAt (w : World) : Prop where
  f : FirstAt w
  k : KeysAt w
  p : PrimeAt w
theorem TriAt.on {w w' : World} (h : TriAt w) (hb : Below w.heap.size w w') : TriAt w' := ⟨h.f.on hb, h.k.on hb, h.p.below hb h.p.lt⟩
end Go.Proofs.YtnfhfibbaeiglaaDoor
