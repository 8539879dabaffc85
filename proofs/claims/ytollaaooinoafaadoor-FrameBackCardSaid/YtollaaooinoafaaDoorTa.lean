/- Rows of a frame's fields in plain mathematics: what the package looks at is what the document asks. -/
import Derived.Test.YtollaaooinoafaaDoorSz
import Derived.Test.YtollaaooinoafaaDoorPd
namespace Go.Proofs.YtollaaooinoafaaDoor
set_option maxRecDepth 100000
instance : DecidableEq Pt := fun p q => decidable_of_iff (p.text = q.text ∧ p.n = q.n ∧ p.s = q.s) (by cases p; cases q; simp)
/-- by kind, the fields in the order of the bytes -/
def fmtL : Nat → List Nat
  | 0 => [0, 1, 2, 3, 4, 5, 6, 7, 8, 9, 10, 11]
  | 1 => [0, 1, 2, 3, 8, 9, 10, 11]
  | _ => [0, 1, 2, 3, 12]
/-- a frame's fields as parts -/
def rowL (f : Fr) : List Pt := [np (f.kind % 18446744073709551616).toNat, np f.frm, np f.dst, np f.id, tp f.ident, tp f.base, np f.signed, np f.once, tp f.ratchet, np f.prev, np f.num, tp f.body, np f.keys.length]
def noneL : List Pt := [np 0, np 0, np 0, np 0, tp ⟨#[]⟩, tp ⟨#[]⟩, np 0, np 0, tp ⟨#[]⟩, np 0, np 0, tp ⟨#[]⟩, np 0]
def fitsW (w : Nat) (p : Pt) : Bool :=
  if w = 4 ∨ w = 5 ∨ w = 8 then decide (p.s.size = 32) else if w = 11 then decide (p.s.size ≤ 1024) else if w = 12 then decide (p.n ≤ 32) else true
/-- what is left of a row, where all of its fields fit -/
def leftW : List Pt → List Nat → Option (List Pt)
  | l, [] => some l
  | l, w :: ws => if fitsW w (l.getD w p0) = true then leftW (l.set w (noneL.getD w p0)) ws else none
def keysB (l : List ByteArray) : Bool := l.all fun x => decide (x.size = 32)
theorem fmt_lt (k w : Nat) (h : w ∈ fmtL k) : w < 13 := by
  unfold fmtL at h
  split at h <;> simp at h <;> omega
theorem fmt_get (k i : Nat) (h : i < (fmtL k).length) : (fmtL k).getD i 0 < 13 := by
  have e : (fmtL k).getD i 0 = (fmtL k)[i] := by simp [List.getD, h]
  rw [e]; exact fmt_lt k _ (List.getElem_mem h)
theorem fmt_len (k : Nat) : 5 ≤ (fmtL k).length ∧ (fmtL k).length ≤ 12 := by
  unfold fmtL; split <;> decide
theorem np_inj (a b : Nat) : (np a = np b) = (a = b) := by
  unfold np; simp
theorem tp_none (s : ByteArray) : (tp s = tp ⟨#[]⟩) = (s.size = 0) := by
  unfold tp
  simp only [Pt.mk.injEq, true_and]
  apply propext
  constructor
  · rintro rfl; rfl
  · exact size_no s
theorem keysB_nil (l : List ByteArray) (h : l.length = 0) : keysB l = true := by
  rw [List.eq_nil_of_length_eq_zero h]; rfl
def rightP (k : Nat) (f : Fr) : Bool :=
  match leftW (rowL f) (fmtL k) with
  | none => false
  | some l => decide (l = noneL) && keysB f.keys
theorem right_0 (f : Fr) (h : f.kind = 0) : rightP 0 f = rightF f := by
  obtain ⟨kd, fm, dt, fi, it, bs, sg, oc, rt, pv, nm, bd, ks⟩ := f
  simp only at h
  subst h
  simp only [rightP, leftW, fmtL, rowL, noneL, fitsW, List.getD_cons_zero, List.getD_cons_succ, List.set_cons_zero, List.set_cons_succ, rightF]
  simp only [np, tp]
  by_cases h1 : it.size = 32
  · by_cases h2 : bs.size = 32
    · by_cases h3 : rt.size = 32
      · by_cases h4 : bd.size ≤ 1024
        · by_cases h5 : ks.length = 0
          · simp [h1, h2, h3, h4, h5, keysB_nil]
          · simp [h1, h2, h3, h4, h5]
        · simp [h1, h2, h3, h4]
      · simp [h1, h2, h3]
    · simp [h1, h2]
  · simp [h1]
theorem right_1 (f : Fr) (h : f.kind = 1) : rightP 1 f = rightF f := by
  obtain ⟨kd, fm, dt, fi, it, bs, sg, oc, rt, pv, nm, bd, ks⟩ := f
  simp only at h
  subst h
  simp only [rightP, leftW, fmtL, rowL, noneL, fitsW, List.getD_cons_zero, List.getD_cons_succ, List.set_cons_zero, List.set_cons_succ, rightF]
  by_cases h3 : rt.size = 32
  · by_cases h4 : bd.size ≤ 1024
    · by_cases h5 : ks.length = 0
      · by_cases h1 : it.size = 0
        · by_cases h2 : bs.size = 0
          · by_cases h6 : sg = 0
            · by_cases h7 : oc = 0
              · simp [h1, h2, h3, h4, h5, h6, h7, keysB_nil, tp_none, show (tp rt).s = rt from rfl, show (tp bd).s = bd from rfl]
              · simp [h1, h2, h3, h4, h5, h6, h7, tp_none, np_inj, show (tp rt).s = rt from rfl, show (tp bd).s = bd from rfl]
            · simp [h1, h2, h3, h4, h5, h6, tp_none, np_inj, show (tp rt).s = rt from rfl, show (tp bd).s = bd from rfl]
          · simp [h1, h2, h3, h4, h5, tp_none, np_inj, show (tp rt).s = rt from rfl, show (tp bd).s = bd from rfl]
        · simp [h1, h3, h4, h5, tp_none, np_inj, show (tp rt).s = rt from rfl, show (tp bd).s = bd from rfl]
      · simp [h3, h4, h5, tp_none, np_inj, show (tp rt).s = rt from rfl, show (tp bd).s = bd from rfl]
    · simp [h3, h4, show (tp rt).s = rt from rfl, show (tp bd).s = bd from rfl]
  · simp [h3, show (tp rt).s = rt from rfl]
theorem right_2 (f : Fr) (h : f.kind = 2) : rightP 2 f = rightF f := by
  obtain ⟨kd, fm, dt, fi, it, bs, sg, oc, rt, pv, nm, bd, ks⟩ := f
  simp only at h
  subst h
  simp only [rightP, leftW, fmtL, rowL, noneL, fitsW, List.getD_cons_zero, List.getD_cons_succ, List.set_cons_zero, List.set_cons_succ, rightF]
  by_cases h8 : ks.length ≤ 32
  · by_cases h1 : it.size = 0 ∧ bs.size = 0 ∧ sg = 0 ∧ oc = 0
    · obtain ⟨a1, a2, a3, a4⟩ := h1
      by_cases h2 : rt.size = 0
      · by_cases h3 : bd.size = 0
        · by_cases h4 : pv = 0
          · by_cases h5 : nm = 0
            · simp [a1, a2, a3, a4, h2, h3, h4, h5, h8, keysB, tp_none, show (np ks.length).n = ks.length from rfl]
            · simp [a1, a2, a3, a4, h2, h3, h4, h5, h8, tp_none, np_inj, show (np ks.length).n = ks.length from rfl]
          · simp [a1, a2, a3, a4, h2, h3, h4, h8, tp_none, np_inj, show (np ks.length).n = ks.length from rfl]
        · simp [a1, a2, a3, a4, h2, h3, h8, tp_none, np_inj, show (np ks.length).n = ks.length from rfl]
      · simp [a1, a2, a3, a4, h2, h8, tp_none, np_inj, show (np ks.length).n = ks.length from rfl]
    · simp [h8, tp_none, np_inj, show (np ks.length).n = ks.length from rfl]
      simp only [keysB, Bool.and_assoc, Bool.and_comm, Bool.and_left_comm]
  · simp [h8, show (np ks.length).n = ks.length from rfl]
theorem right_kindP (f : Fr) (k : Nat) (hk : k < 3) (h : f.kind = (k : Int)) : rightP k f = rightF f := by
  match k, hk with
  | 0, _ => exact right_0 f h
  | 1, _ => exact right_1 f h
  | 2, _ => exact right_2 f h
theorem right_not (f : Fr) (h : ¬ (0 ≤ f.kind ∧ f.kind < 3)) : rightF f = false := by
  rw [Bool.eq_false_iff]
  intro hr
  rcases right_kind hr with e | e | e <;> omega
/-- the parts that are put -/
def partsF (k : Nat) (f : Fr) : List Pt := (fmtL k).map fun w => (rowL f).getD w p0
theorem parts_all (f : Fr) (k : Nat) (hk : k < 3) (h : f.kind = (k : Int)) (hr : rightF f = true) : partsF k f ++ f.keys.map tp = allP f := by
  match k, hk with
  | 0, _ =>
    obtain ⟨-, -, -, -, h5⟩ := rA h hr
    rw [allP_A h]
    unfold partsF rowL
    rw [h, h5]; rfl
  | 1, _ =>
    obtain ⟨-, -, -, -, -, -, h5⟩ := rB h hr
    rw [allP_B h]
    unfold partsF rowL
    rw [h, h5]; rfl
  | 2, _ =>
    rw [allP_C h]
    unfold partsF rowL
    rw [h]; rfl
theorem parts_head (f : Fr) (k : Nat) (hk : k < 3) (h : f.kind = (k : Int)) : (partsF k f).take ((fmtL k).length - 1) = headP f := by
  match k, hk with
  | 0, _ => unfold partsF rowL headP; rw [h]; rfl
  | 1, _ => unfold partsF rowL headP; rw [h]; rfl
  | 2, _ => unfold partsF rowL headP; rw [h]; rfl
theorem partsF_length (k : Nat) (f : Fr) : (partsF k f).length = (fmtL k).length := by unfold partsF; rw [List.length_map]
/-- the kinds that wire reads -/
def wkW (w : Nat) : UInt8 := if w = 4 ∨ w = 5 ∨ w = 8 ∨ w = 11 then 116 else if w = 12 then 42 else 110
def fmK : Nat → List UInt8
  | 0 => fmA
  | 1 => fmB
  | _ => fmC
theorem fmK_map (k : Nat) (hk : k < 3) : (fmtL k).map wkW = fmK k := by
  match k, hk with
  | 0, _ => rfl
  | 1, _ => rfl
  | 2, _ => rfl
/-- the row that parts fill -/
def fillW : List Pt → List Nat → List Pt → List Pt
  | r, [], _ => r
  | r, w :: ws, l => fillW (r.set w (l.getD 0 p0)) ws (l.drop 1)
def blank : List Pt := List.replicate 13 p0
/-- a number as Go's int -/
def intN (n : Nat) : Int := IntKind.i64.wrap (n : Int)
def frameR (r : List Pt) (ks : List ByteArray) : Fr := ⟨intN (gN r 0), gN r 1, gN r 2, gN r 3, gS r 4, gS r 5, gN r 6, gN r 7, gS r 8, gN r 9, gN r 10, gS r 11, ks⟩
def frameK (k : Nat) (l : List Pt) : Fr := frameR (fillW blank (fmtL k) l) ((l.drop (fmtL k).length).map (·.s))
def whichF (k : Nat) (l : List Pt) : Fr := match k with | 0 => helloA l | 1 => helloB l | _ => revealC l
theorem okK (s : List UInt8) (k : Nat) (hk : k < 3) (h : (unpackL s (fmK k)).2.2 = 0) : (∃ t, (unpackL s (fmK k)).1 = np (gN (unpackL s (fmK k)).1 0) :: t) ∧ (fmtL k).length ≤ (unpackL s (fmK k)).1.length ∧ (gN (unpackL s (fmK k)).1 0 = k → frameK k (unpackL s (fmK k)).1 = whichF k (unpackL s (fmK k)).1) := by
  match k, hk with
  | 0, _ =>
    obtain ⟨h1, h2⟩ := unpackL_shape s fmA fmA_nt h
    have e := rowA _ h1 h2
    show (∃ t, (unpackL s fmA).1 = np (gN (unpackL s fmA).1 0) :: t) ∧ 12 ≤ (unpackL s fmA).1.length ∧ (gN (unpackL s fmA).1 0 = 0 → frameK 0 (unpackL s fmA).1 = helloA (unpackL s fmA).1)
    refine ⟨⟨_, e⟩, by rw [e]; exact Nat.le_refl _, fun hg => ?_⟩
    generalize (unpackL s fmA).1 = l at e hg ⊢
    rw [hg] at e
    rw [e]
    rfl
  | 1, _ =>
    obtain ⟨h1, h2⟩ := unpackL_shape s fmB fmB_nt h
    have e := rowB _ h1 h2
    show (∃ t, (unpackL s fmB).1 = np (gN (unpackL s fmB).1 0) :: t) ∧ 8 ≤ (unpackL s fmB).1.length ∧ (gN (unpackL s fmB).1 0 = 1 → frameK 1 (unpackL s fmB).1 = helloB (unpackL s fmB).1)
    refine ⟨⟨_, e⟩, by rw [e]; exact Nat.le_refl _, fun hg => ?_⟩
    generalize (unpackL s fmB).1 = l at e hg ⊢
    rw [hg] at e
    rw [e]
    rfl
  | 2, _ =>
    obtain ⟨ts, hts, e⟩ := rowC s h
    show (∃ t, (unpackL s fmC).1 = np (gN (unpackL s fmC).1 0) :: t) ∧ 5 ≤ (unpackL s fmC).1.length ∧ (gN (unpackL s fmC).1 0 = 2 → frameK 2 (unpackL s fmC).1 = revealC (unpackL s fmC).1)
    refine ⟨⟨_, e⟩, by rw [e]; simp, fun hg => ?_⟩
    generalize (unpackL s fmC).1 = l at e hg ⊢
    rw [hg] at e
    rw [e]
    rfl
theorem hit_K (s : List UInt8) (k : Nat) (hk : k < 3) (h : (unpackL s (fmK k)).2.2 = 0) : ahead s = some (gN (unpackL s (fmK k)).1 0, (numB (gN (unpackL s (fmK k)).1 0)).length) := by
  obtain ⟨⟨t, e⟩, -, -⟩ := okK s k hk h
  exact first_of s (fmK k) h t e
/-- its bytes begin with this number's -/
def preB (s : List UInt8) (k : Nat) : Bool := decide ((numB k).length ≤ s.length) && decide (s.take (numB k).length = numB k)
theorem preB_ahead (s : List UInt8) (k : Nat) (hk : k < 3) (h : preB s k = true) : ahead s = some (k, (numB k).length) := by
  unfold preB at h
  simp only [Bool.and_eq_true, decide_eq_true_eq] at h
  have e : s = numB k ++ s.drop (numB k).length := by conv => lhs; rw [← List.take_append_drop (numB k).length s, h.2]
  rw [e]
  exact ahead_numB k _ (by omega)
theorem ahead_preB (s : List UInt8) (k m : Nat) (h : ahead s = some (k, m)) : preB s k = true := by
  obtain ⟨h1, h2, h3, -⟩ := ahead_some s k m h
  unfold preB
  simp only [Bool.and_eq_true, decide_eq_true_eq]
  rw [← h2]
  exact ⟨h3, h1⟩
def getK (k : Nat) (s : List UInt8) : Option Fr :=
  if (unpackL s (fmK k)).2.2 = 0 then (if rightF (frameK k (unpackL s (fmK k)).1) = true then some (frameK k (unpackL s (fmK k)).1) else none) else none
theorem hitU_iff (s fm : List UInt8) (k : Nat) : hitU s fm k = (decide ((unpackL s fm).2.2 = 0) && decide (gN (unpackL s fm).1 0 = k)) := rfl
theorem getK_eq (s : List UInt8) (k : Nat) (hk : k < 3) (h : preB s k = true) : getK k s = if hitU s (fmK k) k then (if rightF (whichF k (unpackL s (fmK k)).1) then some (whichF k (unpackL s (fmK k)).1) else none) else none := by
  have ha := preB_ahead s k hk h
  unfold getK
  rw [hitU_iff]
  by_cases h0 : (unpackL s (fmK k)).2.2 = 0
  · have := hit_K s k hk h0
    rw [ha] at this
    simp only [Option.some.injEq, Prod.mk.injEq] at this
    have hg : gN (unpackL s (fmK k)).1 0 = k := this.1.symm
    rw [if_pos h0, (okK s k hk h0).2.2 hg, decide_eq_true h0, decide_eq_true hg]
    simp
  · rw [if_neg h0, decide_eq_false h0]
    simp
/-- the frame that bytes tell, as the package looks for it -/
theorem getF_pre (s : List UInt8) : getF s = if preB s 0 then getK 0 s else if preB s 1 then getK 1 s else if preB s 2 then getK 2 s else none := by
  by_cases p0 : preB s 0 = true
  · have ha := preB_ahead s 0 (by omega) p0
    rw [if_pos p0, getK_eq s 0 (by omega) p0]
    unfold getF
    rw [not_C s _ _ ha (by omega), not_B s _ _ ha (by omega)]
    rfl
  · rw [if_neg p0]
    have hA : hitU s fmA 0 = false := by
      rw [Bool.eq_false_iff]; intro e; exact p0 (ahead_preB s 0 _ (hit_A s e))
    by_cases p1 : preB s 1 = true
    · have ha := preB_ahead s 1 (by omega) p1
      rw [if_pos p1, getK_eq s 1 (by omega) p1]
      unfold getF
      rw [not_C s _ _ ha (by omega), hA]
      rfl
    · rw [if_neg p1]
      have hB : hitU s fmB 1 = false := by
        rw [Bool.eq_false_iff]; intro e; exact p1 (ahead_preB s 1 _ (hit_B s e))
      by_cases p2 : preB s 2 = true
      · rw [if_pos p2, getK_eq s 2 (by omega) p2]
        unfold getF
        rw [hA, hB]
        rfl
      · rw [if_neg p2]
        have hC : hitU s fmC 2 = false := by
          rw [Bool.eq_false_iff]; intro e; exact p2 (ahead_preB s 2 _ (hit_C s e))
        unfold getF
        rw [hA, hB, hC]
        rfl
end Go.Proofs.YtollaaooinoafaaDoor