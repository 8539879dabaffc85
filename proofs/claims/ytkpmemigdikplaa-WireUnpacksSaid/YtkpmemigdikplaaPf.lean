/- The contracts of wire's Like and of the reference's Same. -/
import Derived.Test.YtkpmemigdikplaaPd
import Derived.BigQuiet
namespace Go.Proofs.Ytkpmemigdikplaa
open Go.RowKit
set_option maxRecDepth 100000

theorem sameL_cons (p q : Pt) (l m : List Pt) : sameL (p :: l) (q :: m) = (sameP p q && sameL l m) := rfl
theorem sameL_at (l m : List Pt) (h : l.length = m.length) (k : Nat) (hk : k < l.length) (hd : sameL (l.drop k) (m.drop k) = sameL l m) :
    sameL l m = (sameP (l.getD k p0) (m.getD k p0) && sameL (l.drop (k + 1)) (m.drop (k + 1))) := by
  rw [← hd, List.drop_eq_getElem_cons hk, List.drop_eq_getElem_cons (show k < m.length by omega), sameL_cons]
  simp [List.getD, hk, show k < m.length by omega]
theorem sameL_len (l m : List Pt) (h : l.length ≠ m.length) : sameL l m = false := by
  induction l generalizing m with
  | nil => rcases m with _ | ⟨q, m⟩
           · exact absurd rfl h
           · rfl
  | cons p l ih =>
    rcases m with _ | ⟨q, m⟩
    · rfl
    · rw [sameL_cons, ih m (by simpa using h), Bool.and_false]
def EqRel (w : World) (l m : List Pt) (i : Value) (wr : World) : Prop :=
  ∃ k : Nat, k ≤ l.length ∧ i = .int .i64 (k : Int) ∧ sameL (l.drop k) (m.drop k) = sameL l m ∧ Below w.heap.size w wr
set_option maxHeartbeats 2000000 in
theorem EqualFunc_any (a b : Option Addr) (c c' : Nat) (l m : List Pt) (hl : l.length ≤ maxLen) (w : World) (hp : PSl w a l) (hq : PSl w b m) :
    Calls Try.prog 25 #[.slice a l.length c, .slice b m.length c', .func (.func 26) #[] #[]] w fun e w' => e = .returned (.bool (sameL l m)) ∧ Below w.heap.size w w' := by
  have HP := Lib.hid hp; have HQ := Lib.hid hq; have HL := Lib.hid hl
  clear hp hq hl
  by_cases hlen : l.length = m.length
  case neg =>
    have hn : ¬ (l.length : Int) = (m.length : Int) := by omega
    have hs := sameL_len l m hlen
    have HS := Lib.hid hs
    clear hs hlen HP HQ HL
    go_enter Try.func25, Try.ntmps25
    go_wp2_with fail
    go_ret
    rw [HS.out]
    exact ⟨rfl, Below.refl _ _⟩
  case pos =>
    have hn : (l.length : Int) = (m.length : Int) := by omega
    have hns : (m.length : Int) = (l.length : Int) := by omega
    rw [show m.length = l.length from hlen.symm]
    have HLN := Lib.hid hlen
    clear hlen
    go_enter Try.func25, Try.ntmps25
    clear hn hns
    go_wp2_with fail
    go_loopw [17] (EqRel w l m) (fun i _ => l.length - (intOf i).toNat)
    case atStart => exact ⟨0, Nat.zero_le _, rfl, rfl, Below.refl _ _⟩
    case round =>
      obtain ⟨k, hk, rfl, hd, hB⟩ := hrel
      by_cases hlt : k < l.length
      · have h1 : (k : Int) < (l.length : Int) := by omega
        have h1k : (k : Int) < 9223372036854775807 := by have := HL.out; unfold maxLen at this; omega
        obtain ⟨g, off, rfl, hbl, hc⟩ := HP.out (by omega)
        obtain ⟨g', off', rfl, hbl', hc'⟩ := HQ.out (by have := HLN.out; omega)
        have hpt := (hc k hlt).on (hB.mono (Nat.le_refl _))
        have hpt' := (hc' k (by have := HLN.out; omega)).on (hB.mono (Nat.le_refl _))
        have hs := sameL_at l m HLN.out k hlt hd
        obtain ⟨p, ep⟩ : ∃ p, l.getD k p0 = p := ⟨_, rfl⟩
        obtain ⟨q, eq⟩ : ∃ q, m.getD k p0 = q := ⟨_, rfl⟩
        rw [ep] at hpt hs
        rw [eq] at hpt' hs
        obtain ⟨c0, c1, c2⟩ := hpt
        have hv1 : Below wr.heap.size wr (wr.alloc (.cells #[.bool p.text, .int .u64 (p.n : Int), .string p.s] 34)) := (Below.refl _ _).alloc (Nat.le_refl _) _
        have hb1 := PtAt.fresh wr p 34
        have HQ2 := Lib.hid (hpt'.on hv1)
        have HB := Lib.hid hB; have HS := Lib.hid hs; have HV1 := Lib.hid hv1; have HB1 := Lib.hid hb1
        clear hB hc hc' ep eq hs hd hpt' hv1 hb1
        go_upto_region 6 with fail
        clear c0 c1 c2
        generalize World.alloc wr _ = V at HQ2 HV1 HB1 ⊢
        obtain ⟨d0, d1, d2⟩ := HQ2.out
        have hv2 : Below V.heap.size V (V.alloc (.cells #[.bool q.text, .int .u64 (q.n : Int), .string q.s] 34)) := (Below.refl _ _).alloc (Nat.le_refl _) _
        have HB2 := Lib.hid (HB1.out.on hv2); have HB3 := Lib.hid (PtAt.fresh V q 34); have HV2 := Lib.hid hv2
        clear hv2 HB1 HQ2
        go_upto_region 7 with fail
        clear d0 d1 d2
        generalize World.alloc V _ = V2 at HB2 HB3 HV2 ⊢
        obtain ⟨b0, b1, b2⟩ := HB2.out
        obtain ⟨d0, d1, d2⟩ := HB3.out
        simp only [Nat.zero_add] at b1 b2 d1 d2
        have hB2 := HB.out.trans ((HV1.out.trans (HV2.out.mono HV1.out.size)).mono HB.out.size)
        have HB5 := Lib.hid hB2
        clear hB2 HB2 HB3 HV1 HV2 HB
        go_wp2_with fail
        refine (samePart_any p q V2).mono ?_
        rintro e w3 ⟨rfl, hb3⟩
        have hB3 := HB5.out.trans (hb3.mono HB5.out.size)
        have HB6 := Lib.hid hB3
        clear hb3 hB3 b0 b1 b2 d0 d1 d2 HB5 hbl hbl'
        cases hpq : sameP p q
        · have hs := HS.out
          rw [hpq, Bool.false_and] at hs
          have HS2 := Lib.hid hs
          clear hs hpq
          go_wp2_with fail
          go_ret
          rw [HS2.out]
          exact ⟨rfl, HB6.out⟩
        · have hs := HS.out
          rw [hpq, Bool.true_and] at hs
          have HS2 := Lib.hid hs.symm
          clear hs hpq
          go_wp2_with fail
          exact ⟨⟨k + 1, by omega, by simp, HS2.out, HB6.out⟩, by simp [intOf]; omega⟩
      · obtain rfl : k = l.length := by omega
        rw [List.drop_length, show m.drop l.length = [] by rw [HLN.out, List.drop_length]] at hd
        have HD := Lib.hid (show sameL l m = true from hd.symm); have HB := Lib.hid hB
        clear hd hB
        have hn : ¬ (l.length : Int) < (l.length : Int) := by omega
        go_wp2_with fail
        go_ret
        rw [HD.out]
        exact ⟨rfl, HB.out⟩
set_option maxHeartbeats 400000 in
theorem Like_any (a b : Option Addr) (c c' : Nat) (l m : List Pt) (hl : l.length ≤ maxLen) (w : World) (hp : PSl w a l) (hq : PSl w b m) :
    Calls Try.prog 13 #[.slice a l.length c, .slice b m.length c'] w fun e w' => e = .returned (.bool (sameL l m)) ∧ Below w.heap.size w w' := by
  have H := Lib.hid (EqualFunc_any a b c c' l m hl w hp hq)
  clear hl hp hq
  go_enter Try.func13, Try.ntmps13
  go_wp2_with fail
  refine H.out.mono ?_
  rintro e w1 ⟨rfl, hb⟩
  go_wp2_with fail
  go_ret
  exact ⟨rfl, hb⟩

set_option maxHeartbeats 4000000 in
theorem Same_any (a b : Option Addr) (c c' : Nat) (l m : List Pt) (hl : l.length ≤ maxLen) (w : World) (hp : PSl w a l) (hq : PSl w b m) :
    Calls Try.prog 14 #[.slice a l.length c, .slice b m.length c'] w fun e w' => e = .returned (.bool (sameL l m)) ∧ Below w.heap.size w w' := by
  have HP := Lib.hid hp; have HQ := Lib.hid hq; have HL := Lib.hid hl
  clear hp hq hl
  by_cases hlen : l.length = m.length
  case neg =>
    have hn : ¬ (l.length : Int) = (m.length : Int) := by omega
    have hs := sameL_len l m hlen
    have HS := Lib.hid hs
    clear hs hlen HP HQ HL
    go_enter Try.func14, Try.ntmps14
    go_wp2_with fail
    go_ret
    rw [HS.out]
    exact ⟨rfl, Below.refl _ _⟩
  case pos =>
    rw [show m.length = l.length from hlen.symm]
    have HLN := Lib.hid hlen
    clear hlen
    go_enter Try.func14, Try.ntmps14
    go_wp2_with fail
    go_loopw [13] (EqRel w l m) (fun i _ => l.length - (intOf i).toNat)
    case atStart => exact ⟨0, Nat.zero_le _, rfl, rfl, Below.refl _ _⟩
    case round =>
      obtain ⟨k, hk, rfl, hd, hB⟩ := hrel
      by_cases hlt : k < l.length
      · have h1 : (k : Int) < (l.length : Int) := by omega
        have h1k : (k : Int) < 9223372036854775807 := by have := HL.out; unfold maxLen at this; omega
        obtain ⟨g, off, rfl, hbl, hc⟩ := HP.out (by omega)
        obtain ⟨g', off', rfl, hbl', hc'⟩ := HQ.out (by have := HLN.out; omega)
        have hpt := (hc k hlt).on (hB.mono (Nat.le_refl _))
        have hpt' := (hc' k (by have := HLN.out; omega)).on (hB.mono (Nat.le_refl _))
        have hs := sameL_at l m HLN.out k hlt hd
        obtain ⟨p, ep⟩ : ∃ p, l.getD k p0 = p := ⟨_, rfl⟩
        obtain ⟨q, eq⟩ : ∃ q, m.getD k p0 = q := ⟨_, rfl⟩
        rw [ep] at hpt hs
        rw [eq] at hpt' hs
        obtain ⟨t, n, s⟩ := p
        obtain ⟨t', n', s'⟩ := q
        obtain ⟨c0, c1, c2⟩ := hpt
        obtain ⟨d0, d1, d2⟩ := hpt'
        simp only at c0 c1 c2 d0 d1 d2
        have HB := Lib.hid hB; have HS := Lib.hid hs
        clear hB hc hc' ep eq hs hd hbl hbl'
        go_upto_region 6 with fail
        cases t <;> cases t'
        · obtain ⟨e, he⟩ : ∃ e : Bool, ((n : Int) != (n' : Int)) = e := ⟨_, rfl⟩
          have hse : sameP ⟨false, n, s⟩ ⟨false, n', s'⟩ = !e := by rw [← he, bne, nat_eq]; simp [sameP]
          have HSE := Lib.hid hse
          clear hse
          go_quiet (fail)
          clear he
          cases e
          · have hs := HS.out
            rw [HSE.out, Bool.not_false, Bool.true_and] at hs
            have HS2 := Lib.hid hs.symm
            clear hs
            go_wp2_with fail
            exact ⟨⟨k + 1, by omega, by simp, HS2.out, below_redrawn HB.out (by first | rfl | simp) (by first | rfl | simp) (by first | rfl | simp) (by first | rfl | simp)⟩, by simp [intOf]; omega⟩
          · have hs := HS.out
            rw [HSE.out, Bool.not_true, Bool.false_and] at hs
            have HS2 := Lib.hid hs
            clear hs
            go_wp2_with fail
            go_ret
            rw [HS2.out]
            exact ⟨rfl, below_redrawn HB.out (by first | rfl | simp) (by first | rfl | simp) (by first | rfl | simp) (by first | rfl | simp)⟩
        · have hs := HS.out
          rw [show sameP _ _ = false from (by simp [sameP]), Bool.false_and] at hs
          have HS2 := Lib.hid hs
          clear hs
          go_quiet (fail)
          go_wp2_with fail
          go_ret
          rw [HS2.out]
          exact ⟨rfl, below_redrawn HB.out (by first | rfl | simp) (by first | rfl | simp) (by first | rfl | simp) (by first | rfl | simp)⟩
        · have hs := HS.out
          rw [show sameP _ _ = false from (by simp [sameP]), Bool.false_and] at hs
          have HS2 := Lib.hid hs
          clear hs
          go_quiet (fail)
          go_wp2_with fail
          go_ret
          rw [HS2.out]
          exact ⟨rfl, below_redrawn HB.out (by first | rfl | simp) (by first | rfl | simp) (by first | rfl | simp) (by first | rfl | simp)⟩
        · by_cases hnn : s = s'
          · subst hnn
            have hs := HS.out
            rw [show sameP _ _ = true from (by simp [sameP]), Bool.true_and] at hs
            have HS2 := Lib.hid hs.symm
            clear hs
            go_quiet (fail)
            go_wp2_with fail
            exact ⟨⟨k + 1, by omega, by simp, HS2.out, below_redrawn HB.out (by first | rfl | simp) (by first | rfl | simp) (by first | rfl | simp) (by first | rfl | simp)⟩, by simp [intOf]; omega⟩
          · have hni := str_eq s s'
            rw [decide_eq_false hnn] at hni
            have hs := HS.out
            rw [show sameP _ _ = false from (by simp [sameP, hnn]), Bool.false_and] at hs
            have HS2 := Lib.hid hs
            clear hs hnn
            go_quiet (fail)
            go_wp2_with fail
            go_ret
            rw [HS2.out]
            exact ⟨rfl, below_redrawn HB.out (by first | rfl | simp) (by first | rfl | simp) (by first | rfl | simp) (by first | rfl | simp)⟩
      · obtain rfl : k = l.length := by omega
        rw [List.drop_length, show m.drop l.length = [] by rw [HLN.out, List.drop_length]] at hd
        have HD := Lib.hid (show sameL l m = true from hd.symm); have HB := Lib.hid hB
        clear hd hB
        have hn : ¬ (l.length : Int) < (l.length : Int) := by omega
        go_wp2_with fail
        go_ret
        rw [HD.out]
        exact ⟨rfl, HB.out⟩
end Go.Proofs.Ytkpmemigdikplaa
