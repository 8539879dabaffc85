/- The reference 15's Twice, Points, Shelf, Right, At. -/
import Derived.Test.YtmmaimopombepaaBe
namespace Go.Proofs.Ytmmaimopombepaa
open Go.RowKit
set_option maxRecDepth 100000
def PoiRel (w : World) (l : List Pn) (i : Value) (wr : World) : Prop := ∃ (k : Nat) (W : World), W = wr ∧ i = .int .i64 (k : Int) ∧ k ≤ l.length ∧ Below w.heap.size w wr ∧ okPs (l.take k)
set_option maxHeartbeats 4000000 in
theorem pointsR_any (a : Option Addr) (c : Nat) (l : List Pn) (hl : l.length ≤ 1000) (w : World) (h : PP w a c l) :
    Calls Try.prog 32 #[.slice a l.length c] w fun e w' => e = .returned (.bool (decide (okPs l))) ∧ Below w.heap.size w w' := by
  have H := Lib.hid h
  have q : (l.length : Int) ≤ 1000 := by omega
  clear h
  go_enter Try.func32, Try.ntmps32
  go_wp2_with fail
  go_loopw [7] (PoiRel w l) (fun i _ => l.length - (Lib.intOf i).toNat)
  case atStart => exact ⟨0, _, rfl, rfl, Nat.zero_le _, Below.refl _ _, fun p hp => by simp at hp⟩
  case round =>
    obtain ⟨k, wr, rfl, rfl, h1, h2, h3⟩ := hrel
    by_cases hk : k < l.length
    · have hkz : (k : Int) < (l.length : Int) := by omega
      obtain ⟨b, off, rfl, hlt, c0, c1⟩ := (H.out.on h2).get k hk
      have hst := ok_step l k hk
      have hmem : l[k] ∈ l := List.getElem_mem hk
      obtain ⟨p, ep⟩ : ∃ p, l[k] = p := ⟨_, rfl⟩
      rw [ep] at c0 c1 hst hmem
      obtain ⟨i, s⟩ := p
      simp only at c0 c1 hst
      have HB := Lib.hid (h2.alloc h2.size (.cells #[.int .u64 (i : Int), .string s] 25))
      by_cases hi : i = 0
      · have hz : ((i : Int) == 0) = true := beqT (b := 0) hi
        have HN := Lib.hid (decide_eq_false (fun (hall : okPs l) => (hall _ hmem).1 hi))
        clear h2 h3 hst hmem ep
        have hzi : (i : Int) = 0 := by omega
        have HI := Lib.hid hi
        clear hi
        go_wp2_with fail
        go_ret
        exact ⟨by rw [HN.out]; rfl, by first | exact HB.out | (have := HB.out; rw [hzi] at this; exact this)⟩
      · have hz : ((i : Int) == 0) = false := beqF (b := 0) hi
        have hzi : ¬ (i : Int) = 0 := by omega
        by_cases hs : s.size = 32
        · have hs1 : ((s.size : Int) != 32) = false := by simp; omega
          have hs2 : (s.size : Int) = 32 := by omega
          have HN := Lib.hid (hst.2 ⟨h3, hi, hs⟩)
          clear h2 h3 hst hmem ep hi hs
          go_wp2_with fail
          exact ⟨⟨k + 1, _, rfl, by go_num, by omega, HB.out, HN.out⟩, by simp [Lib.intOf]; omega⟩
        · have hs1 : ((s.size : Int) != 32) = true := by simp; omega
          have hs2 : ¬ (s.size : Int) = 32 := by omega
          have HN := Lib.hid (decide_eq_false (fun (hall : okPs l) => hs (hall _ hmem).2))
          clear h2 h3 hst hmem ep hi hs
          go_wp2_with fail
          go_ret
          exact ⟨by rw [HN.out]; rfl, HB.out⟩
    · have hkz : ¬ (k : Int) < (l.length : Int) := by omega
      have hkn : k = l.length := by omega
      rw [hkn, List.take_length] at h3
      have HD := Lib.hid (decide_eq_true h3)
      clear h3
      go_wp2_with fail
      go_ret
      exact ⟨by rw [HD.out]; rfl, h2⟩
def Tw1Rel (w : World) (l : List Pn) (i : Value) (wr : World) : Prop := ∃ (k : Nat) (W : World), W = wr ∧ i = .int .i64 (k : Int) ∧ k ≤ l.length ∧ Below w.heap.size w wr ∧ alonePs (l.take k)
def Tw2Rel (w wb : World) (l : List Pn) (_B k id : Nat) (_s : ByteArray) (i : Value) (wr : World) : Prop := ∃ (j : Nat) (W : World), W = wr ∧ i = .int .i64 (j : Int) ∧ j ≤ k ∧ Below w.heap.size w wr ∧ Below wb.heap.size wb wr ∧ ∀ t, (ht : t < l.length) → t < j → l[t].id ≠ id
set_option maxHeartbeats 4000000 in
theorem twice_any (a : Option Addr) (c : Nat) (l : List Pn) (hl : l.length ≤ 1000) (w : World) (h : PP w a c l) :
    Calls Try.prog 31 #[.slice a l.length c] w fun e w' => e = .returned (.bool (!decide (alonePs l))) ∧ Below w.heap.size w w' := by
  have H := Lib.hid h
  have q : (l.length : Int) ≤ 1000 := by omega
  have hcap : l.length ≤ c := h.cap
  clear h
  go_enter Try.func31, Try.ntmps31
  go_wp2_with fail
  go_loopw [9] (Tw1Rel w l) (fun i _ => l.length - (Lib.intOf i).toNat)
  case atStart => exact ⟨0, _, rfl, rfl, Nat.zero_le _, Below.refl _ _, by unfold alonePs; simp⟩
  case round =>
    obtain ⟨k, wr, rfl, rfl, h1, h2, h3⟩ := hrel
    by_cases hk : k < l.length
    · have hkz : (k : Int) < (l.length : Int) := by omega
      obtain ⟨b, off, rfl, hlt, c0, c1⟩ := (H.out.on h2).get k hk
      have hst := alone_step l k hk
      obtain ⟨p, ep⟩ : ∃ p, l[k] = p := ⟨_, rfl⟩
      rw [ep] at c0 c1 hst
      obtain ⟨i, s⟩ := p
      simp only at c0 c1 hst
      obtain ⟨wb, ewb⟩ : ∃ wb, wr.alloc (.cells #[.int .u64 (i : Int), .string s] 25) = wb := ⟨_, rfl⟩
      have hbb : Below wr.heap.size wr wb := by rw [← ewb]; exact (Below.refl _ wr).alloc (Nat.le_refl _) _
      have hcb := heap_alloc_new wr (.cells #[.int .u64 (i : Int), .string s] 25)
      rw [ewb] at hcb
      have hbx : wb.cell? ⟨wr.heap.size, 0, none⟩ = some (.int .u64 (i : Int)) := by rw [cell_of_row _ _ _ _ _ _ hcb]; rfl
      have hbsz : wr.heap.size < wb.heap.size := (Array.getElem?_eq_some_iff.1 hcb).1
      have HB := Lib.hid (h2.trans (hbb.mono h2.size))
      have HX := Lib.hid (And.intro hbx hbsz)
      have HT := Lib.hid (And.intro h3 hst)
      have HE := Lib.hid ep
      have hkc : (k : Int) ≤ (c : Int) := by omega
      obtain ⟨B, eB⟩ : ∃ B, wr.heap.size = B := ⟨_, rfl⟩
      rw [eB] at HX
      clear h2 h3 hst hcb hbx hbsz hbb ep
      go_wp2_with fail
      go_loopw [18] (Tw2Rel w wb l B k i s) (fun j _ => k - (Lib.intOf j).toNat)
      case atStart => exact ⟨0, _, rfl, rfl, Nat.zero_le _, HB.out, Below.refl _ _, fun t _ ht => absurd ht (Nat.not_lt_zero t)⟩
      case round =>
        obtain ⟨j, w2, rfl, rfl, g1, g2, g3, g4⟩ := hrel
        by_cases hj : j < k
        · have hjz : (j : Int) < (k : Int) := by omega
          have hjl : j < l.length := by omega
          obtain ⟨b', off', eb, hlt2, d0, d1⟩ := (H.out.on g2).get j hjl
          cases eb
          have hx2 : w2.cell? ⟨B, 0, none⟩ = some (.int .u64 (i : Int)) := (g3.cell (p := ⟨B, 0, none⟩) (by exact HX.out.2)).trans HX.out.1
          have hmm : l[j] ∈ l := List.getElem_mem hjl
          obtain ⟨p2, ep2⟩ : ∃ p2, l[j] = p2 := ⟨_, rfl⟩
          rw [ep2] at d0 d1
          obtain ⟨i2, s2⟩ := p2
          simp only at d0 d1
          have HG := Lib.hid (And.intro (g2.alloc g2.size (.cells #[.int .u64 (i2 : Int), .string s2] 25)) (And.intro (g3.alloc g3.size (.cells #[.int .u64 (i2 : Int), .string s2] 25)) g4))
          have hBs : B < w2.heap.size := Nat.lt_of_lt_of_le HX.out.2 g3.size
          have hne := nat_eqU i i2
          have E2 := Lib.hid ep2
          clear g2 g3 g4 hmm ep2
          by_cases he : i = i2
          · have HQ := Lib.hid (decide_eq_false (fun (h : alonePs l) => by
              have h5 := alone_step l k hk
              rw [HE.out] at h5
              have h6 := (h5.1 (alone_sub h (k + 1))).2 j hj
              rw [E2.out] at h6
              exact h6 he.symm))
            rw [decide_eq_true he] at hne
            clear he
            go_wp2_with fail
            go_ret
            exact ⟨by rw [HQ.out]; rfl, HG.out.1⟩
          · rw [decide_eq_false he] at hne
            have HQ := Lib.hid he
            clear he
            go_wp2_with fail
            refine ⟨⟨j + 1, _, rfl, by go_num, by omega, HG.out.1, HG.out.2.1, fun t ht htj => ?_⟩, by simp [Lib.intOf]; omega⟩
            by_cases e : t = j
            · subst e
              rw [E2.out]
              exact fun h => HQ.out h.symm
            · exact HG.out.2.2 t ht (by omega)
        · have hjz : ¬ (j : Int) < (k : Int) := by omega
          have hjk : j = k := by omega
          have HN := Lib.hid (HT.out.2.2 ⟨HT.out.1, fun t ht => g4 t (by omega) (by omega)⟩)
          clear g4
          go_wp2_with fail
          exact ⟨⟨k + 1, _, rfl, by go_num, by omega, g2, HN.out⟩, by simp [Lib.intOf]; omega⟩
    · have hkz : ¬ (k : Int) < (l.length : Int) := by omega
      have hkn : k = l.length := by omega
      rw [hkn, List.take_length] at h3
      have HD := Lib.hid (decide_eq_true h3)
      clear h3
      go_wp2_with fail
      go_ret
      exact ⟨by rw [HD.out]; rfl, h2⟩
theorem shelfR_any (m : ShM) (w : World) (h : PtsAt w m) :
    Calls Try.prog 56 #[.agg #[.int .u64 (m.s.user : Int), .string m.s.ident, .int .u64 (m.s.sgn.id : Int), .string m.s.sgn.pt, .slice m.a m.s.once.length m.c]] w fun e w' => e = .returned (.bool (decide (rightSh m.s))) ∧ Below w.heap.size w w' := by
  obtain ⟨⟨u, i, ⟨si, sp⟩, o⟩, a, c⟩ := m
  have hP := h.pp
  have hB : Below w.heap.size w (w.alloc (.cells #[.int .u64 (u : Int), .string i, .int .u64 (si : Int), .string sp, .slice a o.length c] 28)) := (Below.refl _ w).alloc (Nat.le_refl _) _
  have HP := Lib.hid (hP.on hB)
  have HB := Lib.hid hB
  clear h hP hB
  have no : ∀ {p : Prop} [Decidable p], ¬ p → decide p = false := fun h => decide_eq_false h
  by_cases c1 : i.size = 32
  · have d1 : ((i.size : Int) == 32) = true := beqT c1
    have d1z : (i.size : Int) = 32 := by omega
    by_cases c2 : sp.size = 32
    · have d2 : ((sp.size : Int) == 32) = true := beqT c2
      have d2z : (sp.size : Int) = 32 := by omega
      by_cases c3 : o.length ≤ 20
      · have d3 : (o.length : Int) ≤ 20 := by omega
        have HO := Lib.hid (pointsR_any a c o (by omega) _ HP.out)
        have hcell := cell_of_row (w.alloc (.cells #[.int .u64 (u : Int), .string i, .int .u64 (si : Int), .string sp, .slice a o.length c] 28)) w.heap.size 4 _ _ _ (heap_alloc_new w _)
        have HC := Lib.hid hcell
        clear hcell
        by_cases c4 : okPs o
        · have HD := Lib.hid (fun W hp => twice_any a c o (by omega) W hp)
          rw [show decide (okPs o) = true from decide_eq_true c4] at HO
          have e : decide (rightSh ⟨u, i, ⟨si, sp⟩, o⟩) = decide (alonePs o) := by
            by_cases c5 : alonePs o
            · rw [decide_eq_true c5, decide_eq_true (show rightSh ⟨u, i, ⟨si, sp⟩, o⟩ from ⟨c1, c2, c3, c4, c5⟩)]
            · rw [decide_eq_false c5, decide_eq_false (show ¬ rightSh ⟨u, i, ⟨si, sp⟩, o⟩ from fun h => c5 h.2.2.2.2)]
          rw [show (ShM.mk ⟨u, i, ⟨si, sp⟩, o⟩ a c).s = ⟨u, i, ⟨si, sp⟩, o⟩ from rfl, e]
          obtain ⟨r, hr⟩ : ∃ r, decide (alonePs o) = r := ⟨_, rfl⟩
          rw [hr] at HD ⊢
          clear c1 c2 c3 c4 e hr
          go_enter Try.func56, Try.ntmps56
          go_wp2_with (first
            | (go_at_call 32; refine HO.out.mono ?_; rintro e w2 ⟨rfl, hb2⟩; have hc4 := (hb2.cell (p := ⟨w.heap.size, 4, none⟩) (by simp)).trans HC.out)
            | (go_at_call 31; refine (HD.out _ (HP.out.on hb2)).mono ?_; rintro e w3 ⟨rfl, hb3⟩))
          go_ret
          exact ⟨rfl, HB.out.trans ((hb2.mono HB.out.size).trans (hb3.mono (Nat.le_trans HB.out.size hb2.size)))⟩
        · rw [show decide (okPs o) = false from decide_eq_false c4] at HO
          have e : decide (rightSh ⟨u, i, ⟨si, sp⟩, o⟩) = false := no fun h => c4 h.2.2.2.1
          rw [show (ShM.mk ⟨u, i, ⟨si, sp⟩, o⟩ a c).s = ⟨u, i, ⟨si, sp⟩, o⟩ from rfl, e]
          clear c1 c2 c3 c4 e
          go_enter Try.func56, Try.ntmps56
          go_wp2_with (go_at_call 32; refine HO.out.mono ?_; rintro e w2 ⟨rfl, hb2⟩)
          go_ret
          exact ⟨rfl, HB.out.trans (hb2.mono HB.out.size)⟩
      · have d3 : decide ((o.length : Int) ≤ 20) = false := decide_eq_false (by omega)
        have d3z : ¬ (o.length : Int) ≤ 20 := by omega
        rw [show decide (rightSh (ShM.mk ⟨u, i, ⟨si, sp⟩, o⟩ a c).s) = false from no fun h => c3 h.2.2.1]
        clear c1 c2 c3
        go_enter Try.func56, Try.ntmps56
        go_wp2_with fail
        go_ret
        exact ⟨rfl, HB.out⟩
    · have d2 : ((sp.size : Int) == 32) = false := beqF c2
      have d2z : ¬ (sp.size : Int) = 32 := by omega
      rw [show decide (rightSh (ShM.mk ⟨u, i, ⟨si, sp⟩, o⟩ a c).s) = false from no fun h => c2 h.2.1]
      clear c1 c2
      go_enter Try.func56, Try.ntmps56
      go_wp2_with fail
      go_ret
      exact ⟨rfl, HB.out⟩
  · have d1 : ((i.size : Int) == 32) = false := beqF c1
    have d1z : ¬ (i.size : Int) = 32 := by omega
    rw [show decide (rightSh (ShM.mk ⟨u, i, ⟨si, sp⟩, o⟩ a c).s) = false from no fun h => c1 h.1]
    clear c1
    go_enter Try.func56, Try.ntmps56
    go_wp2_with fail
    go_ret
    exact ⟨rfl, HB.out⟩
end Go.Proofs.Ytmmaimopombepaa