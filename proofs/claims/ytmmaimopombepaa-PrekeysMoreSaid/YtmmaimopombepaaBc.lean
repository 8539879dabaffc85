/- prekeys: mayBe, Right. -/
import Derived.Test.YtmmaimopombepaaBb
import Derived.Lib.QuietBelow
namespace Go.Proofs.Ytmmaimopombepaa
open Go.RowKit
set_option maxRecDepth 100000
theorem beqT {a b : Nat} (h : a = b) : ((a : Int) == (b : Int)) = true := by subst h; simp
theorem beqF {a b : Nat} (h : a ≠ b) : ((a : Int) == (b : Int)) = false := by simp; omega
theorem mayBe_any (m : ShM) (w : World) (h : PtsAt w m) :
    Calls Try.prog 51 #[.agg #[.int .u64 (m.s.user : Int), .string m.s.ident, .int .u64 (m.s.sgn.id : Int), .string m.s.sgn.pt, .slice m.a m.s.once.length m.c]] w fun e w' => e = .returned (.bool (decide (rightSh m.s))) ∧ Below w.heap.size w w' := by
  obtain ⟨⟨u, i, ⟨si, sp⟩, o⟩, a, c⟩ := m
  have hP := h.pp
  have hB : Below w.heap.size w (w.alloc (.cells #[.int .u64 (u : Int), .string i, .int .u64 (si : Int), .string sp, .slice a o.length c] 28)) := (Below.refl _ w).alloc (Nat.le_refl _) _
  have HP := Lib.hid (hP.on hB)
  have HB := Lib.hid hB
  clear h hP hB
  have no : ∀ {p : Prop} [Decidable p], ¬ p → decide p = false := fun h => decide_eq_false h
  by_cases c1 : i.size = 32
  · have d1 : ((i.size : Int) == 32) = true := beqT c1
    have d1z : (i.size : Int) = 32 := by omega
    by_cases c2 : sp.size = 32
    · have d2 : ((sp.size : Int) == 32) = true := beqT c2
      have d2z : (sp.size : Int) = 32 := by omega
      by_cases c3 : o.length ≤ 20
      · have d3 : (o.length : Int) ≤ 20 := by omega
        have HO := Lib.hid (areOnce_any a c o (by omega) _ HP.out)
        have hcell := cell_of_row (w.alloc (.cells #[.int .u64 (u : Int), .string i, .int .u64 (si : Int), .string sp, .slice a o.length c] 28)) w.heap.size 4 _ _ _ (heap_alloc_new w _)
        have HC := Lib.hid hcell
        clear hcell
        by_cases c4 : okPs o
        · have HD := Lib.hid (fun W hp => differ_any a c o (by omega) W hp)
          rw [show decide (okPs o) = true from decide_eq_true c4] at HO
          have e : decide (rightSh ⟨u, i, ⟨si, sp⟩, o⟩) = decide (alonePs o) := by
            by_cases c5 : alonePs o
            · rw [decide_eq_true c5, decide_eq_true (show rightSh ⟨u, i, ⟨si, sp⟩, o⟩ from ⟨c1, c2, c3, c4, c5⟩)]
            · rw [decide_eq_false c5, decide_eq_false (show ¬ rightSh ⟨u, i, ⟨si, sp⟩, o⟩ from fun h => c5 h.2.2.2.2)]
          rw [show (ShM.mk ⟨u, i, ⟨si, sp⟩, o⟩ a c).s = ⟨u, i, ⟨si, sp⟩, o⟩ from rfl, e]
          obtain ⟨r, hr⟩ : ∃ r, decide (alonePs o) = r := ⟨_, rfl⟩
          rw [hr] at HD ⊢
          clear c1 c2 c3 c4 e hr
          go_enter Try.func51, Try.ntmps51
          go_wp2_with (first
            | (go_at_call 67; refine HO.out.mono ?_; rintro e w2 ⟨rfl, hb2⟩; have hc4 := (hb2.cell (p := ⟨w.heap.size, 4, none⟩) (by simp)).trans HC.out)
            | (go_at_call 66; refine (HD.out _ (HP.out.on hb2)).mono ?_; rintro e w3 ⟨rfl, hb3⟩))
          go_ret
          exact ⟨rfl, HB.out.trans ((hb2.mono HB.out.size).trans (hb3.mono (Nat.le_trans HB.out.size hb2.size)))⟩
        · rw [show decide (okPs o) = false from decide_eq_false c4] at HO
          have e : decide (rightSh ⟨u, i, ⟨si, sp⟩, o⟩) = false := no fun h => c4 h.2.2.2.1
          rw [show (ShM.mk ⟨u, i, ⟨si, sp⟩, o⟩ a c).s = ⟨u, i, ⟨si, sp⟩, o⟩ from rfl, e]
          clear c1 c2 c3 c4 e
          go_enter Try.func51, Try.ntmps51
          go_wp2_with (go_at_call 67; refine HO.out.mono ?_; rintro e w2 ⟨rfl, hb2⟩)
          go_ret
          exact ⟨rfl, HB.out.trans (hb2.mono HB.out.size)⟩
      · have d3 : decide ((o.length : Int) ≤ 20) = false := decide_eq_false (by omega)
        have d3z : ¬ (o.length : Int) ≤ 20 := by omega
        rw [show decide (rightSh (ShM.mk ⟨u, i, ⟨si, sp⟩, o⟩ a c).s) = false from no fun h => c3 h.2.2.1]
        clear c1 c2 c3
        go_enter Try.func51, Try.ntmps51
        go_wp2_with fail
        go_ret
        exact ⟨rfl, HB.out⟩
    · have d2 : ((sp.size : Int) == 32) = false := beqF c2
      have d2z : ¬ (sp.size : Int) = 32 := by omega
      rw [show decide (rightSh (ShM.mk ⟨u, i, ⟨si, sp⟩, o⟩ a c).s) = false from no fun h => c2 h.2.1]
      clear c1 c2
      go_enter Try.func51, Try.ntmps51
      go_wp2_with fail
      go_ret
      exact ⟨rfl, HB.out⟩
  · have d1 : ((i.size : Int) == 32) = false := beqF c1
    have d1z : ¬ (i.size : Int) = 32 := by omega
    rw [show decide (rightSh (ShM.mk ⟨u, i, ⟨si, sp⟩, o⟩ a c).s) = false from no fun h => c1 h.1]
    clear c1
    go_enter Try.func51, Try.ntmps51
    go_wp2_with fail
    go_ret
    exact ⟨rfl, HB.out⟩

/-! ### shelves -/
structure SS (w : World) (a : Option Addr) (c : Nat) (L : List ShM) : Prop where
  sl : SlS w a L
  cap : L.length ≤ c
  nil : a = none → c = 0 ∧ L = []
theorem SS.on {w w' : World} {a : Option Addr} {c : Nat} {L : List ShM} (h : SS w a c L) (hb : Below w.heap.size w w') : SS w' a c L := ⟨h.sl.on hb, h.cap, h.nil⟩
theorem SS.empty (w : World) : SS w none 0 [] := ⟨SlS.nil _ _, Nat.le_refl _, fun _ => ⟨rfl, rfl⟩⟩
/-- a shelf's five cells -/
structure Sh5 (w : World) (b o : Nat) (m : ShM) : Prop where
  c0 : w.cell? ⟨b, o, Option.none⟩ = some (.int .u64 (m.s.user : Int))
  c1 : w.cell? ⟨b, o + 1, Option.none⟩ = some (.string m.s.ident)
  c2 : w.cell? ⟨b, o + 2, Option.none⟩ = some (.int .u64 (m.s.sgn.id : Int))
  c3 : w.cell? ⟨b, o + 3, Option.none⟩ = some (.string m.s.sgn.pt)
  c4 : w.cell? ⟨b, o + 4, Option.none⟩ = some (.slice m.a m.s.once.length m.c)
theorem SlS.get {w : World} {a : Option Addr} {L : List ShM} (h : SlS w a L) (i : Nat) (hi : i < L.length) : ∃ b off : Nat, a = some ⟨b, off, none⟩ ∧ b < w.heap.size ∧ ∀ j, (hj : j < L.length) → Sh5 w b (off + j * 5) L[j] := by
  obtain ⟨b, off, e, hlt, -⟩ := h.row (by omega)
  subst e
  exact ⟨b, off, rfl, hlt, fun j hj => ⟨h.sh j hj 0 _ rfl, h.sh j hj 1 _ rfl, h.sh j hj 2 _ rfl, h.sh j hj 3 _ rfl, h.sh j hj 4 _ rfl⟩⟩
def RiRel (w : World) (L : List ShM) (i : Value) (wr : World) : Prop := ∃ (k : Nat) (W : World), W = wr ∧ i = .int .i64 (k : Int) ∧ k ≤ L.length ∧ Below w.heap.size w wr ∧ (∀ s ∈ (shs L).take k, rightSh s) ∧ risesS ((shs L).take k)
set_option maxHeartbeats 8000000 in
theorem right_any (a : Option Addr) (c : Nat) (L : List ShM) (w : World) (h : SS w a c L) (hmax : L.length ≤ 1000) :
    Calls Try.prog 16 #[.slice a L.length c] w fun e w' => e = .returned (.bool (decide (rightSL (shs L)))) ∧ Below w.heap.size w w' := by
  have hsl := shs_length L
  by_cases h8 : L.length ≤ 8
  · have h8z : ¬ (L.length : Int) > 8 := by omega
    have h8z2 : (L.length : Int) ≤ 8 := by omega
    have H := Lib.hid h
    clear h
    go_enter Try.func16, Try.ntmps16
    go_wp2_with fail
    go_loopw [10] (RiRel w L) (fun i _ => L.length - (Lib.intOf i).toNat)
    case atStart => exact ⟨0, _, rfl, rfl, Nat.zero_le _, Below.refl _ _, fun s hs => by simp at hs, List.Pairwise.nil⟩
    case round =>
      obtain ⟨k, wr, rfl, rfl, h1, h2, h3, h4⟩ := hrel
      by_cases hk : k < L.length
      · have hkz : (k : Int) < (L.length : Int) := by omega
        obtain ⟨b, off, rfl, hlt, hall⟩ := (H.out.on h2).sl.get k hk
        have hks : k < (shs L).length := by omega
        have hat : (shs L)[k] = L[k].s := shs_get L k hk
        obtain ⟨m, em⟩ : ∃ m, L[k] = m := ⟨_, rfl⟩
        have hm5 := hall k hk
        have hpts := (H.out.on h2).sl.pts m (by rw [← em]; exact List.getElem_mem hk)
        rw [em] at hm5 hat
        obtain ⟨c0, c1, c2, c3, c4⟩ := hm5
        have htk : (shs L).take (k + 1) = (shs L).take k ++ [m.s] := by rw [List.take_succ_eq_append_getElem hks, hat]
        have hrn := rises_next (shs L) k hks
        rw [hat] at hrn
        obtain ⟨W, eW⟩ : ∃ W, wr.alloc (.cells #[.int .u64 (m.s.user : Int), .string m.s.ident, .int .u64 (m.s.sgn.id : Int), .string m.s.sgn.pt, .slice m.a m.s.once.length m.c] 28) = W := ⟨_, rfl⟩
        have hbW : Below wr.heap.size wr W := by rw [← eW]; exact (Below.refl _ wr).alloc (Nat.le_refl _) _
        have hcW := heap_alloc_new wr (.cells #[.int .u64 (m.s.user : Int), .string m.s.ident, .int .u64 (m.s.sgn.id : Int), .string m.s.sgn.pt, .slice m.a m.s.once.length m.c] 28)
        rw [eW] at hcW
        have HM := Lib.hid (fun (d : Nat) (os : Array Obj) => mayBe_any m (Sort.grow (redrawn W d) os) ((hpts.on hbW).on (below_regrown W d os)))
        obtain ⟨B, eB⟩ : ∃ B, wr.heap.size = B := ⟨_, rfl⟩
        have q0 := cell_regrown (show W.cell? ⟨B, 0, none⟩ = some (.int .u64 (m.s.user : Int)) by rw [← eB, cell_of_row _ _ _ _ _ _ hcW]; rfl)
        have q1 := cell_regrown (show W.cell? ⟨B, 1, none⟩ = some (.string m.s.ident) by rw [← eB, cell_of_row _ _ _ _ _ _ hcW]; rfl)
        have q2 := cell_regrown (show W.cell? ⟨B, 2, none⟩ = some (.int .u64 (m.s.sgn.id : Int)) by rw [← eB, cell_of_row _ _ _ _ _ _ hcW]; rfl)
        have q3 := cell_regrown (show W.cell? ⟨B, 3, none⟩ = some (.string m.s.sgn.pt) by rw [← eB, cell_of_row _ _ _ _ _ _ hcW]; rfl)
        have q4 := cell_regrown (show W.cell? ⟨B, 4, none⟩ = some (.slice m.a m.s.once.length m.c) by rw [← eB, cell_of_row _ _ _ _ _ _ hcW]; rfl)
        have HB := Lib.hid (h2.trans (hbW.mono h2.size))
        have Hk := Lib.hid (And.intro h3 (And.intro h4 (And.intro htk hrn)))
        have hbWz := hbW
        clear h2 h3 h4 htk hrn hcW hpts
        have no : rightSh m.s ∨ ¬ rightSh m.s := Decidable.em _
        rcases no with hr | hr
        · rw [show decide (rightSh m.s) = true from decide_eq_true hr] at HM
          have hr2 := Lib.hid hr
          clear hr
          by_cases hk0 : k = 0
          · have hkn0 : decide ((k : Int) > 0) = false := decide_eq_false (by omega)
            have hkn1 : decide ((0 : Int) < (k : Int)) = false := decide_eq_false (by omega)
            have hkn2 : decide (0 < k) = false := decide_eq_false (by omega)
            have hk0h := Lib.hid hk0
            clear hk0
            have HN := Lib.hid (show (∀ s ∈ (shs L).take (k + 1), rightSh s) ∧ risesS ((shs L).take (k + 1)) from ⟨fun s hs => by rw [Hk.out.2.2.1] at hs; rcases List.mem_append.1 hs with hs | hs; exact Hk.out.1 s hs; rw [List.mem_singleton.1 hs]; exact hr2.out, (Hk.out.2.2.2).2 ⟨Hk.out.2.1, fun j hj => by have := hk0h.out; omega⟩⟩)
            clear hall hbW hbWz em hat
            go_upto_region 6 with fail
            clear c0 c1 c2 c3 c4
            refine wp_region_quiet_below (by kernel_rfl) (by kernel_rfl) ?_
            iterate 18 (go_big_quiet_step (first | (go_at_call 51; with_reducible exact Calls.regrown_of (HM.out _ _))))
            refine wpQuiet_nil ?_
            intro _ hw'
            obtain ⟨⟨dq, osq⟩, hw''⟩ := hw'
            subst hw''
            have HB2 := Lib.hid (HB.out.trans ((below_regrown W dq osq).mono HB.out.size))
            generalize Sort.grow (redrawn W dq) osq = W1 at HB2 ⊢
            rename_i K hK
            refine hK _ _ ?_
            clear hK K
            go_wp2_with fail
            exact ⟨⟨k + 1, _, rfl, by go_num, by omega, HB2.out, HN.out.1, HN.out.2⟩, by simp [Lib.intOf]; omega⟩
          · obtain ⟨j, rfl⟩ : ∃ j, k = j + 1 := ⟨k - 1, by omega⟩
            have hp5 := (hall j (by omega)).c0
            have hpj : (shs L)[j]'(by omega) = L[j].s := shs_get L j (by omega)
            obtain ⟨pu, epu⟩ : ∃ pu, L[j].s.user = pu := ⟨_, rfl⟩
            rw [epu] at hp5
            have qp := cell_regrown ((hbW.cell (p := ⟨b, off + j * 5, none⟩) (by exact hlt)).trans hp5)
            have hkn0 : decide ((j : Int) + 1 > 0) = true := decide_eq_true (by omega)
            by_cases hlu : pu < m.s.user
            · have hluz : decide ((pu : Int) ≥ (m.s.user : Int)) = false := decide_eq_false (by omega)
              have HN := Lib.hid (show (∀ s ∈ (shs L).take (j + 1 + 1), rightSh s) ∧ risesS ((shs L).take (j + 1 + 1)) from ⟨fun s hs => by rw [Hk.out.2.2.1] at hs; rcases List.mem_append.1 hs with hs | hs; exact Hk.out.1 s hs; rw [List.mem_singleton.1 hs]; exact hr2.out, (Hk.out.2.2.2).2 ⟨Hk.out.2.1, fun i hi => by obtain rfl : i = j := (by omega); rw [hpj, epu]; exact hlu⟩⟩)
              clear hall hbW hbWz em hat hp5 hpj epu
              go_upto_region 6 with fail
              clear c0 c1 c2 c3 c4
              refine wp_region_quiet_below (by kernel_rfl) (by kernel_rfl) ?_
              iterate 18 (go_big_quiet_step (first | (go_at_call 51; with_reducible exact Calls.regrown_of (HM.out _ _))))
              refine wpQuiet_nil ?_
              intro _ hw'
              obtain ⟨⟨dq, osq⟩, hw''⟩ := hw'
              subst hw''
              have HB2 := Lib.hid (HB.out.trans ((below_regrown W dq osq).mono HB.out.size))
              generalize Sort.grow (redrawn W dq) osq = W1 at HB2 ⊢
              rename_i K hK
              refine hK _ _ ?_
              clear hK K
              go_wp2_with fail
              exact ⟨⟨j + 1 + 1, _, rfl, by go_num, by omega, HB2.out, HN.out.1, HN.out.2⟩, by simp [Lib.intOf]; omega⟩
            · have hluz : decide ((pu : Int) ≥ (m.s.user : Int)) = true := decide_eq_true (by omega)
              have hd := Lib.hid (decide_eq_false (show ¬ rightSL (shs L) from fun h => by
                have := rises_step h.2.2 j (j + 1) (by omega) (by omega)
                rw [hpj, hat, epu] at this
                exact hlu this))
              clear hall hbW hbWz em hat hp5 hpj epu
              go_upto_region 6 with fail
              clear c0 c1 c2 c3 c4
              refine wp_region_quiet_below (by kernel_rfl) (by kernel_rfl) ?_
              iterate 18 (go_big_quiet_step (first | (go_at_call 51; with_reducible exact Calls.regrown_of (HM.out _ _))))
              refine wpQuiet_nil ?_
              intro _ hw'
              obtain ⟨⟨dq, osq⟩, hw''⟩ := hw'
              subst hw''
              have HB2 := Lib.hid (HB.out.trans ((below_regrown W dq osq).mono HB.out.size))
              generalize Sort.grow (redrawn W dq) osq = W1 at HB2 ⊢
              rename_i K hK
              refine hK _ _ ?_
              clear hK K
              go_wp2_with fail
              go_ret
              exact ⟨by rw [hd.out]; rfl, HB2.out⟩
        · rw [show decide (rightSh m.s) = false from decide_eq_false hr] at HM
          have hd := Lib.hid (decide_eq_false (show ¬ rightSL (shs L) from fun h => hr (by rw [← hat]; exact h.2.1 _ (List.getElem_mem hks))))
          clear hr hall hbW hbWz em hat
          go_upto_region 6 with fail
          clear c0 c1 c2 c3 c4
          refine wp_region_quiet_below (by kernel_rfl) (by kernel_rfl) ?_
          iterate 18 (go_big_quiet_step (first | (go_at_call 51; with_reducible exact Calls.regrown_of (HM.out _ _))))
          refine wpQuiet_nil ?_
          intro _ hw'
          obtain ⟨⟨dq, osq⟩, hw''⟩ := hw'
          subst hw''
          have HB2 := Lib.hid (HB.out.trans ((below_regrown W dq osq).mono HB.out.size))
          generalize Sort.grow (redrawn W dq) osq = W1 at HB2 ⊢
          rename_i K hK
          refine hK _ _ ?_
          clear hK K
          go_wp2_with fail
          go_ret
          exact ⟨by rw [hd.out]; rfl, HB2.out⟩
      · have hkz : ¬ (k : Int) < (L.length : Int) := by omega
        have hkn : k = (shs L).length := by omega
        rw [hkn, List.take_length] at h3 h4
        have hd := Lib.hid (decide_eq_true (show rightSL (shs L) from ⟨by omega, h3, h4⟩))
        clear h3 h4
        go_wp2_with fail
        go_ret
        exact ⟨by rw [hd.out]; rfl, h2⟩
  · have h8z : (L.length : Int) > 8 := by omega
    have hd := Lib.hid (decide_eq_false (show ¬ rightSL (shs L) from fun h => h8 (by have := h.1; omega)))
    clear h
    go_enter Try.func16, Try.ntmps16
    go_wp2_with fail
    go_ret
    exact ⟨by rw [hd.out]; rfl, Below.refl _ _⟩
end Go.Proofs.Ytmmaimopombepaa