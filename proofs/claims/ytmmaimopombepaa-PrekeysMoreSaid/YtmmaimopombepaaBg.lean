/- The reference 15's Right, At. -/
import Derived.Test.YtmmaimopombepaaBf
namespace Go.Proofs.Ytmmaimopombepaa
open Go.RowKit
set_option maxRecDepth 100000
set_option maxHeartbeats 8000000 in
theorem rightR_any (a : Option Addr) (c : Nat) (L : List ShM) (w : World) (h : SS w a c L) (hmax : L.length ≤ 1000) :
    Calls Try.prog 17 #[.slice a L.length c] w fun e w' => e = .returned (.bool (decide (rightSL (shs L)))) ∧ Below w.heap.size w w' := by
  have hsl := shs_length L
  have qL : (L.length : Int) ≤ 1000 := by omega
  have H := Lib.hid h
  clear h
  go_enter Try.func17, Try.ntmps17
  go_wp2_with fail
  go_loopw [7] (RiRel w L) (fun i _ => L.length - (Lib.intOf i).toNat)
  case atStart => exact ⟨0, _, rfl, rfl, Nat.zero_le _, Below.refl _ _, fun s hs => by simp at hs, List.Pairwise.nil⟩
  case round =>
    obtain ⟨k, wr, rfl, rfl, h1, h2, h3, h4⟩ := hrel
    by_cases hk : k < L.length
    · have hkz : (k : Int) < (L.length : Int) := by omega
      obtain ⟨b, off, rfl, hlt, hall⟩ := (H.out.on h2).sl.get k hk
      have hks : k < (shs L).length := by omega
      have hat : (shs L)[k] = L[k].s := shs_get L k hk
      obtain ⟨m, em⟩ : ∃ m, L[k] = m := ⟨_, rfl⟩
      have hm5 := hall k hk
      have hpts := (H.out.on h2).sl.pts m (by rw [← em]; exact List.getElem_mem hk)
      rw [em] at hm5 hat
      obtain ⟨c0, c1, c2, c3, c4⟩ := hm5
      have htk : (shs L).take (k + 1) = (shs L).take k ++ [m.s] := by rw [List.take_succ_eq_append_getElem hks, hat]
      have hrn := rises_next (shs L) k hks
      rw [hat] at hrn
      obtain ⟨W, eW⟩ : ∃ W, wr.alloc (.cells #[.int .u64 (m.s.user : Int), .string m.s.ident, .int .u64 (m.s.sgn.id : Int), .string m.s.sgn.pt, .slice m.a m.s.once.length m.c] 28) = W := ⟨_, rfl⟩
      have hbW : Below wr.heap.size wr W := by rw [← eW]; exact (Below.refl _ wr).alloc (Nat.le_refl _) _
      have hcW := heap_alloc_new wr (.cells #[.int .u64 (m.s.user : Int), .string m.s.ident, .int .u64 (m.s.sgn.id : Int), .string m.s.sgn.pt, .slice m.a m.s.once.length m.c] 28)
      rw [eW] at hcW
      have HM := Lib.hid (fun (d : Nat) (os : Array Obj) => shelfR_any m (Sort.grow (redrawn W d) os) ((hpts.on hbW).on (below_regrown W d os)))
      obtain ⟨B, eB⟩ : ∃ B, wr.heap.size = B := ⟨_, rfl⟩
      have q0 := cell_regrown (show W.cell? ⟨B, 0, none⟩ = some (.int .u64 (m.s.user : Int)) by rw [← eB, cell_of_row _ _ _ _ _ _ hcW]; rfl)
      have q1 := cell_regrown (show W.cell? ⟨B, 1, none⟩ = some (.string m.s.ident) by rw [← eB, cell_of_row _ _ _ _ _ _ hcW]; rfl)
      have q2 := cell_regrown (show W.cell? ⟨B, 2, none⟩ = some (.int .u64 (m.s.sgn.id : Int)) by rw [← eB, cell_of_row _ _ _ _ _ _ hcW]; rfl)
      have q3 := cell_regrown (show W.cell? ⟨B, 3, none⟩ = some (.string m.s.sgn.pt) by rw [← eB, cell_of_row _ _ _ _ _ _ hcW]; rfl)
      have q4 := cell_regrown (show W.cell? ⟨B, 4, none⟩ = some (.slice m.a m.s.once.length m.c) by rw [← eB, cell_of_row _ _ _ _ _ _ hcW]; rfl)
      have HB := Lib.hid (h2.trans (hbW.mono h2.size))
      have Hk := Lib.hid (And.intro h3 (And.intro h4 (And.intro htk hrn)))
      have hbWz := hbW
      clear h2 h3 h4 htk hrn hcW hpts
      have no : rightSh m.s ∨ ¬ rightSh m.s := Decidable.em _
      rcases no with hr | hr
      · rw [show decide (rightSh m.s) = true from decide_eq_true hr] at HM
        have hr2 := Lib.hid hr
        clear hr
        by_cases hk0 : k = 0
        · have hkn0 : decide ((k : Int) > 0) = false := decide_eq_false (by omega)
          have hkn1 : decide ((0 : Int) < (k : Int)) = false := decide_eq_false (by omega)
          have hkn2 : decide (0 < k) = false := decide_eq_false (by omega)
          have hk0h := Lib.hid hk0
          clear hk0
          have HN := Lib.hid (show (∀ s ∈ (shs L).take (k + 1), rightSh s) ∧ risesS ((shs L).take (k + 1)) from ⟨fun s hs => by rw [Hk.out.2.2.1] at hs; rcases List.mem_append.1 hs with hs | hs; exact Hk.out.1 s hs; rw [List.mem_singleton.1 hs]; exact hr2.out, (Hk.out.2.2.2).2 ⟨Hk.out.2.1, fun j hj => by have := hk0h.out; omega⟩⟩)
          clear hall hbW hbWz em hat
          go_upto_region 4 with fail
          clear c0 c1 c2 c3 c4
          refine wp_region_quiet_below (by kernel_rfl) (by kernel_rfl) ?_
          iterate 18 (go_big_quiet_step (first | (go_at_call 56; with_reducible exact Calls.regrown_of (HM.out _ _))))
          refine wpQuiet_nil ?_
          intro _ hw'
          obtain ⟨⟨dq, osq⟩, hw''⟩ := hw'
          subst hw''
          have HB2 := Lib.hid (HB.out.trans ((below_regrown W dq osq).mono HB.out.size))
          generalize Sort.grow (redrawn W dq) osq = W1 at HB2 ⊢
          rename_i K hK
          refine hK _ _ ?_
          clear hK K
          go_wp2_with fail
          exact ⟨⟨k + 1, _, rfl, by go_num, by omega, HB2.out, HN.out.1, HN.out.2⟩, by simp [Lib.intOf]; omega⟩
        · obtain ⟨j, rfl⟩ : ∃ j, k = j + 1 := ⟨k - 1, by omega⟩
          have hp5 := (hall j (by omega)).c0
          have hpj : (shs L)[j]'(by omega) = L[j].s := shs_get L j (by omega)
          obtain ⟨pu, epu⟩ : ∃ pu, L[j].s.user = pu := ⟨_, rfl⟩
          rw [epu] at hp5
          have qp := cell_regrown ((hbW.cell (p := ⟨b, off + j * 5, none⟩) (by exact hlt)).trans hp5)
          have hkn0 : decide ((j : Int) + 1 > 0) = true := decide_eq_true (by omega)
          by_cases hlu : pu < m.s.user
          · have hluz : decide ((pu : Int) ≥ (m.s.user : Int)) = false := decide_eq_false (by omega)
            have HN := Lib.hid (show (∀ s ∈ (shs L).take (j + 1 + 1), rightSh s) ∧ risesS ((shs L).take (j + 1 + 1)) from ⟨fun s hs => by rw [Hk.out.2.2.1] at hs; rcases List.mem_append.1 hs with hs | hs; exact Hk.out.1 s hs; rw [List.mem_singleton.1 hs]; exact hr2.out, (Hk.out.2.2.2).2 ⟨Hk.out.2.1, fun i hi => by obtain rfl : i = j := (by omega); rw [hpj, epu]; exact hlu⟩⟩)
            clear hall hbW hbWz em hat hp5 hpj epu
            go_upto_region 4 with fail
            clear c0 c1 c2 c3 c4
            refine wp_region_quiet_below (by kernel_rfl) (by kernel_rfl) ?_
            iterate 18 (go_big_quiet_step (first | (go_at_call 56; with_reducible exact Calls.regrown_of (HM.out _ _))))
            refine wpQuiet_nil ?_
            intro _ hw'
            obtain ⟨⟨dq, osq⟩, hw''⟩ := hw'
            subst hw''
            have HB2 := Lib.hid (HB.out.trans ((below_regrown W dq osq).mono HB.out.size))
            generalize Sort.grow (redrawn W dq) osq = W1 at HB2 ⊢
            rename_i K hK
            refine hK _ _ ?_
            clear hK K
            go_wp2_with fail
            exact ⟨⟨j + 1 + 1, _, rfl, by go_num, by omega, HB2.out, HN.out.1, HN.out.2⟩, by simp [Lib.intOf]; omega⟩
          · have hluz : decide ((pu : Int) ≥ (m.s.user : Int)) = true := decide_eq_true (by omega)
            have hd := Lib.hid (decide_eq_false (show ¬ rightSL (shs L) from fun h => by
              have := rises_step h.2.2 j (j + 1) (by omega) (by omega)
              rw [hpj, hat, epu] at this
              exact hlu this))
            clear hall hbW hbWz em hat hp5 hpj epu
            go_upto_region 4 with fail
            clear c0 c1 c2 c3 c4
            refine wp_region_quiet_below (by kernel_rfl) (by kernel_rfl) ?_
            iterate 18 (go_big_quiet_step (first | (go_at_call 56; with_reducible exact Calls.regrown_of (HM.out _ _))))
            refine wpQuiet_nil ?_
            intro _ hw'
            obtain ⟨⟨dq, osq⟩, hw''⟩ := hw'
            subst hw''
            have HB2 := Lib.hid (HB.out.trans ((below_regrown W dq osq).mono HB.out.size))
            generalize Sort.grow (redrawn W dq) osq = W1 at HB2 ⊢
            rename_i K hK
            refine hK _ _ ?_
            clear hK K
            go_wp2_with fail
            go_ret
            exact ⟨by rw [hd.out]; rfl, HB2.out⟩
      · rw [show decide (rightSh m.s) = false from decide_eq_false hr] at HM
        have hd := Lib.hid (decide_eq_false (show ¬ rightSL (shs L) from fun h => hr (by rw [← hat]; exact h.2.1 _ (List.getElem_mem hks))))
        clear hr hall hbW hbWz em hat
        go_upto_region 4 with fail
        clear c0 c1 c2 c3 c4
        refine wp_region_quiet_below (by kernel_rfl) (by kernel_rfl) ?_
        iterate 18 (go_big_quiet_step (first | (go_at_call 56; with_reducible exact Calls.regrown_of (HM.out _ _))))
        refine wpQuiet_nil ?_
        intro _ hw'
        obtain ⟨⟨dq, osq⟩, hw''⟩ := hw'
        subst hw''
        have HB2 := Lib.hid (HB.out.trans ((below_regrown W dq osq).mono HB.out.size))
        generalize Sort.grow (redrawn W dq) osq = W1 at HB2 ⊢
        rename_i K hK
        refine hK _ _ ?_
        clear hK K
        go_wp2_with fail
        go_ret
        exact ⟨by rw [hd.out]; rfl, HB2.out⟩
    · have hkz : ¬ (k : Int) < (L.length : Int) := by omega
      have hkn : k = (shs L).length := by omega
      rw [hkn, List.take_length] at h3 h4
      by_cases h8 : L.length ≤ 8
      · have h8z : (L.length : Int) ≤ 8 := by omega
        have hd := Lib.hid (decide_eq_true (show rightSL (shs L) from ⟨by omega, h3, h4⟩))
        clear h3 h4
        go_wp2_with fail
        go_ret
        exact ⟨by rw [hd.out]; first | rfl | simp [h8z], h2⟩
      · have h8z : decide ((L.length : Int) ≤ 8) = false := decide_eq_false (by omega)
        have h8z2 : ¬ (L.length : Int) ≤ 8 := by omega
        have hd := Lib.hid (decide_eq_false (show ¬ rightSL (shs L) from fun h => h8 (by have := h.1; omega)))
        clear h3 h4
        go_wp2_with fail
        go_ret
        exact ⟨by rw [hd.out]; first | rfl | simp [h8z2], h2⟩

def AtRel (w : World) (L : List ShM) (u : Nat) (i : Value) (wr : World) : Prop := ∃ (k : Nat) (W : World), W = wr ∧ i = .int .i64 (k : Int) ∧ k ≤ L.length ∧ Below w.heap.size w wr ∧ ∀ j, (hj : j < (shs L).length) → j < k → (shs L)[j].user ≠ u
def atZ (l : List Sh) (u : Nat) : Int := match placeS l u with
  | some i => (i : Int)
  | none => -1
set_option maxHeartbeats 4000000 in
theorem atR_any (a : Option Addr) (c : Nat) (L : List ShM) (u : Nat) (w : World) (h : SS w a c L) (hmax : L.length ≤ 1000) :
    Calls Try.prog 25 #[.slice a L.length c, .int .u64 (u : Int)] w fun e w' => e = .returned (.int .i64 (atZ (shs L) u)) ∧ Below w.heap.size w w' := by
  have hsl := shs_length L
  have H := Lib.hid h
  have q : (L.length : Int) ≤ 1000 := by omega
  clear h
  go_enter Try.func25, Try.ntmps25
  go_wp2_with fail
  go_loopw [9] (AtRel w L u) (fun i _ => L.length - (Lib.intOf i).toNat)
  case atStart => exact ⟨0, _, rfl, rfl, Nat.zero_le _, Below.refl _ _, fun j _ hj => absurd hj (Nat.not_lt_zero j)⟩
  case round =>
    obtain ⟨k, wr, rfl, rfl, h1, h2, h3⟩ := hrel
    by_cases hk : k < L.length
    · have hkz : (k : Int) < (L.length : Int) := by omega
      obtain ⟨b, off, rfl, hlt, hall⟩ := (H.out.on h2).sl.get k hk
      have hks : k < (shs L).length := by omega
      have hat : (shs L)[k] = L[k].s := shs_get L k hk
      have hm5 := hall k hk
      obtain ⟨m, em⟩ : ∃ m, L[k] = m := ⟨_, rfl⟩
      rw [em] at hm5 hat
      obtain ⟨c0, c1, c2, c3, c4⟩ := hm5
      have HB := Lib.hid (h2.alloc h2.size (.cells #[.int .u64 (m.s.user : Int), .string m.s.ident, .int .u64 (m.s.sgn.id : Int), .string m.s.sgn.pt, .slice m.a m.s.once.length m.c] 28))
      have hne := nat_eqU m.s.user u
      by_cases he : m.s.user = u
      · rw [decide_eq_true he] at hne
        have HN := Lib.hid (show atZ (shs L) u = (k : Int) by
          unfold atZ
          rw [place_here hks (fun j hj => h3 j (by omega) hj) (by rw [hat]; exact he)])
        have HE := Lib.hid he
        clear h2 h3 hall em hat he
        go_wp2_with fail
        go_ret
        exact ⟨by rw [HN.out]; rfl, HB.out⟩
      · rw [decide_eq_false he] at hne
        have HN := Lib.hid (show ∀ j, (hj : j < (shs L).length) → j < k + 1 → (shs L)[j].user ≠ u from fun j hj hjk => by
          by_cases e : j = k
          · subst e; rw [hat]; exact he
          · exact h3 j hj (by omega))
        clear h2 h3 hall em hat he
        go_wp2_with fail
        exact ⟨⟨k + 1, _, rfl, by go_num, by omega, HB.out, HN.out⟩, by simp [Lib.intOf]; omega⟩
    · have hkz : ¬ (k : Int) < (L.length : Int) := by omega
      have HN := Lib.hid (show atZ (shs L) u = -1 by
        unfold atZ
        rw [place_nowhere (fun j hj => h3 j hj (by omega))])
      clear h3
      go_wp2_with fail
      go_ret
      exact ⟨by rw [HN.out]; rfl, h2⟩
end Go.Proofs.Ytmmaimopombepaa