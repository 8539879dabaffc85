/- relay: Right. -/
import Derived.Test.YtmmaimopombepaaCg
namespace Go.Proofs.Ytmmaimopombepaa
open Go.RowKit
set_option maxRecDepth 100000

def RbRel (W0 : World) (now next : Nat) (l : List Bx) (i : Value) (wr : World) : Prop := ∃ (k : Nat) (W : World), W = wr ∧ i = .int .i64 (k : Int) ∧ k ≤ l.length ∧ Below W0.heap.size W0 wr ∧ okBs now next (l.take k)
set_option maxHeartbeats 8000000 in
theorem rightRl_any (a : Option Addr) (c : Nat) (L : List BxM) (now next : Nat) (hn : now < 18446744073709551616) (hf : ∀ m ∈ L, m.s.ml.length ≤ 1000) (w : World) (h : SB w a c L) :
    Calls Try.prog 36 #[.agg #[.slice a L.length c, .int .u64 (now : Int), .int .u64 (next : Int)]] w fun e w' => e = .returned (.bool (decide (rightR ⟨bxs L, now, next⟩))) ∧ Below w.heap.size w w' := by
  have hsl := bxs_length L
  obtain ⟨len, elen⟩ : ∃ len, L.length = len := ⟨_, rfl⟩
  rw [elen] at hsl ⊢
  obtain ⟨W0, eW0⟩ : ∃ W0, w.alloc (.cells #[.slice a len c, .int .u64 (now : Int), .int .u64 (next : Int)] 56) = W0 := ⟨_, rfl⟩
  have b0 : Below w.heap.size w W0 := by rw [← eW0]; exact (Below.refl _ w).alloc (Nat.le_refl _) _
  obtain ⟨R, eR⟩ : ∃ R, w.heap.size = R := ⟨_, rfl⟩
  have kR : BlkV W0 R 56 [.slice a len c, .int .u64 (now : Int), .int .u64 (next : Int)] := by rw [← eW0, ← eR]; exact BlkV.fresh w _ _ _ rfl _ rfl
  have d0 := kR.cell 0 _ rfl
  have d1 := kR.cell 1 _ rfl
  have d2 := kR.cell 2 _ rfl
  have HK := Lib.hid (And.intro (show Below R w W0 by rw [← eR]; exact b0) (And.intro kR (h.on b0)))
  have HRW := Lib.hid (show R ≤ W0.heap.size by rw [← eR]; exact b0.size)
  have HF := Lib.hid hf
  clear b0 kR h hf
  go_enter Try.func36, Try.ntmps36
  go_upto_region 1 with fail
  clear eW0
  by_cases h8 : len ≤ 8
  case neg =>
    have hz : (len : Int) > 8 := by omega
    have hd := Lib.hid (decide_eq_false (show ¬ rightR ⟨bxs L, now, next⟩ from fun h => h8 (by rw [← hsl]; exact h.1)))
    go_wp2_with fail
    go_ret
    exact ⟨by rw [hd.out]; rfl, by first | exact HK.out.1 | (rw [eR]; exact HK.out.1)⟩
  by_cases hnw : now < 4611686018427387904
  case neg =>
    have hz : ¬ (len : Int) > 8 := by omega
    have hz2 : (now : Int) ≥ 4611686018427387904 := by omega
    have hz3 : decide (4611686018427387904 ≤ now) = true := decide_eq_true (by omega)
    have hd := Lib.hid (decide_eq_false (show ¬ rightR ⟨bxs L, now, next⟩ from fun h => hnw h.2.1))
    go_wp2_with fail
    go_ret
    exact ⟨by rw [hd.out]; rfl, by first | exact HK.out.1 | (rw [eR]; exact HK.out.1)⟩
  by_cases hnx : next < 4611686018427387904
  case neg =>
    have hz : ¬ (len : Int) > 8 := by omega
    have hz2 : ¬ (now : Int) ≥ 4611686018427387904 := by omega
    have hz3 : (next : Int) ≥ 4611686018427387904 := by omega
    have hd := Lib.hid (decide_eq_false (show ¬ rightR ⟨bxs L, now, next⟩ from fun h => hnx h.2.2.1))
    go_wp2_with fail
    go_ret
    exact ⟨by rw [hd.out]; rfl, by first | exact HK.out.1 | (rw [eR]; exact HK.out.1)⟩
  have hz : ¬ (len : Int) > 8 := by omega
  have hz2 : ¬ (now : Int) ≥ 4611686018427387904 := by omega
  have hz3 : ¬ (next : Int) ≥ 4611686018427387904 := by omega
  have hz4 : (len : Int) ≤ 8 := by omega
  have HL := Lib.hid (And.intro h8 (And.intro hnw hnx))
  clear h8 hnw hnx
  go_wp2_with fail
  go_loopw [22] (RbRel W0 now next (bxs L)) (fun i _ => len - (Lib.intOf i).toNat)
  case atStart => exact ⟨0, _, rfl, rfl, Nat.zero_le _, Below.refl _ _, okBs_nil _ _⟩
  case round =>
    clear d0 d1 d2
    obtain ⟨k, wr, rfl, rfl, h1, h2, h3⟩ := hrel
    by_cases hkn : k < len
    · have hkz : (k : Int) < (len : Int) := by omega
      have hkL : k < L.length := by omega
      have hks : k < (bxs L).length := by omega
      have hSr := HK.out.2.2.on h2
      obtain ⟨b, off, rfl, hlt, hall⟩ := hSr.get k hkL
      obtain ⟨c0, c1⟩ := hall k hkL
      have hiff := okBs_step now next (bxs L) k hks
      have hpm := hSr.mls _ (List.getElem_mem hkL)
      have hfl := HF.out _ (List.getElem_mem hkL)
      rw [bxs_get L k hkL] at hiff
      obtain ⟨x, ex⟩ : ∃ x, L[k] = x := ⟨_, rfl⟩
      rw [ex] at c0 c1 hiff hpm hfl
      obtain ⟨W1, eW1⟩ : ∃ W1, wr.alloc (.cells #[.int .u64 (x.s.user : Int), .slice x.a x.s.ml.length x.c] 101) = W1 := ⟨_, rfl⟩
      have b1 : Below wr.heap.size wr W1 := by rw [← eW1]; exact (Below.refl _ wr).alloc (Nat.le_refl _) _
      obtain ⟨S, eS⟩ : ∃ S, wr.heap.size = S := ⟨_, rfl⟩
      have kM : BlkV W1 S 101 [.int .u64 (x.s.user : Int), .slice x.a x.s.ml.length x.c] := by rw [← eW1, ← eS]; exact BlkV.fresh wr _ _ _ rfl _ rfl
      have b01 := h2.trans (b1.mono h2.size)
      have kR1 := HK.out.2.1.on b01
      have q0 := cell_regrown (kM.cell 0 _ rfl)
      have q1 := cell_regrown (kM.cell 1 _ rfl)
      have r0 := cell_regrown (kR1.cell 0 _ rfl)
      have r1 := cell_regrown (kR1.cell 1 _ rfl)
      have r2 := cell_regrown (kR1.cell 2 _ rfl)
      have HM0 := fun (d : Nat) (os : Array Obj) => boxMayBe_any (some ⟨b, off, none⟩) len c now next hn x hfl (Sort.grow (redrawn W1 d) os) ((hpm.on b1).on (below_regrown W1 d os))
      have HB := Lib.hid (And.intro b01 (And.intro h3 (fun hb : ¬ okBs now next ((bxs L).take (k + 1)) => fun hl : okBs now next (bxs L) => hb (okBs_sub hl _))))
      have hpv : ∀ h0 : 0 < k, wr.cell? ⟨b, off + (k - 1) * 2, none⟩ = some (.int .u64 ((L[k - 1]'(by omega)).s.user : Int)) := fun h0 => (hall (k - 1) (by omega)).1
      have hpu : ∀ h0 : 0 < k, ((bxs L)[k - 1]'(by omega)).user = (L[k - 1]'(by omega)).s.user := fun h0 => by rw [bxs_get L (k - 1) (by omega)]
      obtain ⟨rm, erm⟩ : ∃ rm, decide (okBx now next x.s) = rm := ⟨_, rfl⟩
      simp only [erm] at HM0
      have HM := Lib.hid HM0
      have HR := Lib.hid erm
      have HI := Lib.hid hiff
      have hb1 := b1
      clear h2 h3 hiff b1 kM b01 kR1 hall hSr erm ex hpm hfl HM0
      by_cases hk0 : k = 0
      · have hkn0 : decide ((k : Int) > 0) = false := decide_eq_false (by omega)
        have hkn1 : decide (0 < k) = false := decide_eq_false (by omega)
        have HN := Lib.hid (show okBs now next ((bxs L).take (k + 1)) ↔ okBx now next x.s from ⟨fun h => (HI.out.1 h).2.1, fun h => HI.out.2 ⟨HB.out.2.1, h, fun h0 => by omega⟩⟩)
        clear hk0 hpv hpu HI hb1
        go_upto_region 6 with fail
        clear eW1 c0 c1
        cases rm
        · skip
          refine wp_region_quiet_below (by kernel_rfl) (by kernel_rfl) ?_
          iterate 20 (go_big_quiet_step (first | (go_at_call 74; with_reducible exact Calls.regrown_of (HM.out _ _))))
          refine wpQuiet_nil ?_
          intro _ hw'
          obtain ⟨⟨dq, osq⟩, hw''⟩ := hw'
          subst hw''
          have HB2 := Lib.hid (below_regrown W1 dq osq)
          generalize Sort.grow (redrawn W1 dq) osq = W1 at HB2 ⊢
          rename_i K hK
          refine hK _ _ ?_
          clear hK K
          go_wp2_with fail
          go_ret
          have : ¬ rightR ⟨bxs L, now, next⟩ := fun hh => HB.out.2.2 (fun hok => of_decide_eq_false HR.out (HN.out.1 hok)) hh.2.2.2
          have hbb := HK.out.1.trans ((HB.out.1.trans (HB2.out.mono HB.out.1.size)).mono HRW.out)
          exact ⟨by rw [decide_eq_false this]; rfl, by first | exact hbb | (rw [eR]; exact hbb)⟩
        · skip
          refine wp_region_quiet_below (by kernel_rfl) (by kernel_rfl) ?_
          iterate 20 (go_big_quiet_step (first | (go_at_call 74; with_reducible exact Calls.regrown_of (HM.out _ _))))
          refine wpQuiet_nil ?_
          intro _ hw'
          obtain ⟨⟨dq, osq⟩, hw''⟩ := hw'
          subst hw''
          have HB2 := Lib.hid (below_regrown W1 dq osq)
          generalize Sort.grow (redrawn W1 dq) osq = W1 at HB2 ⊢
          rename_i K hK
          refine hK _ _ ?_
          clear hK K
          go_wp2_with fail
          exact ⟨⟨k + 1, _, rfl, by go_num, by omega, HB.out.1.trans (HB2.out.mono HB.out.1.size), HN.out.2 (of_decide_eq_true HR.out)⟩, by simp [Lib.intOf]; omega⟩
      · obtain ⟨j, rfl⟩ : ∃ j, k = j + 1 := ⟨k - 1, by omega⟩
        have hpj := hpv (by omega)
        have hpi := hpu (by omega)
        simp only [Nat.add_sub_cancel] at hpj hpi
        have HI2 := HI.out
        simp only [Nat.add_sub_cancel] at HI2
        obtain ⟨pu, epu⟩ : ∃ pu, (L[j]'(by omega)).s.user = pu := ⟨_, rfl⟩
        rw [epu] at hpj hpi
        simp only [hpi] at HI2
        have qp := cell_regrown ((hb1.cell (p := ⟨b, off + j * 2, none⟩) (by exact hlt)).trans hpj)
        have hkn0 : decide ((j : Int) + 1 > 0) = true := decide_eq_true (by omega)
        by_cases hlu : pu < x.s.user
        · have hluz : decide (x.s.user ≤ pu) = false := decide_eq_false (by omega)
          have HN := Lib.hid (show okBs now next ((bxs L).take (j + 1 + 1)) ↔ okBx now next x.s from ⟨fun h => (HI2.1 h).2.1, fun h => HI2.2 ⟨HB.out.2.1, h, fun h0 => hlu⟩⟩)
          have HKS := Lib.hid hks
          have HHZ := Lib.hid (And.intro hz2 hz3)
          clear hk0 hpv hpu HI HI2 hb1 hpj hpi epu hlu hks h1 hkL hz hz2 hz3
          go_upto_region 6 with fail
          clear eW1 c0 c1
          cases rm
          · skip
            refine wp_region_quiet_below (by kernel_rfl) (by kernel_rfl) ?_
            iterate 20 (go_big_quiet_step (first | (go_at_call 74; with_reducible exact Calls.regrown_of (HM.out _ _))))
            refine wpQuiet_nil ?_
            intro _ hw'
            obtain ⟨⟨dq, osq⟩, hw''⟩ := hw'
            subst hw''
            have HB2 := Lib.hid (below_regrown W1 dq osq)
            generalize Sort.grow (redrawn W1 dq) osq = W1 at HB2 ⊢
            rename_i K hK
            refine hK _ _ ?_
            clear hK K
            go_wp2_with fail
            go_ret
            have : ¬ rightR ⟨bxs L, now, next⟩ := fun hh => HB.out.2.2 (fun hok => of_decide_eq_false HR.out (HN.out.1 hok)) hh.2.2.2
            have hbb := HK.out.1.trans ((HB.out.1.trans (HB2.out.mono HB.out.1.size)).mono HRW.out)
            exact ⟨by rw [decide_eq_false this]; rfl, by first | exact hbb | (rw [eR]; exact hbb)⟩
          · skip
            refine wp_region_quiet_below (by kernel_rfl) (by kernel_rfl) ?_
            iterate 20 (go_big_quiet_step (first | (go_at_call 74; with_reducible exact Calls.regrown_of (HM.out _ _))))
            refine wpQuiet_nil ?_
            intro _ hw'
            obtain ⟨⟨dq, osq⟩, hw''⟩ := hw'
            subst hw''
            have HB2 := Lib.hid (below_regrown W1 dq osq)
            generalize Sort.grow (redrawn W1 dq) osq = W1 at HB2 ⊢
            rename_i K hK
            refine hK _ _ ?_
            clear hK K
            go_wp2_with fail
            exact ⟨⟨j + 1 + 1, _, rfl, by go_num, by have := HKS.out; omega, HB.out.1.trans (HB2.out.mono HB.out.1.size), HN.out.2 (of_decide_eq_true HR.out)⟩, by simp [Lib.intOf]; omega⟩
        · have hluz : decide (x.s.user ≤ pu) = true := decide_eq_true (by omega)
          have HN := Lib.hid (show ¬ okBs now next ((bxs L).take (j + 1 + 1)) from fun hok => hlu ((HI2.1 hok).2.2 (by omega)))
          have HKS := Lib.hid hks
          have HHZ := Lib.hid (And.intro hz2 hz3)
          clear hk0 hpv hpu HI HI2 hb1 hpj hpi epu hlu hks h1 hkL hz hz2 hz3
          go_upto_region 6 with fail
          clear eW1 c0 c1
          refine wp_region_quiet_below (by kernel_rfl) (by kernel_rfl) ?_
          iterate 20 (go_big_quiet_step (first | (go_at_call 74; with_reducible exact Calls.regrown_of (HM.out _ _))))
          refine wpQuiet_nil ?_
          intro _ hw'
          obtain ⟨⟨dq, osq⟩, hw''⟩ := hw'
          subst hw''
          have HB2 := Lib.hid (below_regrown W1 dq osq)
          generalize Sort.grow (redrawn W1 dq) osq = W1 at HB2 ⊢
          rename_i K hK
          refine hK _ _ ?_
          clear hK K
          go_wp2_with fail
          go_ret
          have : ¬ rightR ⟨bxs L, now, next⟩ := fun hh => HB.out.2.2 HN.out hh.2.2.2
          have hbb := HK.out.1.trans ((HB.out.1.trans (HB2.out.mono HB.out.1.size)).mono HRW.out)
          exact ⟨by rw [decide_eq_false this]; rfl, by first | exact hbb | (rw [eR]; exact hbb)⟩
    · have hkz : ¬ (k : Int) < (len : Int) := by omega
      obtain rfl : k = (bxs L).length := by omega
      rw [List.take_length] at h3
      have hd := Lib.hid (decide_eq_true (show rightR ⟨bxs L, now, next⟩ from ⟨by rw [hsl]; exact HL.out.1, HL.out.2.1, HL.out.2.2, h3⟩))
      clear h3
      go_wp2_with fail
      go_ret
      have hbb := HK.out.1.trans (h2.mono HRW.out)
      exact ⟨by rw [hd.out]; rfl, by first | exact hbb | (rw [eR]; exact hbb)⟩
end Go.Proofs.Ytmmaimopombepaa
