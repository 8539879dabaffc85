/- relay: boxMayBe, Right. -/
import Derived.Test.YtmmaimopombepaaCc
namespace Go.Proofs.Ytmmaimopombepaa
open Go.RowKit
set_option maxRecDepth 100000

def BmRel (W0 : World) (now next : Nat) (l : List Ml) (i : Value) (wr : World) : Prop := ∃ (k : Nat) (W : World), W = wr ∧ i = .int .i64 (k : Int) ∧ k ≤ l.length ∧ Below W0.heap.size W0 wr ∧ okMs now next (l.take k)
theorem okMs_iff (now next : Nat) (l : List Ml) (i : Nat) (h : i < l.length) (hp : okMs now next (l.take i)) (ha : ∀ h0 : 0 < i, (l[i - 1]'(by omega)).id < l[i].id) : okMs now next (l.take (i + 1)) ↔ okMl now next l[i] ∧ hasB (l.take i) l[i].b = false := by
  rw [okMs_step now next l i h]
  have h1 := okMs_adj h hp ha
  constructor
  · rintro ⟨-, h2, h3⟩
    refine ⟨h2, hasB_false.2 fun m hm e => ?_⟩
    obtain ⟨j, hj, rfl⟩ := List.mem_take_iff_getElem.1 hm
    exact (h3 j (by omega)).2 e
  · rintro ⟨h2, h3⟩
    refine ⟨hp, h2, fun j hj => ⟨h1 j hj, fun e => ?_⟩⟩
    exact hasB_false.1 h3 _ (List.mem_take_iff_getElem.2 ⟨j, by omega, rfl⟩) e
theorem okMs_bad {now next : Nat} {l : List Ml} {i : Nat} (_h : i < l.length) (hb : ¬ okMs now next (l.take (i + 1))) : ¬ okMs now next l := fun hl => hb (okMs_sub hl _)
set_option maxHeartbeats 8000000 in
theorem boxMayBe_any (a : Option Addr) (n c : Nat) (now next : Nat) (hn : now < 18446744073709551616) (x : BxM) (hx : x.s.ml.length ≤ 1000) (w : World) (h : PM w x.a x.c x.s.ml) :
    Calls Try.prog 74 #[.agg #[.slice a n c, .int .u64 (now : Int), .int .u64 (next : Int)], .agg #[.int .u64 (x.s.user : Int), .slice x.a x.s.ml.length x.c]] w fun e w' => e = .returned (.bool (decide (okBx now next x.s))) ∧ Below w.heap.size w w' := by
  obtain ⟨⟨u, l⟩, xa, xc⟩ := x
  obtain ⟨len, elen⟩ : ∃ len, l.length = len := ⟨_, rfl⟩
  simp only [elen] at hx ⊢
  obtain ⟨W0, eW0⟩ : ∃ W0, (w.alloc (.cells #[.slice a n c, .int .u64 (now : Int), .int .u64 (next : Int)] 56)).alloc (.cells #[.int .u64 (u : Int), .slice xa len xc] 101) = W0 := ⟨_, rfl⟩
  have b0 : Below w.heap.size w W0 := by rw [← eW0]; exact ((Below.refl _ w).alloc (Nat.le_refl _) _).alloc (by simp) _
  obtain ⟨R, eR⟩ : ∃ R, w.heap.size = R := ⟨_, rfl⟩
  have kR : BlkV W0 R 56 [.slice a n c, .int .u64 (now : Int), .int .u64 (next : Int)] := by rw [← eW0, ← eR]; exact (BlkV.fresh w _ _ _ rfl _ rfl).alloc _
  have kB : BlkV W0 (R + 1) 101 [.int .u64 (u : Int), .slice xa len xc] := by rw [← eW0, ← eR]; exact BlkV.fresh _ _ _ _ rfl _ (by simp)
  have d1 := kB.cell 1 _ rfl
  have HK := Lib.hid (And.intro (show Below R w W0 by rw [← eR]; exact b0) (And.intro kR (And.intro kB (h.on b0))))
  have hcap : len ≤ xc := by rw [← elen]; exact h.cap
  have HRW := Lib.hid (show R ≤ W0.heap.size by rw [← eR]; exact b0.size)
  clear b0 kR kB h
  go_enter Try.func74, Try.ntmps74
  go_upto_region 1 with fail
  clear eW0
  by_cases h0 : len = 0
  · have hz : (len : Int) = 0 := by omega
    have hd := Lib.hid (decide_eq_false (show ¬ okBx now next ⟨u, l⟩ from fun h => by have : 1 ≤ l.length := h.1; omega))
    go_wp2_with fail
    go_ret
    exact ⟨by rw [hd.out]; rfl, by first | exact HK.out.1 | (rw [eR]; exact HK.out.1)⟩
  by_cases h16 : len ≤ 16
  case neg =>
    have hz : ¬ (len : Int) = 0 := by omega
    have hz2 : (len : Int) > 16 := by omega
    have hd := Lib.hid (decide_eq_false (show ¬ okBx now next ⟨u, l⟩ from fun h => h16 (by rw [← elen]; exact h.2.1)))
    clear h0
    go_wp2_with fail
    go_ret
    exact ⟨by rw [hd.out]; rfl, by first | exact HK.out.1 | (rw [eR]; exact HK.out.1)⟩
  case pos =>
    have hz : ¬ (len : Int) = 0 := by omega
    have hz2 : ¬ (len : Int) > 16 := by omega
    have hz3 : (len : Int) ≤ 16 := by omega
    have HL := Lib.hid (And.intro (show 1 ≤ len by omega) h16)
    clear h0 h16
    go_wp2_with fail
    go_loopw [20] (BmRel W0 now next l) (fun i _ => len - (Lib.intOf i).toNat)
    case atStart => exact ⟨0, _, rfl, rfl, Nat.zero_le _, Below.refl _ _, okMs_nil _ _⟩
    case round =>
      clear d1
      obtain ⟨k, wr, rfl, rfl, h1, h2, h3⟩ := hrel
      by_cases hkn : k < len
      · have hk : k < l.length := by omega
        have hkz : (k : Int) < (len : Int) := by omega
        have hkc : (k : Int) ≤ (xc : Int) := by omega
        have hPr := HK.out.2.2.2.on h2
        obtain ⟨b, off, hba, hlt, hall⟩ := hPr.get k hk
        subst hba
        obtain ⟨c0, c1, c2⟩ := hall k hk
        have hiff := okMs_iff now next l k hk h3
        have hbad := okMs_bad (now := now) (next := next) hk
        obtain ⟨m, em⟩ : ∃ m, l[k] = m := ⟨_, rfl⟩
        rw [em] at c0 c1 c2 hiff
        obtain ⟨W1, eW1⟩ : ∃ W1, wr.alloc (.cells #[.int .u64 (m.id : Int), .string m.b, .int .u64 (m.born : Int)] 82) = W1 := ⟨_, rfl⟩
        have b1 : Below wr.heap.size wr W1 := by rw [← eW1]; exact (Below.refl _ wr).alloc (Nat.le_refl _) _
        obtain ⟨S, eS⟩ : ∃ S, wr.heap.size = S := ⟨_, rfl⟩
        have kM : BlkV W1 S 82 [.int .u64 (m.id : Int), .string m.b, .int .u64 (m.born : Int)] := by rw [← eW1, ← eS]; exact BlkV.fresh wr _ _ _ rfl _ rfl
        have b01 := h2.trans (b1.mono h2.size)
        have kR1 := HK.out.2.1.on b01
        have kB1 := HK.out.2.2.1.on b01
        have q0 := cell_regrown (kM.cell 0 _ rfl)
        have q1 := cell_regrown (kM.cell 1 _ rfl)
        have q2 := cell_regrown (kM.cell 2 _ rfl)
        have r0 := cell_regrown (kR1.cell 0 _ rfl)
        have r1 := cell_regrown (kR1.cell 1 _ rfl)
        have r2 := cell_regrown (kR1.cell 2 _ rfl)
        have p1 := cell_regrown (kB1.cell 1 _ rfl)
        have HM := Lib.hid (fun (d : Nat) (os : Array Obj) => mailMayBe_any a n c now next hn m (Sort.grow (redrawn W1 d) os))
        have hlk : (l.take k).length = k := by rw [List.length_take]; omega
        have hHas := fun (d : Nat) (os : Array Obj) => hasBytes_any (some ⟨b, off, none⟩) xc (l.take k) (by omega) m.b (Sort.grow (redrawn W1 d) os) (((hPr.take k).on b1).on (below_regrown W1 d os))
        rw [hlk] at hHas
        have HH := Lib.hid hHas
        have HB := Lib.hid (And.intro b01 (And.intro h3 hbad))
        have HI := Lib.hid hiff
        have hpv : ∀ h0 : 0 < k, wr.cell? ⟨b, off + (k - 1) * 3, none⟩ = some (.int .u64 ((l[k - 1]'(by omega)).id : Int)) := fun h0 => (hall (k - 1) (by omega)).1
        have hpid : ∀ h0 : 0 < k, okMs now next (l.take (k + 1)) → (l[k - 1]'(by omega)).id < m.id := fun h0 hok => by
          have h4 := List.pairwise_iff_getElem.1 hok.2 (k - 1) k (by rw [List.length_take]; omega) (by rw [List.length_take]; omega) (by omega)
          rw [List.getElem_take, List.getElem_take, em] at h4
          exact h4.1
        obtain ⟨rm, erm⟩ : ∃ rm, decide (okMl now next m) = rm := ⟨_, rfl⟩
        obtain ⟨rh, erh⟩ : ∃ rh, hasB (l.take k) m.b = rh := ⟨_, rfl⟩
        simp only [erm] at HM
        simp only [erh] at HH
        have HR := Lib.hid (And.intro erm erh)
        have hb1 := b1
        clear h2 h3 hiff hbad b1 kM b01 kR1 kB1 hHas hall hPr erm erh em
        by_cases hk0 : k = 0
        · have hkn0 : decide ((k : Int) > 0) = false := decide_eq_false (by omega)
          have hkn1 : decide (0 < k) = false := decide_eq_false (by omega)
          have HN := Lib.hid (show okMs now next (l.take (k + 1)) ↔ okMl now next m ∧ hasB (l.take k) m.b = false from HI.out (fun h0 => by omega))
          clear hk0 hpv hpid HI hb1
          go_upto_region 6 with fail
          clear eW1 c0 c1 c2
          cases rm
          · skip
            refine wp_region_quiet_below (by kernel_rfl) (by kernel_rfl) ?_
            iterate 29 (go_big_quiet_step (first | (go_at_call 99; with_reducible exact Calls.regrown_of (HM.out _ _)) | (go_at_call 69; with_reducible exact Calls.regrown_of (HH.out _ _))))
            refine wpQuiet_nil ?_
            intro _ hw'
            obtain ⟨⟨dq, osq⟩, hw''⟩ := hw'
            subst hw''
            have HB2 := Lib.hid (below_regrown W1 dq osq)
            generalize Sort.grow (redrawn W1 dq) osq = W1 at HB2 ⊢
            rename_i K hK
            refine hK _ _ ?_
            clear hK K
            go_wp2_with fail
            go_ret
            have : ¬ okBx now next ⟨u, l⟩ := fun hh => HB.out.2.2 (fun hok => of_decide_eq_false HR.out.1 (HN.out.1 hok).1) hh.2.2
            exact ⟨by rw [decide_eq_false this]; rfl, by first | exact HK.out.1.trans ((HB.out.1.trans (HB2.out.mono HB.out.1.size)).mono HRW.out) | (rw [eR]; exact HK.out.1.trans ((HB.out.1.trans (HB2.out.mono HB.out.1.size)).mono HRW.out))⟩
          · cases rh
            · skip
              refine wp_region_quiet_below (by kernel_rfl) (by kernel_rfl) ?_
              iterate 29 (go_big_quiet_step (first | (go_at_call 99; with_reducible exact Calls.regrown_of (HM.out _ _)) | (go_at_call 69; with_reducible exact Calls.regrown_of (HH.out _ _))))
              refine wpQuiet_nil ?_
              intro _ hw'
              obtain ⟨⟨dq, osq⟩, hw''⟩ := hw'
              subst hw''
              have HB2 := Lib.hid (below_regrown W1 dq osq)
              generalize Sort.grow (redrawn W1 dq) osq = W1 at HB2 ⊢
              rename_i K hK
              refine hK _ _ ?_
              clear hK K
              go_wp2_with fail
              exact ⟨⟨k + 1, _, rfl, by go_num, by omega, HB.out.1.trans (HB2.out.mono HB.out.1.size), HN.out.2 ⟨of_decide_eq_true HR.out.1, HR.out.2⟩⟩, by simp [Lib.intOf]; omega⟩
            · skip
              refine wp_region_quiet_below (by kernel_rfl) (by kernel_rfl) ?_
              iterate 29 (go_big_quiet_step (first | (go_at_call 99; with_reducible exact Calls.regrown_of (HM.out _ _)) | (go_at_call 69; with_reducible exact Calls.regrown_of (HH.out _ _))))
              refine wpQuiet_nil ?_
              intro _ hw'
              obtain ⟨⟨dq, osq⟩, hw''⟩ := hw'
              subst hw''
              have HB2 := Lib.hid (below_regrown W1 dq osq)
              generalize Sort.grow (redrawn W1 dq) osq = W1 at HB2 ⊢
              rename_i K hK
              refine hK _ _ ?_
              clear hK K
              go_wp2_with fail
              go_ret
              have : ¬ okBx now next ⟨u, l⟩ := fun hh => HB.out.2.2 (fun hok => by have := (HN.out.1 hok).2; rw [HR.out.2] at this; cases this) hh.2.2
              exact ⟨by rw [decide_eq_false this]; rfl, by first | exact HK.out.1.trans ((HB.out.1.trans (HB2.out.mono HB.out.1.size)).mono HRW.out) | (rw [eR]; exact HK.out.1.trans ((HB.out.1.trans (HB2.out.mono HB.out.1.size)).mono HRW.out))⟩
        · obtain ⟨j, rfl⟩ : ∃ j, k = j + 1 := ⟨k - 1, by omega⟩
          have hpj := hpv (by omega)
          have hpi := hpid (by omega)
          simp only [Nat.add_sub_cancel] at hpj hpi
          have HI2 := HI.out
          simp only [Nat.add_sub_cancel] at HI2
          obtain ⟨pu, epu⟩ : ∃ pu, (l[j]'(by omega)).id = pu := ⟨_, rfl⟩
          rw [epu] at hpj hpi
          simp only [epu] at HI2
          have qp := cell_regrown ((hb1.cell (p := ⟨b, off + j * 3, none⟩) (by exact hlt)).trans hpj)
          have hkn0 : decide ((j : Int) + 1 > 0) = true := decide_eq_true (by omega)
          by_cases hlu : pu < m.id
          · have hluz : decide (m.id ≤ pu) = false := decide_eq_false (by omega)
            have HN := Lib.hid (HI2 (fun _ => hlu))
            clear hk0 hpv hpid HI HI2 hb1 hpj hpi epu hlu
            go_upto_region 6 with fail
            clear eW1 c0 c1 c2
            cases rm
            · skip
              refine wp_region_quiet_below (by kernel_rfl) (by kernel_rfl) ?_
              iterate 29 (go_big_quiet_step (first | (go_at_call 99; with_reducible exact Calls.regrown_of (HM.out _ _)) | (go_at_call 69; with_reducible exact Calls.regrown_of (HH.out _ _))))
              refine wpQuiet_nil ?_
              intro _ hw'
              obtain ⟨⟨dq, osq⟩, hw''⟩ := hw'
              subst hw''
              have HB2 := Lib.hid (below_regrown W1 dq osq)
              generalize Sort.grow (redrawn W1 dq) osq = W1 at HB2 ⊢
              rename_i K hK
              refine hK _ _ ?_
              clear hK K
              go_wp2_with fail
              go_ret
              have : ¬ okBx now next ⟨u, l⟩ := fun hh => HB.out.2.2 (fun hok => of_decide_eq_false HR.out.1 (HN.out.1 hok).1) hh.2.2
              exact ⟨by rw [decide_eq_false this]; rfl, by first | exact HK.out.1.trans ((HB.out.1.trans (HB2.out.mono HB.out.1.size)).mono HRW.out) | (rw [eR]; exact HK.out.1.trans ((HB.out.1.trans (HB2.out.mono HB.out.1.size)).mono HRW.out))⟩
            · cases rh
              · skip
                refine wp_region_quiet_below (by kernel_rfl) (by kernel_rfl) ?_
                iterate 29 (go_big_quiet_step (first | (go_at_call 99; with_reducible exact Calls.regrown_of (HM.out _ _)) | (go_at_call 69; with_reducible exact Calls.regrown_of (HH.out _ _))))
                refine wpQuiet_nil ?_
                intro _ hw'
                obtain ⟨⟨dq, osq⟩, hw''⟩ := hw'
                subst hw''
                have HB2 := Lib.hid (below_regrown W1 dq osq)
                generalize Sort.grow (redrawn W1 dq) osq = W1 at HB2 ⊢
                rename_i K hK
                refine hK _ _ ?_
                clear hK K
                go_wp2_with fail
                exact ⟨⟨j + 1 + 1, _, rfl, by go_num, by omega, HB.out.1.trans (HB2.out.mono HB.out.1.size), HN.out.2 ⟨of_decide_eq_true HR.out.1, HR.out.2⟩⟩, by simp [Lib.intOf]; omega⟩
              · skip
                refine wp_region_quiet_below (by kernel_rfl) (by kernel_rfl) ?_
                iterate 29 (go_big_quiet_step (first | (go_at_call 99; with_reducible exact Calls.regrown_of (HM.out _ _)) | (go_at_call 69; with_reducible exact Calls.regrown_of (HH.out _ _))))
                refine wpQuiet_nil ?_
                intro _ hw'
                obtain ⟨⟨dq, osq⟩, hw''⟩ := hw'
                subst hw''
                have HB2 := Lib.hid (below_regrown W1 dq osq)
                generalize Sort.grow (redrawn W1 dq) osq = W1 at HB2 ⊢
                rename_i K hK
                refine hK _ _ ?_
                clear hK K
                go_wp2_with fail
                go_ret
                have : ¬ okBx now next ⟨u, l⟩ := fun hh => HB.out.2.2 (fun hok => by have := (HN.out.1 hok).2; rw [HR.out.2] at this; cases this) hh.2.2
                exact ⟨by rw [decide_eq_false this]; rfl, by first | exact HK.out.1.trans ((HB.out.1.trans (HB2.out.mono HB.out.1.size)).mono HRW.out) | (rw [eR]; exact HK.out.1.trans ((HB.out.1.trans (HB2.out.mono HB.out.1.size)).mono HRW.out))⟩
          · have hluz : decide (m.id ≤ pu) = true := decide_eq_true (by omega)
            have HN := Lib.hid (show ¬ okMs now next (l.take (j + 1 + 1)) from fun hok => hlu (hpi hok))
            clear hk0 hpv hpid HI HI2 hb1 hpj hpi epu hlu
            go_upto_region 6 with fail
            clear eW1 c0 c1 c2
            refine wp_region_quiet_below (by kernel_rfl) (by kernel_rfl) ?_
            iterate 29 (go_big_quiet_step (first | (go_at_call 99; with_reducible exact Calls.regrown_of (HM.out _ _)) | (go_at_call 69; with_reducible exact Calls.regrown_of (HH.out _ _))))
            refine wpQuiet_nil ?_
            intro _ hw'
            obtain ⟨⟨dq, osq⟩, hw''⟩ := hw'
            subst hw''
            have HB2 := Lib.hid (below_regrown W1 dq osq)
            generalize Sort.grow (redrawn W1 dq) osq = W1 at HB2 ⊢
            rename_i K hK
            refine hK _ _ ?_
            clear hK K
            go_wp2_with fail
            go_ret
            have : ¬ okBx now next ⟨u, l⟩ := fun hh => HB.out.2.2 HN.out hh.2.2
            exact ⟨by rw [decide_eq_false this]; rfl, by first | exact HK.out.1.trans ((HB.out.1.trans (HB2.out.mono HB.out.1.size)).mono HRW.out) | (rw [eR]; exact HK.out.1.trans ((HB.out.1.trans (HB2.out.mono HB.out.1.size)).mono HRW.out))⟩
      · have hkz : ¬ (k : Int) < (len : Int) := by omega
        obtain rfl : k = l.length := by omega
        rw [List.take_length] at h3
        have hd := Lib.hid (decide_eq_true (show okBx now next ⟨u, l⟩ from ⟨by rw [elen]; exact HL.out.1, by rw [elen]; exact HL.out.2, h3⟩))
        clear h3
        go_wp2_with fail
        go_ret
        exact ⟨by rw [hd.out]; rfl, by first | exact HK.out.1.trans (h2.mono HRW.out) | (rw [eR]; exact HK.out.1.trans (h2.mono HRW.out))⟩
end Go.Proofs.Ytmmaimopombepaa
