/- The reference 15's PointsSame, One, Same. -/
import Derived.Test.YtmmaimopombepaaBd
namespace Go.Proofs.Ytmmaimopombepaa
open Go.RowKit
set_option maxRecDepth 100000
set_option maxHeartbeats 4000000 in
theorem pointsSame_any (a b : Option Addr) (c c' : Nat) (l m : List Pn) (hl : l.length ≤ 1000) (w : World) (hp : PP w a c l) (hq : PP w b c' m) :
    Calls Try.prog 33 #[.slice a l.length c, .slice b m.length c'] w fun e w' => e = .returned (.bool (decide (l = m))) ∧ Below w.heap.size w w' := by
  have HP := Lib.hid hp; have HQ := Lib.hid hq
  have q : (l.length : Int) ≤ 1000 := by omega
  clear hp hq hl
  by_cases hlen : l.length = m.length
  case neg =>
    have hn : ¬ (l.length : Int) = (m.length : Int) := by omega
    rw [decide_eq_false fun e => hlen (by rw [e])]
    clear hlen HP HQ
    go_enter Try.func33, Try.ntmps33
    go_wp2_with fail
    go_ret
    exact ⟨rfl, Below.refl _ _⟩
  case pos =>
    rw [show m.length = l.length from hlen.symm]
    have HLN := Lib.hid hlen
    clear hlen
    go_enter Try.func33, Try.ntmps33
    go_wp2_with fail
    go_loopw [13] (EqRel w l m) (fun i _ => l.length - (Lib.intOf i).toNat)
    case atStart => exact ⟨0, _, rfl, rfl, Nat.zero_le _, Below.refl _ _, by simp⟩
    case round =>
      obtain ⟨k, wr, rfl, rfl, h1, h2, h3⟩ := hrel
      by_cases hk : k < l.length
      · have hkz : (k : Int) < (l.length : Int) := by omega
        have hkm : k < m.length := by have := HLN.out; omega
        obtain ⟨g, off, rfl, hlt, c0, c1⟩ := (HP.out.on h2).get k hk
        obtain ⟨g', off', rfl, hlt', d0, d1⟩ := (HQ.out.on h2).get k hkm
        have hst := take_eq_step hk hkm
        have hne := ne_of_at hk hkm
        obtain ⟨x, ex⟩ : ∃ x, l[k] = x := ⟨_, rfl⟩
        obtain ⟨y, ey⟩ : ∃ y, m[k] = y := ⟨_, rfl⟩
        rw [ex] at c0 c1 hst hne
        rw [ey] at d0 d1 hst hne
        have hrun := run_ne_pn x y
        have HB := Lib.hid h2
        by_cases e : x = y
        · rw [decide_eq_true e] at hrun
          have HN := Lib.hid (hst.2 ⟨h3, e⟩)
          clear h2 h3 hst hne e ex ey
          go_upto_region 6 with fail
          go_quiet (fail)
          go_wp2_with fail
          exact ⟨⟨k + 1, _, rfl, by go_num, by omega, belowN HB.out _, HN.out⟩, by simp [Lib.intOf]; omega⟩
        · rw [decide_eq_false e] at hrun
          have HN := Lib.hid (decide_eq_false (hne e))
          clear h2 h3 hst hne e ex ey
          go_upto_region 6 with fail
          go_quiet (fail)
          go_wp2_with fail
          go_ret
          exact ⟨by rw [HN.out]; rfl, belowN HB.out _⟩
      · have hkz : ¬ (k : Int) < (l.length : Int) := by omega
        have hkn : k = l.length := by omega
        rw [hkn] at h3
        have HD := Lib.hid (decide_eq_true (eq_of_take HLN.out h3))
        clear h3
        go_wp2_with fail
        go_ret
        exact ⟨by rw [HD.out]; rfl, h2⟩
set_option maxHeartbeats 4000000 in
theorem one_any (m m' : ShM) (hl : m.s.once.length ≤ 1000) (w : World) (h : PtsAt w m) (h' : PtsAt w m') :
    Calls Try.prog 26 #[.agg #[.int .u64 (m.s.user : Int), .string m.s.ident, .int .u64 (m.s.sgn.id : Int), .string m.s.sgn.pt, .slice m.a m.s.once.length m.c], .agg #[.int .u64 (m'.s.user : Int), .string m'.s.ident, .int .u64 (m'.s.sgn.id : Int), .string m'.s.sgn.pt, .slice m'.a m'.s.once.length m'.c]] w fun e w' => e = .returned (.bool (decide (m.s = m'.s))) ∧ Below w.heap.size w w' := by
  obtain ⟨⟨u, i, s, o⟩, a, c⟩ := m
  obtain ⟨⟨u', i', s', o'⟩, a', c'⟩ := m'
  have hB : Below w.heap.size w ((w.alloc (.cells #[.int .u64 (u : Int), .string i, .int .u64 (s.id : Int), .string s.pt, .slice a o.length c] 28)).alloc (.cells #[.int .u64 (u' : Int), .string i', .int .u64 (s'.id : Int), .string s'.pt, .slice a' o'.length c'] 28)) := ((Below.refl _ w).alloc (Nat.le_refl _) _).alloc (by simp) _
  have HO := Lib.hid (pointsSame_any a a' c c' o o' hl _ (h.pp.on hB) (h'.pp.on hB))
  have HB := Lib.hid hB
  clear h h' hB hl
  have q1 := nat_eqU u u'
  have q2 := str_eqU i i'
  have q3 := run_eq_pn s s'
  by_cases e1 : u = u'
  · rw [decide_eq_true e1] at q1
    by_cases e2 : i = i'
    · rw [decide_eq_true e2] at q2
      by_cases e3 : s = s'
      · rw [decide_eq_true e3] at q3
        have hd : decide ((ShM.mk ⟨u, i, s, o⟩ a c).s = (ShM.mk ⟨u', i', s', o'⟩ a' c').s) = decide (o = o') := by
          by_cases e4 : o = o'
          · rw [decide_eq_true e4]
            exact decide_eq_true (show (⟨u, i, s, o⟩ : Sh) = ⟨u', i', s', o'⟩ by rw [e1, e2, e3, e4])
          · rw [decide_eq_false e4]
            exact decide_eq_false (fun (h : (⟨u, i, s, o⟩ : Sh) = ⟨u', i', s', o'⟩) => e4 (Sh.mk.inj h).2.2.2)
        rw [hd]
        obtain ⟨r, hr⟩ : ∃ r, decide (o = o') = r := ⟨_, rfl⟩
        rw [hr] at HO ⊢
        clear hd hr e1 e2 e3
        go_enter Try.func26, Try.ntmps26
        go_wp2_with (go_at_call 33; refine HO.out.mono ?_; rintro e w2 ⟨rfl, hb2⟩)
        go_ret
        exact ⟨rfl, HB.out.trans (hb2.mono HB.out.size)⟩
      · rw [decide_eq_false e3] at q3
        have hd := Lib.hid (decide_eq_false (fun (h : (⟨u, i, s, o⟩ : Sh) = ⟨u', i', s', o'⟩) => e3 (Sh.mk.inj h).2.2.1))
        clear e1 e2 e3 HO
        go_enter Try.func26, Try.ntmps26
        go_wp2_with fail
        go_ret
        exact ⟨by rw [hd.out]; rfl, HB.out⟩
    · rw [decide_eq_false e2] at q2
      have hd := Lib.hid (decide_eq_false (fun (h : (⟨u, i, s, o⟩ : Sh) = ⟨u', i', s', o'⟩) => e2 (Sh.mk.inj h).2.1))
      clear e1 e2 HO q3
      go_enter Try.func26, Try.ntmps26
      go_wp2_with fail
      go_ret
      exact ⟨by rw [hd.out]; rfl, HB.out⟩
  · rw [decide_eq_false e1] at q1
    have hd := Lib.hid (decide_eq_false (fun (h : (⟨u, i, s, o⟩ : Sh) = ⟨u', i', s', o'⟩) => e1 (Sh.mk.inj h).1))
    clear e1 HO q2 q3
    go_enter Try.func26, Try.ntmps26
    go_wp2_with fail
    go_ret
    exact ⟨by rw [hd.out]; rfl, HB.out⟩
set_option maxHeartbeats 4000000 in
theorem sameR_any (a b : Option Addr) (c c' : Nat) (L M : List ShM) (hl : L.length ≤ 1000) (hf : FewP L) (w : World) (hp : SS w a c L) (hq : SS w b c' M) :
    Calls Try.prog 19 #[.slice a L.length c, .slice b M.length c'] w fun e w' => e = .returned (.bool (decide (shs L = shs M))) ∧ Below w.heap.size w w' := by
  have HP := Lib.hid hp; have HQ := Lib.hid hq; have HF := Lib.hid hf
  have q : (L.length : Int) ≤ 1000 := by omega
  have sl := shs_length L
  have sm := shs_length M
  clear hp hq hl hf
  by_cases hlen : L.length = M.length
  case neg =>
    have hn : ¬ (L.length : Int) = (M.length : Int) := by omega
    rw [decide_eq_false fun e => hlen (by rw [← sl, ← sm, e])]
    clear hlen HP HQ
    go_enter Try.func19, Try.ntmps19
    go_wp2_with fail
    go_ret
    exact ⟨rfl, Below.refl _ _⟩
  case pos =>
    rw [show M.length = L.length from hlen.symm]
    have HLN := Lib.hid (And.intro hlen (And.intro sl sm))
    clear hlen sl sm
    go_enter Try.func19, Try.ntmps19
    go_wp2_with fail
    go_loopw [13] (LkRel w (shs L) (shs M)) (fun i _ => L.length - (Lib.intOf i).toNat)
    case atStart => exact ⟨0, _, rfl, rfl, Nat.zero_le _, Below.refl _ _, by simp⟩
    case round =>
      obtain ⟨k, wr, rfl, rfl, h1, h2, h3⟩ := hrel
      by_cases hk : k < L.length
      · have hkz : (k : Int) < (L.length : Int) := by omega
        have hkm : k < M.length := by have := HLN.out.1; omega
        have hks : k < (shs L).length := by have := HLN.out.2.1; omega
        have hkt : k < (shs M).length := by have := HLN.out.2.2; omega
        obtain ⟨g, off, rfl, hlt, hall⟩ := (HP.out.on h2).sl.get k hk
        obtain ⟨g', off', rfl, hlt', hall'⟩ := (HQ.out.on h2).sl.get k hkm
        have hst := take_eq_step hks hkt
        have hne := ne_of_at hks hkt
        rw [shs_get L k hk, shs_get M k hkm] at hst hne
        have hpt := (HP.out.on h2).sl.pts _ (List.getElem_mem hk)
        have hpt' := (HQ.out.on h2).sl.pts _ (List.getElem_mem hkm)
        have hfl := HF.out _ (List.getElem_mem hk)
        have h5 := hall k hk
        have h5' := hall' k hkm
        obtain ⟨x, ex⟩ : ∃ x, L[k] = x := ⟨_, rfl⟩
        obtain ⟨y, ey⟩ : ∃ y, M[k] = y := ⟨_, rfl⟩
        rw [ex] at h5 hst hne hpt hfl
        rw [ey] at h5' hst hne hpt'
        have c0 := cell_regrown h5.c0; have c1 := cell_regrown h5.c1; have c2 := cell_regrown h5.c2; have c3 := cell_regrown h5.c3; have c4 := cell_regrown h5.c4
        have d0 := cell_regrown h5'.c0; have d1 := cell_regrown h5'.c1; have d2 := cell_regrown h5'.c2; have d3 := cell_regrown h5'.c3; have d4 := cell_regrown h5'.c4
        have HS := Lib.hid (fun (d : Nat) (os : Array Obj) => one_any x y hfl (Sort.grow (redrawn wr d) os) (hpt.on (below_regrown wr d os)) (hpt'.on (below_regrown wr d os)))
        have HB := Lib.hid h2
        clear hall hall' hpt hpt' hfl h5 h5'
        by_cases e : x.s = y.s
        · rw [decide_eq_true e] at HS
          have HN := Lib.hid (hst.2 ⟨h3, e⟩)
          clear h2 h3 hst hne e ex ey
          go_upto_region 6 with fail
          refine wp_region_quiet_below (by kernel_rfl) (by kernel_rfl) ?_
          iterate 10 (go_big_quiet_step (first | (go_at_call 26; with_reducible exact Calls.regrown_of (HS.out _ _))))
          refine wpQuiet_nil ?_
          intro _ hw'
          obtain ⟨⟨dq, osq⟩, hw''⟩ := hw'
          subst hw''
          have HB2 := Lib.hid (HB.out.trans ((below_regrown wr dq osq).mono HB.out.size))
          generalize Sort.grow (redrawn wr dq) osq = W1 at HB2 ⊢
          rename_i K hK
          refine hK _ _ ?_
          clear hK K
          go_wp2_with fail
          exact ⟨⟨k + 1, _, rfl, by go_num, by omega, HB2.out, HN.out⟩, by simp [Lib.intOf]; omega⟩
        · rw [decide_eq_false e] at HS
          have HN := Lib.hid (decide_eq_false (hne e))
          clear h2 h3 hst hne e ex ey
          go_upto_region 6 with fail
          refine wp_region_quiet_below (by kernel_rfl) (by kernel_rfl) ?_
          iterate 10 (go_big_quiet_step (first | (go_at_call 26; with_reducible exact Calls.regrown_of (HS.out _ _))))
          refine wpQuiet_nil ?_
          intro _ hw'
          obtain ⟨⟨dq, osq⟩, hw''⟩ := hw'
          subst hw''
          have HB2 := Lib.hid (HB.out.trans ((below_regrown wr dq osq).mono HB.out.size))
          generalize Sort.grow (redrawn wr dq) osq = W1 at HB2 ⊢
          rename_i K hK
          refine hK _ _ ?_
          clear hK K
          go_wp2_with fail
          go_ret
          exact ⟨by rw [HN.out]; rfl, HB2.out⟩
      · have hkz : ¬ (k : Int) < (L.length : Int) := by omega
        have hkn : k = (shs L).length := by have := HLN.out.2.1; omega
        rw [hkn] at h3
        have HD := Lib.hid (decide_eq_true (eq_of_take (by have := HLN.out; omega) h3))
        clear h3
        go_wp2_with fail
        go_ret
        exact ⟨by rw [HD.out]; rfl, h2⟩
end Go.Proofs.Ytmmaimopombepaa