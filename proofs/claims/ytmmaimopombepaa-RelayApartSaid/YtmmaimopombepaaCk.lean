/- The reference 16's Same; slices.Clone of mails. -/
import Derived.Test.YtmmaimopombepaaCj
namespace Go.Proofs.Ytmmaimopombepaa
open Go.RowKit
set_option maxRecDepth 100000

theorem bneT {a b : Nat} (h : a ≠ b) : ((a : Int) != (b : Int)) = true := by simp; omega
theorem bneF {a b : Nat} (h : a = b) : ((a : Int) != (b : Int)) = false := by subst h; simp
set_option maxHeartbeats 8000000 in
theorem sameRl_any (a b : Option Addr) (c c' : Nat) (L M : List BxM) (n n' x x' : Nat) (hf : FewB L) (w : World) (hp : SB w a c L) (hq : SB w b c' M) :
    Calls Try.prog 39 #[.agg #[.slice a L.length c, .int .u64 (n : Int), .int .u64 (x : Int)], .agg #[.slice b M.length c', .int .u64 (n' : Int), .int .u64 (x' : Int)]] w fun e w' => e = .returned (.bool (decide ((⟨bxs L, n, x⟩ : Rl) = ⟨bxs M, n', x'⟩))) ∧ Below w.heap.size w w' := by
  have sl := bxs_length L
  have sm := bxs_length M
  obtain ⟨len, elen⟩ : ∃ len, L.length = len := ⟨_, rfl⟩
  obtain ⟨mel, emel⟩ : ∃ mel, M.length = mel := ⟨_, rfl⟩
  rw [elen, emel]
  rw [elen] at sl
  rw [emel] at sm
  obtain ⟨W0, eW0⟩ : ∃ W0, (w.alloc (.cells #[.slice a len c, .int .u64 (n : Int), .int .u64 (x : Int)] 56)).alloc (.cells #[.slice b mel c', .int .u64 (n' : Int), .int .u64 (x' : Int)] 56) = W0 := ⟨_, rfl⟩
  have b0 : Below w.heap.size w W0 := by rw [← eW0]; exact ((Below.refl _ w).alloc (Nat.le_refl _) _).alloc (by simp) _
  obtain ⟨R, eR⟩ : ∃ R, w.heap.size = R := ⟨_, rfl⟩
  have kR : BlkV W0 R 56 [.slice a len c, .int .u64 (n : Int), .int .u64 (x : Int)] := by rw [← eW0, ← eR]; exact (BlkV.fresh w _ _ _ rfl _ rfl).alloc _
  have kM : BlkV W0 (R + 1) 56 [.slice b mel c', .int .u64 (n' : Int), .int .u64 (x' : Int)] := by rw [← eW0, ← eR]; exact BlkV.fresh _ _ _ _ rfl _ (by simp)
  have u0 := kR.cell 0 _ rfl
  have u1 := kR.cell 1 _ rfl
  have u2 := kR.cell 2 _ rfl
  have v0 := kM.cell 0 _ rfl
  have v1 := kM.cell 1 _ rfl
  have v2 := kM.cell 2 _ rfl
  have HK := Lib.hid (And.intro (show Below R w W0 by rw [← eR]; exact b0) (And.intro kR (And.intro kM (And.intro (hp.on b0) (hq.on b0)))))
  have HRW := Lib.hid (show R ≤ W0.heap.size by rw [← eR]; exact b0.size)
  have HF := Lib.hid hf
  have q8 : (len : Int) ≤ 1000 := by have := hf.1; omega
  clear b0 kR kM hp hq hf
  go_enter Try.func39, Try.ntmps39
  go_upto_region 1 with fail
  clear eW0
  by_cases hlen : len = mel
  case neg =>
    have hn : ((len : Int) != (mel : Int)) = true := bneT hlen
    have hn2 : ¬ (len : Int) = (mel : Int) := by omega
    have hd := Lib.hid (decide_eq_false (fun (h : (⟨bxs L, n, x⟩ : Rl) = ⟨bxs M, n', x'⟩) => hlen (by rw [← sl, ← sm, (Rl.mk.inj h).1])))
    clear hlen
    go_wp2_with fail
    go_ret
    exact ⟨by rw [hd.out]; rfl, by first | exact HK.out.1 | (rw [eR]; exact HK.out.1)⟩
  subst hlen
  by_cases e1 : n = n'
  case neg =>
    have hn : ((n : Int) != (n' : Int)) = true := bneT e1
    have hn2 : ¬ (n : Int) = (n' : Int) := by omega
    have hd := Lib.hid (decide_eq_false (fun (h : (⟨bxs L, n, x⟩ : Rl) = ⟨bxs M, n', x'⟩) => e1 (Rl.mk.inj h).2.1))
    clear e1
    go_wp2_with fail
    go_ret
    exact ⟨by rw [hd.out]; rfl, by first | exact HK.out.1 | (rw [eR]; exact HK.out.1)⟩
  subst e1
  by_cases e2 : x = x'
  case neg =>
    have hn : ((x : Int) != (x' : Int)) = true := bneT e2
    have hn2 : ¬ (x : Int) = (x' : Int) := by omega
    have hd := Lib.hid (decide_eq_false (fun (h : (⟨bxs L, n, x⟩ : Rl) = ⟨bxs M, n, x'⟩) => e2 (Rl.mk.inj h).2.2))
    clear e2
    go_wp2_with fail
    go_ret
    exact ⟨by rw [hd.out]; rfl, by first | exact HK.out.1 | (rw [eR]; exact HK.out.1)⟩
  subst e2
  go_wp2_with fail
  go_loopw [30] (LkBRel W0 (bxs L) (bxs M)) (fun i _ => len - (Lib.intOf i).toNat)
  case atStart => exact ⟨0, _, rfl, rfl, Nat.zero_le _, Below.refl _ _, by simp⟩
  case round =>
    clear u0 u1 u2 v0 v1 v2
    obtain ⟨k, wr, rfl, rfl, h1, h2, h3⟩ := hrel
    by_cases hk : k < len
    · have hkz : (k : Int) < (len : Int) := by omega
      have hkL : k < L.length := by omega
      have hkM : k < M.length := by omega
      have hks : k < (bxs L).length := by omega
      have hkt : k < (bxs M).length := by omega
      have hSL := HK.out.2.2.2.1.on h2
      have hSM := HK.out.2.2.2.2.on h2
      obtain ⟨g, off, rfl, hlt, hall⟩ := hSL.get k hkL
      obtain ⟨g', off', rfl, hlt', hall'⟩ := hSM.get k hkM
      have hst := take_eqC hks hkt
      have hne := ne_ofC hks hkt
      rw [bxs_get L k hkL, bxs_get M k hkM] at hst hne
      have hpt := hSL.mls _ (List.getElem_mem hkL)
      have hpt' := hSM.mls _ (List.getElem_mem hkM)
      have hfl := HF.out.2 _ (List.getElem_mem hkL)
      obtain ⟨c0, c1⟩ := hall k hkL
      obtain ⟨d0, d1⟩ := hall' k hkM
      obtain ⟨y, ey⟩ : ∃ y, L[k] = y := ⟨_, rfl⟩
      obtain ⟨z, ez⟩ : ∃ z, M[k] = z := ⟨_, rfl⟩
      rw [ey] at c0 c1 hst hne hpt hfl
      rw [ez] at d0 d1 hst hne hpt'
      have kR := HK.out.2.1.on h2
      have kM := HK.out.2.2.1.on h2
      have q0 := cell_regrown (kR.cell 0 _ rfl)
      have q1 := cell_regrown (kM.cell 0 _ rfl)
      have q2 := cell_regrown c0
      have q3 := cell_regrown c1
      have q4 := cell_regrown d0
      have q5 := cell_regrown d1
      have HM0 := fun (d : Nat) (os : Array Obj) => mailsSame_any y.a z.a y.c z.c y.s.ml z.s.ml hfl (Sort.grow (redrawn wr d) os) (hpt.on (below_regrown wr d os)) (hpt'.on (below_regrown wr d os))
      obtain ⟨r, er⟩ : ∃ r, decide (y.s.ml = z.s.ml) = r := ⟨_, rfl⟩
      simp only [er] at HM0
      have HM := Lib.hid HM0
      have HB := Lib.hid (And.intro h2 (And.intro h3 (And.intro hst (And.intro hne er))))
      clear h2 h3 hst hne er HM0 kR kM hpt hpt' hfl hall hall' hSL hSM ey ez c0 c1 d0 d1
      by_cases eu : y.s.user = z.s.user
      · have hu : ((y.s.user : Int) != (z.s.user : Int)) = false := bneF eu
        have hu2 : (y.s.user != z.s.user) = false := by rw [eu]; simp
        cases r
        · have HN := Lib.hid (decide_eq_false (HB.out.2.2.2.1 (fun h => of_decide_eq_false HB.out.2.2.2.2 (by rw [h]))))
          clear eu
          go_upto_region 6 with fail
          refine wp_region_quiet_below (by kernel_rfl) (by kernel_rfl) ?_
          iterate 29 (go_big_quiet_step (first | (go_at_call 46; with_reducible exact Calls.regrown_of (HM.out _ _))))
          refine wpQuiet_nil ?_
          intro _ hw'
          obtain ⟨⟨dq, osq⟩, hw''⟩ := hw'
          subst hw''
          have HB2 := Lib.hid (below_regrown wr dq osq)
          generalize Sort.grow (redrawn wr dq) osq = W1 at HB2 ⊢
          rename_i K hK
          refine hK _ _ ?_
          clear hK K
          go_wp2_with fail
          go_ret
          have hbb := HK.out.1.trans ((HB.out.1.trans (HB2.out.mono HB.out.1.size)).mono HRW.out)
          exact ⟨by first | (rw [rl_eq rfl rfl, HN.out]; rfl) | (rw [HN.out]; rfl), by first | exact hbb | (rw [eR]; exact hbb)⟩
        · have HN := Lib.hid (HB.out.2.2.1.2 ⟨HB.out.2.1, by
            have h1 := of_decide_eq_true HB.out.2.2.2.2
            obtain ⟨⟨yu, yl⟩, ya, yc⟩ := y
            obtain ⟨⟨zu, zl⟩, za, zc⟩ := z
            simp only at eu h1
            rw [eu, h1]⟩)
          clear eu
          go_upto_region 6 with fail
          refine wp_region_quiet_below (by kernel_rfl) (by kernel_rfl) ?_
          iterate 29 (go_big_quiet_step (first | (go_at_call 46; with_reducible exact Calls.regrown_of (HM.out _ _))))
          refine wpQuiet_nil ?_
          intro _ hw'
          obtain ⟨⟨dq, osq⟩, hw''⟩ := hw'
          subst hw''
          have HB2 := Lib.hid (below_regrown wr dq osq)
          generalize Sort.grow (redrawn wr dq) osq = W1 at HB2 ⊢
          rename_i K hK
          refine hK _ _ ?_
          clear hK K
          go_wp2_with fail
          exact ⟨⟨k + 1, _, rfl, by go_num, by omega, HB.out.1.trans (HB2.out.mono HB.out.1.size), HN.out⟩, by simp [Lib.intOf]; omega⟩
      · have hu : ((y.s.user : Int) != (z.s.user : Int)) = true := bneT eu
        have hu2 : (y.s.user != z.s.user) = true := by simpa using eu
        have HN := Lib.hid (decide_eq_false (HB.out.2.2.2.1 (fun h => eu (by rw [h]))))
        clear eu
        go_upto_region 6 with fail
        refine wp_region_quiet_below (by kernel_rfl) (by kernel_rfl) ?_
        iterate 29 (go_big_quiet_step (first | (go_at_call 46; with_reducible exact Calls.regrown_of (HM.out _ _))))
        refine wpQuiet_nil ?_
        intro _ hw'
        obtain ⟨⟨dq, osq⟩, hw''⟩ := hw'
        subst hw''
        have HB2 := Lib.hid (below_regrown wr dq osq)
        generalize Sort.grow (redrawn wr dq) osq = W1 at HB2 ⊢
        rename_i K hK
        refine hK _ _ ?_
        clear hK K
        go_wp2_with fail
        go_ret
        have hbb := HK.out.1.trans ((HB.out.1.trans (HB2.out.mono HB.out.1.size)).mono HRW.out)
        exact ⟨by first | (rw [rl_eq rfl rfl, HN.out]; rfl) | (rw [HN.out]; rfl), by first | exact hbb | (rw [eR]; exact hbb)⟩
    · have hkz : ¬ (k : Int) < (len : Int) := by omega
      have hkn : k = (bxs L).length := by omega
      rw [hkn] at h3
      have HD := Lib.hid (decide_eq_true (eq_ofC (by omega) h3))
      clear h3
      go_wp2_with fail
      go_ret
      have hbb := HK.out.1.trans (h2.mono HRW.out)
      exact ⟨by first | (rw [rl_eq rfl rfl, HD.out]; rfl) | (rw [HD.out]; rfl), by first | exact hbb | (rw [eR]; exact hbb)⟩
theorem eqlM_nil (n c : Nat) (W : World) : (binOp .eql 65 (.slice none n c) (.slice none 0 0)).run Try.prog W = .ok (.bool true) W := by rfl
theorem eqlM_some (ad : Addr) (n c : Nat) (W : World) : (binOp .eql 65 (.slice (some ad) n c) (.slice none 0 0)).run Try.prog W = .ok (.bool false) W := by rfl
set_option maxHeartbeats 2000000 in
theorem cloneM_any (a : Option Addr) (c : Nat) (l : List Ml) (hl : l.length ≤ 1000) (w : World) (hp : PM w a c l) :
    Calls Try.prog 79 #[.slice a l.length c] w fun e w' => ∃ v, e = .returned v ∧ OwnE eMl 82 w' w.heap.size v l ∧ Below w.heap.size w w' := by
  cases a with
  | none =>
    have h := (hp.nil rfl).2
    subst h
    have q := fun W => eqlM_nil 0 c W
    clear hp hl
    go_enter Try.func79, Try.ntmps79
    go_wp2_with fail
    go_ret
    exact ⟨_, rfl, OwnE.nil _ _ _ _, Below.refl _ _⟩
  | some ad =>
    have hO := OwnE.empty eMl 82 w w.heap.size (Nat.le_refl _)
    have hB : Below w.heap.size w (w.alloc (.cells #[] 82)) := (Below.refl _ w).alloc (Nat.le_refl _) _
    have HO := Lib.hid hO; have HB := Lib.hid hB; have HK := Lib.hid (hp.on hB).at_; have HL := Lib.hid hl
    have q := fun W => eqlM_some ad l.length c W
    clear hO hB hp hl
    go_enter Try.func79, Try.ntmps79
    go_wp2_with (at_builtin; refine append_E eMl 65 82 _ 32 Try.underlying65 infoMl rfl rfl _ _ rfl w.heap.size _ [] _ _ _ l rfl rfl rfl HO.out HK.out (fun e => by cases e) (by have := HL.out; unfold maxLen; simp; omega) (by have := HL.out; simp; omega) HB.out.size ?_; intro v' w3 ho3 hg3; have HO3 := Lib.hid ho3; have HG3 := Lib.hid hg3; clear ho3 hg3)
    go_ret
    exact ⟨_, rfl, by simpa using HO3.out, OwnE.below HO.out HB.out HB.out.size HG3.out⟩
end Go.Proofs.Ytmmaimopombepaa
