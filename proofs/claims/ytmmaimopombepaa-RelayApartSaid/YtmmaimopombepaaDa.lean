/- The reference 16's With: what it gives is its own. -/
import Derived.Test.YtmmaimopombepaaCu
namespace Go.Proofs.Ytmmaimopombepaa
open Go.RowKit
set_option maxRecDepth 100000

set_option maxHeartbeats 8000000 in
theorem withOwn_any (a : Option Addr) (c : Nat) (L : List BxM) (now next : Nat) (hf : FewB L) (u : Nat) (al : Option Addr) (cl : Nat) (ml : List Ml) (hml : ml.length ≤ 1000) (w : World) (h : SB w a c L) (hm : PM w al cl ml) :
    Calls Try.prog 48 #[.agg #[.slice a L.length c, .int .u64 (now : Int), .int .u64 (next : Int)], .int .u64 (u : Int), .slice al ml.length cl] w fun e w' => ∃ (a' : Option Addr) (c' : Nat) (K : List BxM), e = .returned (.agg #[.slice a' K.length c', .int .u64 (now : Int), .int .u64 (next : Int)]) ∧ K = withBM L u al cl ml ∧ OwnE eBx 101 w' w.heap.size (.slice a' K.length c') K ∧ Below w.heap.size w w' := by
  obtain ⟨len, elen⟩ : ∃ len, L.length = len := ⟨_, rfl⟩
  obtain ⟨mln, emln⟩ : ∃ mln, ml.length = mln := ⟨_, rfl⟩
  have q : (len : Int) ≤ 1000 := by have := hf.1; omega
  have qm : (mln : Int) ≤ 1000 := by omega
  obtain ⟨W0, eW0⟩ : ∃ W0, (w.alloc (.cells #[.slice a len c, .int .u64 (now : Int), .int .u64 (next : Int)] 56)).alloc (.cells #[.slice none 0 0, .int .u64 0, .int .u64 0] 56) = W0 := ⟨_, rfl⟩
  have b0 : Below w.heap.size w W0 := by rw [← eW0]; exact ((Below.refl _ w).alloc (Nat.le_refl _) _).alloc (by simp) _
  obtain ⟨R, eR⟩ : ∃ R, w.heap.size = R := ⟨_, rfl⟩
  have kR : BlkV W0 R 56 [.slice a len c, .int .u64 (now : Int), .int .u64 (next : Int)] := by rw [← eW0, ← eR]; exact (BlkV.fresh w _ _ _ rfl _ rfl).alloc _
  have kZ : BlkV W0 (R + 1) 56 [.slice none 0 0, .int .u64 0, .int .u64 0] := by rw [← eW0, ← eR]; exact BlkV.fresh _ _ _ _ rfl _ (by simp)
  have o0 : OwnE eBx 101 (W0.alloc (.cells #[] 101)) W0.heap.size (.slice (some ⟨W0.heap.size, 0, none⟩) 0 0) [] := OwnE.empty _ _ _ _ (Nat.le_refl _)
  have b1 : Below W0.heap.size W0 (W0.alloc (.cells #[] 101)) := (Below.refl _ W0).alloc (Nat.le_refl _) _
  have kR1 := kR.on b1
  have d0 := kR1.cell 0 _ rfl
  have HK := Lib.hid (And.intro (show Below R w W0 by rw [← eR]; exact b0) (And.intro kR (And.intro kZ (h.on b0))))
  have HRW := Lib.hid (show R ≤ W0.heap.size by rw [← eR]; exact b0.size)
  have HW := Lib.hid (And.intro h hm)
  have HO0 := Lib.hid (And.intro o0 b1)
  rw [elen, emln]
  clear b0 kR kZ h hm o0 b1 kR1 hf
  go_enter Try.func48, Try.ntmps48
  go_upto_region 1 with fail
  go_upto_region 2 with fail
  clear eW0
  go_wp2_with fail
  go_loopw [7, 16] (WbRel W0 L [] (fun y => decide (y.s.user < u))) (fun _ i _ => len - (Lib.intOf i).toNat)
  case atStart => exact ⟨0, _, rfl, rfl, Nat.zero_le _, HO0.out.2, HO0.out.1⟩
  case round =>
    clear HO0 d0
    obtain ⟨k, wr, rfl, rfl, h1, h2, h3⟩ := hrel
    by_cases hkn : k < len
    · have hkz : (k : Int) < (len : Int) := by omega
      have hkL : k < L.length := by omega
      obtain ⟨b, off, eb, hlt, hall⟩ := (HK.out.2.2.2.on h2).get k hkL
      obtain ⟨c0, c1⟩ := hall k hkL
      have hfs := filterBM_step L (fun y => decide (y.s.user < u)) k hkL
      have hle := filterBM_le (fun y => decide (y.s.user < u)) L k
      obtain ⟨x, ex⟩ : ∃ x, L[k] = x := ⟨_, rfl⟩
      rw [ex] at c0 c1 hfs
      obtain ⟨W1, eW1⟩ : ∃ W1, wr.alloc (.cells #[.int .u64 (x.s.user : Int), .slice x.a x.s.ml.length x.c] 101) = W1 := ⟨_, rfl⟩
      have b1 : Below wr.heap.size wr W1 := by rw [← eW1]; exact (Below.refl _ wr).alloc (Nat.le_refl _) _
      obtain ⟨S, eS⟩ : ∃ S, wr.heap.size = S := ⟨_, rfl⟩
      have kM : BlkV W1 S 101 [.int .u64 (x.s.user : Int), .slice x.a x.s.ml.length x.c] := by rw [← eW1, ← eS]; exact BlkV.fresh wr _ _ _ rfl _ rfl
      have n0 := kM.cell 0 _ rfl
      have n1 := kM.cell 1 _ rfl
      have hle2 : (([] : List BxM) ++ (L.take k).filter (fun y => decide (y.s.user < u))).length ≤ 3000 := by rw [List.length_append]; have := (by simp : ([] : List BxM).length ≤ 1001); omega
      have HX := Lib.hid (And.intro (h2.trans (b1.mono h2.size)) (And.intro (h3.on b1) (And.intro hfs hle2)))
      rw [eb]
      clear h2 h3 hall hfs hle hle2 ex b1 kM
      go_upto_region 5 with fail
      clear eW1 c0 c1
      by_cases hd : x.s.user < u
      · have hq : (x.s.user : Int) < (u : Int) := by omega
        have HD := Lib.hid hd
        have HQ := Lib.hid (one_bx W1 x W1.heap.size rfl)
        clear hd
        go_wp2_with (at_builtin; refine append_E eBx 54 101 _ 32 Try.underlying54 infoBx rfl rfl _ _ rfl W0.heap.size _ _ _ _ _ [x] rfl rfl rfl (HX.out.2.1.alloc _) HQ.out (fun e => by cases e) (by have := HX.out.2.2.2; unfold maxLen; simp only [List.length_singleton]; omega) (by have := HX.out.2.2.2; simp only [List.length_singleton]; omega) (by have := HX.out.1.size; simp; omega) ?_; intro v' w3 ho3 hg3; have HO3 := Lib.hid ho3; have HG3 := Lib.hid (OwnE.below (HX.out.2.1.alloc _) (HX.out.1.alloc HX.out.1.size _) (by have := HX.out.1.size; simp; omega) hg3); clear ho3 hg3)
        refine ⟨⟨k + 1, _, rfl, by go_num, by omega, HG3.out, ?_⟩, by simp [Lib.intOf]; omega⟩
        rw [HX.out.2.2.1, if_pos (show decide (x.s.user < u) = true from decide_eq_true HD.out), ← List.append_assoc]
        exact HO3.out
      · have hq : ¬ (x.s.user : Int) < (u : Int) := by omega
        have HD := Lib.hid hd
        clear hd
        go_wp2_with fail
        refine ⟨⟨k + 1, _, rfl, by go_num, by omega, HX.out.1, ?_⟩, by simp [Lib.intOf]; omega⟩
        rw [HX.out.2.2.1, if_neg (by rw [decide_eq_false HD.out]; decide), List.append_nil]
        exact HX.out.2.1
    · have hkz : ¬ (k : Int) < (len : Int) := by omega
      obtain rfl : len = k := by omega
      rw [List.take_of_length_le (by omega), List.nil_append] at h3
      obtain ⟨F1, eF1⟩ : ∃ F1, L.filter (fun y => decide (y.s.user < u)) = F1 := ⟨_, rfl⟩
      rw [eF1] at h3
      have hF1 : F1.length ≤ 1000 := by rw [← eF1]; have := List.length_filter_le (fun y : BxM => decide (y.s.user < u)) L; omega
      have HX := Lib.hid (And.intro h2 (And.intro h3 (And.intro eF1 hF1)))
      clear h2 h3 eF1 hF1
      obtain ⟨G1, eG1⟩ : ∃ G1, F1 ++ (if ml = [] then [] else [(⟨⟨u, ml⟩, al, cl⟩ : BxM)]) = G1 := ⟨_, rfl⟩
      have hG1 : G1.length ≤ 1001 := by rw [← eG1, List.length_append]; have := HX.out.2.2.2; split <;> simp <;> omega
      have HG1 := Lib.hid (And.intro eG1 (And.intro HX.out.2.2.1 hG1))
      clear eG1 hG1
      by_cases hz : ml = []
      · have hz2 : mln = 0 := by rw [← emln, hz]; rfl
        have ho1 := HX.out.2.1
        have e1 := HG1.out.1
        rw [if_pos hz, List.append_nil] at e1
        rw [e1] at ho1
        have d0 := (HK.out.2.1.on HX.out.1).cell 0 _ rfl
        have HY := Lib.hid (And.intro HX.out.1 (And.intro ho1 (And.intro HG1.out.1 (And.intro HG1.out.2.1 HG1.out.2.2))))
        clear hz ho1 e1 HX
        subst hz2
        go_wp2_with fail
        go_loopw [7, 41] (WbRel W0 L G1 (fun y => decide (u < y.s.user))) (fun _ i _ => len - (Lib.intOf i).toNat)
        case atStart => exact ⟨0, _, rfl, rfl, Nat.zero_le _, HY.out.1, by rw [List.take_zero, List.filter_nil, List.append_nil]; exact HY.out.2.1⟩
        case round =>
          clear d0
          obtain ⟨k, wr, rfl, rfl, h1, h2, h3⟩ := hrel
          by_cases hkn : k < len
          · have hkz : (k : Int) < (len : Int) := by omega
            have hkL : k < L.length := by omega
            obtain ⟨b, off, eb, hlt, hall⟩ := (HK.out.2.2.2.on h2).get k hkL
            obtain ⟨c0, c1⟩ := hall k hkL
            have hfs := filterBM_step L (fun y => decide (u < y.s.user)) k hkL
            have hle := filterBM_le (fun y => decide (u < y.s.user)) L k
            obtain ⟨x, ex⟩ : ∃ x, L[k] = x := ⟨_, rfl⟩
            rw [ex] at c0 c1 hfs
            obtain ⟨W1, eW1⟩ : ∃ W1, wr.alloc (.cells #[.int .u64 (x.s.user : Int), .slice x.a x.s.ml.length x.c] 101) = W1 := ⟨_, rfl⟩
            have b1 : Below wr.heap.size wr W1 := by rw [← eW1]; exact (Below.refl _ wr).alloc (Nat.le_refl _) _
            obtain ⟨S, eS⟩ : ∃ S, wr.heap.size = S := ⟨_, rfl⟩
            have kM : BlkV W1 S 101 [.int .u64 (x.s.user : Int), .slice x.a x.s.ml.length x.c] := by rw [← eW1, ← eS]; exact BlkV.fresh wr _ _ _ rfl _ rfl
            have n0 := kM.cell 0 _ rfl
            have n1 := kM.cell 1 _ rfl
            have hle2 : (G1 ++ (L.take k).filter (fun y => decide (u < y.s.user))).length ≤ 3000 := by rw [List.length_append]; have := HY.out.2.2.2.2; omega
            have HX := Lib.hid (And.intro (h2.trans (b1.mono h2.size)) (And.intro (h3.on b1) (And.intro hfs hle2)))
            rw [eb]
            clear h2 h3 hall hfs hle hle2 ex b1 kM
            go_upto_region 13 with fail
            clear eW1 c0 c1
            by_cases hd : u < x.s.user
            · have hq : (x.s.user : Int) > (u : Int) := by omega
              have HD := Lib.hid hd
              have HQ := Lib.hid (one_bx W1 x W1.heap.size rfl)
              clear hd
              go_wp2_with (at_builtin; refine append_E eBx 54 101 _ 32 Try.underlying54 infoBx rfl rfl _ _ rfl W0.heap.size _ _ _ _ _ [x] rfl rfl rfl (HX.out.2.1.alloc _) HQ.out (fun e => by cases e) (by have := HX.out.2.2.2; unfold maxLen; simp only [List.length_singleton]; omega) (by have := HX.out.2.2.2; simp only [List.length_singleton]; omega) (by have := HX.out.1.size; simp; omega) ?_; intro v' w3 ho3 hg3; have HO3 := Lib.hid ho3; have HG3 := Lib.hid (OwnE.below (HX.out.2.1.alloc _) (HX.out.1.alloc HX.out.1.size _) (by have := HX.out.1.size; simp; omega) hg3); clear ho3 hg3)
              refine ⟨⟨k + 1, _, rfl, by go_num, by omega, HG3.out, ?_⟩, by simp [Lib.intOf]; omega⟩
              rw [HX.out.2.2.1, if_pos (show decide (u < x.s.user) = true from decide_eq_true HD.out), ← List.append_assoc]
              exact HO3.out
            · have hq : ¬ (x.s.user : Int) > (u : Int) := by omega
              have HD := Lib.hid hd
              clear hd
              go_wp2_with fail
              refine ⟨⟨k + 1, _, rfl, by go_num, by omega, HX.out.1, ?_⟩, by simp [Lib.intOf]; omega⟩
              rw [HX.out.2.2.1, if_neg (by rw [decide_eq_false HD.out]; decide), List.append_nil]
              exact HX.out.2.1
          · have hkz : ¬ (k : Int) < (len : Int) := by omega
            obtain rfl : len = k := by omega
            rw [List.take_of_length_le (by omega)] at h3
            have eK : G1 ++ L.filter (fun y => decide (u < y.s.user)) = withBM L u al cl ml := by
              unfold withBM
              rw [← HY.out.2.2.1, ← HY.out.2.2.2.1]
            rw [eK] at h3
            obtain ⟨av, cv, rfl, -⟩ := h3.sl
            have kR2 := HK.out.2.1.on h2
            have kZ2 := HK.out.2.2.1.on h2
            have x1 := kR2.cell 1 _ rfl
            have x2 := kR2.cell 2 _ rfl
            have z0 := kZ2.cell 0 _ rfl
            have z1 := kZ2.cell 1 _ rfl
            have z2 := kZ2.cell 2 _ rfl
            have g0 := kZ2.frozen 0
            have g1 := kZ2.frozen 1
            have g2 := kZ2.frozen 2
            obtain ⟨KK, eKK⟩ : ∃ KK, withBM L u al cl ml = KK := ⟨_, rfl⟩
            rw [eKK] at h3 ⊢
            have hmls : ∀ V, Below R w V → ∀ m ∈ KK, PM V m.a m.c m.s.ml := fun V hV m hm => by
              rw [← eKK] at hm
              unfold withBM at hm
              have hV2 : Below w.heap.size w V := by rw [eR]; exact hV
              rcases List.mem_append.1 hm with hm | hm
              · rcases List.mem_append.1 hm with hm | hm
                · exact (HW.out.1.mls m ((List.mem_filter.1 hm).1)).on hV2
                · by_cases hz : ml = []
                  · rw [if_pos hz] at hm; cases hm
                  · rw [if_neg hz] at hm
                    rw [List.mem_singleton.1 hm]
                    exact HW.out.2.on hV2
              · exact (HW.out.1.mls m ((List.mem_filter.1 hm).1)).on hV2
            have HZ := Lib.hid (And.intro kZ2 (And.intro (HK.out.1.trans (h2.mono HRW.out)) (And.intro h3 (And.intro hmls eKK))))
            clear h2 h3 eK kR2 kZ2 hmls eKK
            go_wp2_with fail
            have HF := HZ.out.1.put3 (.slice av KK.length cv) (.int .u64 (now : Int)) (.int .u64 (next : Int))
            have hbF := below_put3 HZ.out.2.1 (R + 1) (by omega) (.slice av KK.length cv) (.int .u64 (now : Int)) (.int .u64 (next : Int))
            have hfar := put3_far wr (R + 1) (.slice av KK.length cv) (.int .u64 (now : Int)) (.int .u64 (next : Int))
            have o9 := OwnE.farR2 HZ.out.2.2.1 HZ.out.1 (by decide) hfar
            generalize World.setCell _ _ _ = W9 at HF hbF hfar o9 ⊢
            refine bodyPost_ret (results_cR (p := 6) (T := 56) (by kernel_rfl) _ _ (R + 1) rfl HF Try.underlying56 rfl (by kernel_rfl)) rfl ?_
            have o9m : OwnE eBx 101 W9 R (.slice av KK.length cv) KK := World.ownsRow.mono o9 HRW.out
            exact ⟨av, cv, KK, rfl, HZ.out.2.2.2.2.symm, by (first | exact o9m | (rw [eR]; exact o9m)), by first | exact hbF | (rw [eR]; exact hbF)⟩
      · have hz2 : (mln : Int) > 0 := by have := List.length_pos_iff.2 hz; omega
        have e1 := HG1.out.1
        rw [if_neg hz] at e1
        have HE1 := Lib.hid e1
        have hq1 := one_bx wr ⟨⟨u, ml⟩, al, cl⟩ wr.heap.size rfl
        simp only [emln] at hq1
        have HQ := Lib.hid hq1
        clear hz hq1 e1
        go_wp2_with (at_builtin; refine append_E eBx 54 101 _ 32 Try.underlying54 infoBx rfl rfl _ _ rfl W0.heap.size _ _ _ _ _ [⟨⟨u, ml⟩, al, cl⟩] rfl rfl rfl (HX.out.2.1.alloc _) HQ.out (fun e => by cases e) (by have := HX.out.2.2.2; unfold maxLen; simp only [List.length_singleton]; omega) (by have := HX.out.2.2.2; simp only [List.length_singleton]; omega) (by have := HX.out.1.size; simp; omega) ?_; intro v' w3 ho3 hg3; have HG3 := Lib.hid (OwnE.below (HX.out.2.1.alloc _) (HX.out.1.alloc HX.out.1.size _) (by have := HX.out.1.size; simp; omega) hg3); have d0 := (HK.out.2.1.on HG3.out).cell 0 _ rfl; have HO3 := Lib.hid ho3; clear ho3 hg3)
        have ho1 := HO3.out
        rw [HE1.out] at ho1
        have HY := Lib.hid (And.intro HG3.out (And.intro ho1 (And.intro HG1.out.1 (And.intro HG1.out.2.1 HG1.out.2.2))))
        clear ho1 HO3 HG3 HX
        go_loopw [7, 41] (WbRel W0 L G1 (fun y => decide (u < y.s.user))) (fun _ i _ => len - (Lib.intOf i).toNat)
        case atStart => exact ⟨0, _, rfl, rfl, Nat.zero_le _, HY.out.1, by rw [List.take_zero, List.filter_nil, List.append_nil]; exact HY.out.2.1⟩
        case round =>
          clear d0
          obtain ⟨k, wr, rfl, rfl, h1, h2, h3⟩ := hrel
          by_cases hkn : k < len
          · have hkz : (k : Int) < (len : Int) := by omega
            have hkL : k < L.length := by omega
            obtain ⟨b, off, eb, hlt, hall⟩ := (HK.out.2.2.2.on h2).get k hkL
            obtain ⟨c0, c1⟩ := hall k hkL
            have hfs := filterBM_step L (fun y => decide (u < y.s.user)) k hkL
            have hle := filterBM_le (fun y => decide (u < y.s.user)) L k
            obtain ⟨x, ex⟩ : ∃ x, L[k] = x := ⟨_, rfl⟩
            rw [ex] at c0 c1 hfs
            obtain ⟨W1, eW1⟩ : ∃ W1, wr.alloc (.cells #[.int .u64 (x.s.user : Int), .slice x.a x.s.ml.length x.c] 101) = W1 := ⟨_, rfl⟩
            have b1 : Below wr.heap.size wr W1 := by rw [← eW1]; exact (Below.refl _ wr).alloc (Nat.le_refl _) _
            obtain ⟨S, eS⟩ : ∃ S, wr.heap.size = S := ⟨_, rfl⟩
            have kM : BlkV W1 S 101 [.int .u64 (x.s.user : Int), .slice x.a x.s.ml.length x.c] := by rw [← eW1, ← eS]; exact BlkV.fresh wr _ _ _ rfl _ rfl
            have n0 := kM.cell 0 _ rfl
            have n1 := kM.cell 1 _ rfl
            have hle2 : (G1 ++ (L.take k).filter (fun y => decide (u < y.s.user))).length ≤ 3000 := by rw [List.length_append]; have := HY.out.2.2.2.2; omega
            have HX := Lib.hid (And.intro (h2.trans (b1.mono h2.size)) (And.intro (h3.on b1) (And.intro hfs hle2)))
            rw [eb]
            clear h2 h3 hall hfs hle hle2 ex b1 kM
            go_upto_region 13 with fail
            clear eW1 c0 c1
            by_cases hd : u < x.s.user
            · have hq : (x.s.user : Int) > (u : Int) := by omega
              have HD := Lib.hid hd
              have HQ := Lib.hid (one_bx W1 x W1.heap.size rfl)
              clear hd
              go_wp2_with (at_builtin; refine append_E eBx 54 101 _ 32 Try.underlying54 infoBx rfl rfl _ _ rfl W0.heap.size _ _ _ _ _ [x] rfl rfl rfl (HX.out.2.1.alloc _) HQ.out (fun e => by cases e) (by have := HX.out.2.2.2; unfold maxLen; simp only [List.length_singleton]; omega) (by have := HX.out.2.2.2; simp only [List.length_singleton]; omega) (by have := HX.out.1.size; simp; omega) ?_; intro v' w3 ho3 hg3; have HO3 := Lib.hid ho3; have HG3 := Lib.hid (OwnE.below (HX.out.2.1.alloc _) (HX.out.1.alloc HX.out.1.size _) (by have := HX.out.1.size; simp; omega) hg3); clear ho3 hg3)
              refine ⟨⟨k + 1, _, rfl, by go_num, by omega, HG3.out, ?_⟩, by simp [Lib.intOf]; omega⟩
              rw [HX.out.2.2.1, if_pos (show decide (u < x.s.user) = true from decide_eq_true HD.out), ← List.append_assoc]
              exact HO3.out
            · have hq : ¬ (x.s.user : Int) > (u : Int) := by omega
              have HD := Lib.hid hd
              clear hd
              go_wp2_with fail
              refine ⟨⟨k + 1, _, rfl, by go_num, by omega, HX.out.1, ?_⟩, by simp [Lib.intOf]; omega⟩
              rw [HX.out.2.2.1, if_neg (by rw [decide_eq_false HD.out]; decide), List.append_nil]
              exact HX.out.2.1
          · have hkz : ¬ (k : Int) < (len : Int) := by omega
            obtain rfl : len = k := by omega
            rw [List.take_of_length_le (by omega)] at h3
            have eK : G1 ++ L.filter (fun y => decide (u < y.s.user)) = withBM L u al cl ml := by
              unfold withBM
              rw [← HY.out.2.2.1, ← HY.out.2.2.2.1]
            rw [eK] at h3
            obtain ⟨av, cv, rfl, -⟩ := h3.sl
            have kR2 := HK.out.2.1.on h2
            have kZ2 := HK.out.2.2.1.on h2
            have x1 := kR2.cell 1 _ rfl
            have x2 := kR2.cell 2 _ rfl
            have z0 := kZ2.cell 0 _ rfl
            have z1 := kZ2.cell 1 _ rfl
            have z2 := kZ2.cell 2 _ rfl
            have g0 := kZ2.frozen 0
            have g1 := kZ2.frozen 1
            have g2 := kZ2.frozen 2
            obtain ⟨KK, eKK⟩ : ∃ KK, withBM L u al cl ml = KK := ⟨_, rfl⟩
            rw [eKK] at h3 ⊢
            have hmls : ∀ V, Below R w V → ∀ m ∈ KK, PM V m.a m.c m.s.ml := fun V hV m hm => by
              rw [← eKK] at hm
              unfold withBM at hm
              have hV2 : Below w.heap.size w V := by rw [eR]; exact hV
              rcases List.mem_append.1 hm with hm | hm
              · rcases List.mem_append.1 hm with hm | hm
                · exact (HW.out.1.mls m ((List.mem_filter.1 hm).1)).on hV2
                · by_cases hz : ml = []
                  · rw [if_pos hz] at hm; cases hm
                  · rw [if_neg hz] at hm
                    rw [List.mem_singleton.1 hm]
                    exact HW.out.2.on hV2
              · exact (HW.out.1.mls m ((List.mem_filter.1 hm).1)).on hV2
            have HZ := Lib.hid (And.intro kZ2 (And.intro (HK.out.1.trans (h2.mono HRW.out)) (And.intro h3 (And.intro hmls eKK))))
            clear h2 h3 eK kR2 kZ2 hmls eKK
            go_wp2_with fail
            have HF := HZ.out.1.put3 (.slice av KK.length cv) (.int .u64 (now : Int)) (.int .u64 (next : Int))
            have hbF := below_put3 HZ.out.2.1 (R + 1) (by omega) (.slice av KK.length cv) (.int .u64 (now : Int)) (.int .u64 (next : Int))
            have hfar := put3_far wr (R + 1) (.slice av KK.length cv) (.int .u64 (now : Int)) (.int .u64 (next : Int))
            have o9 := OwnE.farR2 HZ.out.2.2.1 HZ.out.1 (by decide) hfar
            generalize World.setCell _ _ _ = W9 at HF hbF hfar o9 ⊢
            refine bodyPost_ret (results_cR (p := 6) (T := 56) (by kernel_rfl) _ _ (R + 1) rfl HF Try.underlying56 rfl (by kernel_rfl)) rfl ?_
            have o9m : OwnE eBx 101 W9 R (.slice av KK.length cv) KK := World.ownsRow.mono o9 HRW.out
            exact ⟨av, cv, KK, rfl, HZ.out.2.2.2.2.symm, by (first | exact o9m | (rw [eR]; exact o9m)), by first | exact hbF | (rw [eR]; exact hbF)⟩
end Go.Proofs.Ytmmaimopombepaa
