/- The reference 16's Push. -/
import Derived.Test.YtmmaimopombepaaDa
import Derived.Test.YtmmaimopombepaaCn
namespace Go.Proofs.Ytmmaimopombepaa
open Go.RowKit
set_option maxRecDepth 100000

set_option maxHeartbeats 8000000 in
theorem pushRef_any (a : Option Addr) (c : Nat) (L : List BxM) (now next : Nat) (hf : FewB L) (u : Nat) (b : ByteArray) (hnx : next < 4611686018427387904) (hF9 : (mailsR (bxs L) u).length ≤ 999) (w : World) (h : SB w a c L) :
    Calls Try.prog 42 #[.agg #[.slice a L.length c, .int .u64 (now : Int), .int .u64 (next : Int)], .int .u64 (u : Int), .string b] w fun e w' => ∃ (a' : Option Addr) (c' : Nat) (K : List BxM), e = .returned (.agg #[.slice a' K.length c', .int .u64 (now : Int), .int .u64 ((next + 1 : Nat) : Int)]) ∧ SB w' a' c' K ∧ bxs K = withB (bxs L) u (mailsR (bxs L) u ++ [⟨next, b, now⟩]) ∧ Below w.heap.size w w' := by
  obtain ⟨len, elen⟩ : ∃ len, L.length = len := ⟨_, rfl⟩
  obtain ⟨F, eF⟩ : ∃ F, mailsR (bxs L) u = F := ⟨_, rfl⟩
  obtain ⟨lf, elf⟩ : ∃ lf, F.length = lf := ⟨_, rfl⟩
  obtain ⟨n1, en1⟩ : ∃ n1, next + 1 = n1 := ⟨_, rfl⟩
  have en1z : (next : Int) + 1 = (n1 : Int) := by omega
  have hwr : IntKind.u64.wrap (n1 : Int) = (n1 : Int) := by show (n1 : Int) % 18446744073709551616 = _; omega
  rw [eF] at hF9
  have hlz : (lf : Int) ≤ 999 := by omega
  obtain ⟨W0, eW0⟩ : ∃ W0, (w.alloc (.cells #[.slice a len c, .int .u64 (now : Int), .int .u64 (next : Int)] 56)).alloc (.cells #[.slice none 0 0, .int .u64 0, .int .u64 0] 56) = W0 := ⟨_, rfl⟩
  have b0 : Below w.heap.size w W0 := by rw [← eW0]; exact ((Below.refl _ w).alloc (Nat.le_refl _) _).alloc (by simp) _
  obtain ⟨R, eR⟩ : ∃ R, w.heap.size = R := ⟨_, rfl⟩
  have kR : BlkV W0 R 56 [.slice a len c, .int .u64 (now : Int), .int .u64 (next : Int)] := by rw [← eW0, ← eR]; exact (BlkV.fresh w _ _ _ rfl _ rfl).alloc _
  have kZ : BlkV W0 (R + 1) 56 [.slice none 0 0, .int .u64 0, .int .u64 0] := by rw [← eW0, ← eR]; exact BlkV.fresh _ _ _ _ rfl _ (by simp)
  have bE : Below W0.heap.size W0 (W0.alloc (.cells #[] 82)) := (Below.refl _ W0).alloc (Nat.le_refl _) _
  have oE : OwnE eMl 82 (W0.alloc (.cells #[] 82)) W0.heap.size (.slice (some ⟨W0.heap.size, 0, none⟩) 0 0) [] := OwnE.empty _ _ _ _ (Nat.le_refl _)
  have kRE := kR.on bE
  have d0 := kRE.cell 0 _ rfl
  have d1 := kRE.cell 1 _ rfl
  have d2 := kRE.cell 2 _ rfl
  have hM := mailsRef_any a c L now next hf u _ ((h.on b0).on bE)
  simp only [eF, elen, elf] at hM
  have HM := Lib.hid hM
  have HK := Lib.hid (And.intro (show Below R w W0 by rw [← eR]; exact b0) (And.intro kR (And.intro kZ (And.intro bE oE))))
  have HRW := Lib.hid (show R + 2 ≤ W0.heap.size by rw [← eW0, ← eR]; simp)
  have HSw := Lib.hid (show ∀ V, Below R w V → SB V a c L from fun V hV => h.on (by rw [eR]; exact hV))
  have HW := Lib.hid (And.intro h (And.intro hf (And.intro hF9 (And.intro elen (And.intro elf (And.intro en1 eF))))))
  rw [elen, eF, en1]
  clear b0 kR kZ bE oE kRE h hf hM elen elf eF en1
  go_enter Try.func42, Try.ntmps42
  go_upto_region 2 with fail
  clear eW0
  go_wp2_with fail
  refine HM.out.mono ?_
  rintro e w1 ⟨a1, c1, rfl, hp1, hb1⟩
  have hb01 := HK.out.2.2.2.1.trans (hb1.mono HK.out.2.2.2.1.size)
  have H1 := Lib.hid (And.intro hp1 (And.intro (HK.out.2.2.2.2.on hb1) hb01))
  clear hp1 hb1 hb01 HM d0 d1 d2
  go_upto_region 3 with (at_builtin; refine append_E eMl 65 82 _ 32 Try.underlying65 infoMl rfl rfl _ _ rfl W0.heap.size _ _ _ _ _ F HW.out.2.2.2.2.1.symm rfl rfl H1.out.2.1 H1.out.1.at_ (fun e => (H1.out.1.nil e).2) (by have := HW.out.2.2.1; unfold maxLen; simp only [List.length_nil]; omega) (by have := HW.out.2.2.1; simp only [List.length_nil]; omega) (by have := H1.out.2.2.size; omega) ?_; intro v2 w2 ho2 hg2; have hG2 := OwnE.below H1.out.2.1 H1.out.2.2 (by have := H1.out.2.2.size; omega) hg2; have kR2 := HK.out.2.1.on hG2; have x1 := kR2.cell 1 _ rfl; have x2 := kR2.cell 2 _ rfl; have H2 := Lib.hid (And.intro ho2 hG2); clear ho2 hg2 hG2 kR2)
  have HQ := Lib.hid (one_ml w2 ⟨next, b, now⟩ w2.heap.size rfl)
  go_upto_region 4 with (at_builtin; refine append_E eMl 65 82 _ 32 Try.underlying65 infoMl rfl rfl _ _ rfl W0.heap.size _ _ _ _ _ [⟨next, b, now⟩] rfl rfl rfl (H2.out.1.alloc _) HQ.out (fun e => by cases e) (by have := HW.out.2.2.1; unfold maxLen; simp only [List.length_singleton, List.nil_append]; omega) (by have := HW.out.2.2.1; simp only [List.length_singleton, List.nil_append]; omega) (by have := H2.out.2.size; simp; omega) ?_; intro v4 w4 ho4 hg4; have hG4 := OwnE.below (H2.out.1.alloc _) (H2.out.2.alloc H2.out.2.size _) (by have := H2.out.2.size; simp; omega) hg4; rw [List.nil_append] at ho4; obtain ⟨al, cl, rfl, -⟩ := OwnE.sl ho4; have kR4 := HK.out.2.1.on hG4; have y0 := kR4.cell 0 _ rfl; have y1 := kR4.cell 1 _ rfl; have y2 := kR4.cell 2 _ rfl; have H4 := Lib.hid (And.intro ho4 (And.intro hG4 (HK.out.1.trans (hG4.mono (by have := HRW.out; omega))))); obtain ⟨ml, eml⟩ : ∃ ml, F ++ [(⟨next, b, now⟩ : Ml)] = ml := ⟨_, rfl⟩; rw [eml] at H4 ⊢; clear ho4 hg4 hG4 kR4 x1 x2)
  have hml : ml.length ≤ 1000 := by rw [← eml, List.length_append]; have := HW.out.2.2.1; simp; omega
  obtain ⟨ln, eln⟩ : ∃ ln, ml.length = ln := ⟨_, rfl⟩
  have hWi := withOwn_any a c L now next HW.out.2.1 u al cl ml hml w4 (HSw.out _ H4.out.2.2) (OwnE.pm H4.out.1).1
  rw [HW.out.2.2.2.1, eln] at hWi
  rw [eln]
  have HWi := Lib.hid hWi
  have HML := Lib.hid eml
  clear hWi eml hml
  go_wp2_with fail
  refine HWi.out.mono ?_
  rintro e w5 ⟨a5, c5, K, rfl, hK, ho5, hb5⟩
  obtain ⟨W6, eW6⟩ : ∃ W6, w5.alloc (.cells #[.slice none 0 0, .int .u64 0, .int .u64 0] 56) = W6 := ⟨_, rfl⟩
  have b6 : Below w5.heap.size w5 W6 := by rw [← eW6]; exact (Below.refl _ w5).alloc (Nat.le_refl _) _
  obtain ⟨S, eS⟩ : ∃ S, w5.heap.size = S := ⟨_, rfl⟩
  have kS : BlkV W6 S 56 [.slice none 0 0, .int .u64 0, .int .u64 0] := by rw [← eW6, ← eS]; exact BlkV.fresh w5 _ _ _ rfl _ rfl
  obtain ⟨kl, ekl⟩ : ∃ kl, K.length = kl := ⟨_, rfl⟩
  rw [ekl] at ho5 ⊢
  have s0 := kS.cell 0 _ rfl
  have s1 := kS.cell 1 _ rfl
  have s2 := kS.cell 2 _ rfl
  have t0 := kS.frozen 0
  have t1 := kS.frozen 1
  have t2 := kS.frozen 2
  have H5 := Lib.hid (And.intro kS (And.intro b6 (And.intro ho5 (And.intro hb5 (And.intro hK (And.intro eS ekl))))))
  clear kS b6 ho5 hb5 hK HWi y0 y1 y2
  go_upto_region 5 with fail
  have kS7 := H5.out.1.put3 (.slice a5 kl c5) (.int .u64 (now : Int)) (.int .u64 (next : Int))
  have b57 := below_put3 H5.out.2.1 S (by rw [← H5.out.2.2.2.2.2.1]; exact Nat.le_refl _) (.slice a5 kl c5) (.int .u64 (now : Int)) (.int .u64 (next : Int))
  clear s0 s1 s2 t0 t1 t2 eW6
  generalize World.setCell _ _ _ = w7 at kS7 b57 ⊢
  have b47 := H5.out.2.2.2.1.trans (b57.mono H5.out.2.2.2.1.size)
  have b07 := H4.out.2.1.trans (b47.mono H4.out.2.1.size)
  have kR7 := HK.out.2.1.on b07
  have y2 := kR7.cell 2 _ rfl
  have q2 := kS7.cell 2 _ rfl
  have p2 := kS7.frozen 2
  have H7 := Lib.hid (And.intro kS7 (And.intro b57 (And.intro b47 (And.intro b07 (HK.out.1.trans (b07.mono (by have := HRW.out; omega)))))))
  clear kS7 b57 b47 b07 kR7
  go_upto_region 6 with fail
  have kS8 := H7.out.1.set 2 (.int .u64 (n1 : Int))
  have hSs : w5.heap.size ≤ S := by rw [← H5.out.2.2.2.2.2.1]; exact Nat.le_refl _
  have hS4 : w4.heap.size ≤ S := Nat.le_trans H5.out.2.2.2.1.size hSs
  have hS0 : W0.heap.size ≤ S := Nat.le_trans H4.out.2.1.size hS4
  have b48 := H7.out.2.2.1.setCell (show w4.heap.size ≤ (⟨S, 2, none⟩ : Addr).block from hS4) (.int .u64 (n1 : Int))
  have b58 := H7.out.2.1.setCell (show w5.heap.size ≤ (⟨S, 2, none⟩ : Addr).block from hSs) (.int .u64 (n1 : Int))
  have b08 := H7.out.2.2.2.1.setCell (show W0.heap.size ≤ (⟨S, 2, none⟩ : Addr).block from hS0) (.int .u64 (n1 : Int))
  clear y2 q2 p2
  generalize World.setCell w7 ⟨S, 2, none⟩ _ = w8 at kS8 b48 b58 b08 ⊢
  have k0 := kS8.cell 0 _ rfl
  have k1 := kS8.cell 1 _ rfl
  have k2 := kS8.cell 2 _ rfl
  have kZ8 := HK.out.2.2.1.on b08
  have z0 := kZ8.cell 0 _ rfl
  have z1 := kZ8.cell 1 _ rfl
  have z2 := kZ8.cell 2 _ rfl
  have g0 := kZ8.frozen 0
  have g1 := kZ8.frozen 1
  have g2 := kZ8.frozen 2
  have H8 := Lib.hid (And.intro kZ8 (And.intro (HK.out.1.trans (b08.mono (by have := HRW.out; omega))) (And.intro (H5.out.2.2.1.on b58) (H4.out.1.on b48))))
  clear kS8 b48 b58 b08 kZ8 hSs hS4 hS0
  go_wp2_with fail
  have HF := H8.out.1.put3 (.slice a5 kl c5) (.int .u64 (now : Int)) (.int .u64 (n1 : Int))
  have hbF := below_put3 H8.out.2.1 (R + 1) (by omega) (.slice a5 kl c5) (.int .u64 (now : Int)) (.int .u64 (n1 : Int))
  have hfar := put3_far w8 (R + 1) (.slice a5 kl c5) (.int .u64 (now : Int)) (.int .u64 (n1 : Int))
  have o9 := OwnE.farR2 H8.out.2.2.1 H8.out.1 (by decide) hfar
  have m9 := OwnE.farR2 H8.out.2.2.2 H8.out.1 (by decide) hfar
  generalize World.setCell _ _ _ = W9 at HF hbF hfar o9 m9 ⊢
  refine bodyPost_ret (results_cR (p := 6) (T := 56) (by kernel_rfl) _ _ (R + 1) rfl HF Try.underlying56 rfl (by kernel_rfl)) rfl ?_
  obtain ⟨a9, c9, e9, j1, j2, j3, -⟩ := o9.sl
  injection e9 with e91 e92 e93
  subst e91
  subst e93
  refine ⟨a5, c5, K, by rw [H5.out.2.2.2.2.2.2], ⟨j2, fun m hm => ?_, j1, j3⟩, ?_, by first | exact hbF | (rw [eR]; exact hbF)⟩
  · rw [H5.out.2.2.2.2.1] at hm
    unfold withBM at hm
    have hS9 := HSw.out W9 hbF
    rcases List.mem_append.1 hm with hm | hm
    · rcases List.mem_append.1 hm with hm | hm
      · exact hS9.mls m ((List.mem_filter.1 hm).1)
      · by_cases hz : ml = []
        · rw [if_pos hz] at hm; cases hm
        · rw [if_neg hz] at hm
          rw [List.mem_singleton.1 hm]
          exact (OwnE.pm m9).1
    · exact hS9.mls m ((List.mem_filter.1 hm).1)
  · rw [H5.out.2.2.2.2.1, withBM_bxs, HML.out]
end Go.Proofs.Ytmmaimopombepaa
