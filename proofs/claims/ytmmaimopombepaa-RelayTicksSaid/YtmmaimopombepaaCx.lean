/- The reference 16's Tick. -/
import Derived.Test.YtmmaimopombepaaCu
namespace Go.Proofs.Ytmmaimopombepaa
open Go.RowKit
set_option maxRecDepth 100000

theorem OwnSB.farR {w w' : World} {base B : Nat} {v : Value} {K : List BxM} {vs : List Value} (h : OwnSB w base v K) (hB : BlkV w B 56 vs) (hk : ∀ k, k ≠ B → w'.heap[k]? = w.heap[k]?) : OwnSB w' base v K :=
  ⟨OwnE.farR2 h.row hB (by decide) hk, fun m hm => OwnE.farR2 (h.mls m hm) hB (by decide) hk⟩
def TkRel (w : World) (R : Nat) (L : List BxM) (nt next : Nat) (i : Value) (wr : World) : Prop :=
  ∃ (k : Nat) (K : List BxM) (v : Value) (W : World), W = wr ∧ i = .int .i64 (k : Int) ∧ k ≤ L.length ∧ Below R w wr ∧ BlkV wr (R + 1) 56 [.slice none 0 0, .int .u64 0, .int .u64 0] ∧ BlkV wr (R + 2) 56 [v, .int .u64 (nt : Int), .int .u64 (next : Int)] ∧ OwnSB wr (R + 3) v K ∧ bxs K = filtB (fun _ m => youngB nt m) ((bxs L).take k) ∧ K.length ≤ k ∧ R + 3 ≤ wr.heap.size
set_option maxHeartbeats 8000000 in
theorem tickRef_any (a : Option Addr) (c : Nat) (L : List BxM) (now next : Nat) (hf : FewB L) (t nt : Nat) (ent : now + t = nt) (hnt : nt < 4611686018427387904) (w : World) (h : SB w a c L) :
    Calls Try.prog 50 #[.agg #[.slice a L.length c, .int .u64 (now : Int), .int .u64 (next : Int)], .int .u64 (t : Int)] w fun e w' => ∃ (a' : Option Addr) (c' : Nat) (K : List BxM), e = .returned (.agg #[.slice a' K.length c', .int .u64 (nt : Int), .int .u64 (next : Int)]) ∧ SB w' a' c' K ∧ bxs K = filtB (fun _ m => youngB nt m) (bxs L) ∧ Below w.heap.size w w' := by
  obtain ⟨len, elen⟩ : ∃ len, L.length = len := ⟨_, rfl⟩
  have hsl := bxs_length L
  have q : (len : Int) ≤ 1000 := by have := hf.1; omega
  have entz : (now : Int) + (t : Int) = (nt : Int) := by omega
  have hwr : IntKind.u64.wrap (nt : Int) = (nt : Int) := by show (nt : Int) % 18446744073709551616 = _; omega
  obtain ⟨W0, eW0⟩ : ∃ W0, (w.alloc (.cells #[.slice a len c, .int .u64 (now : Int), .int .u64 (next : Int)] 56)).alloc (.cells #[.slice none 0 0, .int .u64 0, .int .u64 0] 56) = W0 := ⟨_, rfl⟩
  have b0 : Below w.heap.size w W0 := by rw [← eW0]; exact ((Below.refl _ w).alloc (Nat.le_refl _) _).alloc (by simp) _
  obtain ⟨R, eR⟩ : ∃ R, w.heap.size = R := ⟨_, rfl⟩
  have eS0 : W0.heap.size = R + 2 := by rw [← eW0, ← eR]; simp
  have kR : BlkV W0 R 56 [.slice a len c, .int .u64 (now : Int), .int .u64 (next : Int)] := by rw [← eW0, ← eR]; exact (BlkV.fresh w _ _ _ rfl _ rfl).alloc _
  have kZ : BlkV W0 (R + 1) 56 [.slice none 0 0, .int .u64 0, .int .u64 0] := by rw [← eW0, ← eR]; exact BlkV.fresh _ _ _ _ rfl _ (by simp)
  have d1 := kR.cell 1 _ rfl
  have d2 := kR.cell 2 _ rfl
  obtain ⟨W1, eW1⟩ : ∃ W1, W0.alloc (.cells #[.slice none 0 0, .int .u64 0, .int .u64 0] 56) = W1 := ⟨_, rfl⟩
  have b1 : Below W0.heap.size W0 W1 := by rw [← eW1]; exact (Below.refl _ W0).alloc (Nat.le_refl _) _
  have kS : BlkV W1 (R + 2) 56 [.slice none 0 0, .int .u64 0, .int .u64 0] := by rw [← eW1]; exact BlkV.fresh W0 _ _ _ rfl _ eS0.symm
  have s0 := kS.cell 0 _ rfl
  have s1 := kS.cell 1 _ rfl
  have s2 := kS.cell 2 _ rfl
  have t0 := kS.frozen 0
  have t1 := kS.frozen 1
  have t2 := kS.frozen 2
  have HB0 := Lib.hid (And.intro (show Below R w W0 by rw [← eR]; exact b0) (And.intro kR (And.intro kZ (And.intro b1 kS))))
  have HSw := Lib.hid (show ∀ V, Below R w V → SB V a c L from fun V hV => h.on (by rw [eR]; exact hV))
  have HF := Lib.hid (And.intro hf hsl)
  rw [elen]
  clear b0 kR kZ b1 kS h hf hsl ent
  go_enter Try.func50, Try.ntmps50
  go_upto_region 3 with fail
  clear eW0 d1 d2
  have k2 := HB0.out.2.2.2.2.put3 (.slice none 0 0) (.int .u64 (nt : Int)) (.int .u64 (next : Int))
  have b02 := below_put3 HB0.out.2.2.2.1 (R + 2) (by omega) (.slice none 0 0) (.int .u64 (nt : Int)) (.int .u64 (next : Int))
  clear s0 s1 s2 t0 t1 t2 eW1
  generalize World.setCell _ _ _ = w2 at k2 b02 ⊢
  have kR2 := HB0.out.2.1.on b02
  have d0 := kR2.cell 0 _ rfl
  have H2 := Lib.hid (And.intro (HB0.out.1.trans (b02.mono (by omega))) (And.intro (HB0.out.2.2.1.on b02) (And.intro k2 k2.lt)))
  clear k2 b02 kR2 HB0
  go_wp2_with fail
  go_loopw [23] (TkRel w R L nt next) (fun i _ => len - (Lib.intOf i).toNat)
  case atStart => exact ⟨0, [], _, _, rfl, rfl, Nat.zero_le _, H2.out.1, H2.out.2.1, H2.out.2.2.1, ⟨OwnE.nil _ _ _ _, fun m hm => by cases hm⟩, rfl, Nat.zero_le _, H2.out.2.2.2⟩
  case round =>
    clear d0 H2
    obtain ⟨k, K, v, wr, rfl, rfl, h1, hbw, hz, hO, hOw, hbx, hKl, hsz⟩ := hrel
    by_cases hk : k < len
    · have hkz : (k : Int) < (len : Int) := by omega
      have hkL : k < L.length := by omega
      have hSr := HSw.out _ hbw
      obtain ⟨b, off, eb, hlt, hall⟩ := hSr.get k hkL
      obtain ⟨c0, c1⟩ := hall k hkL
      have hks : k < (bxs L).length := by rw [HF.out.2]; exact hkL
      have hst := filtB_step (fun _ m => youngB nt m) (bxs L) k hks
      rw [bxs_get L k hkL] at hst
      have hpm := hSr.mls _ (List.getElem_mem hkL)
      have hfl := HF.out.1.2 _ (List.getElem_mem hkL)
      obtain ⟨x, ex⟩ : ∃ x, L[k] = x := ⟨_, rfl⟩
      rw [ex] at c0 c1 hst hpm hfl
      obtain ⟨W3, eW3⟩ : ∃ W3, wr.alloc (.cells #[.int .u64 (x.s.user : Int), .slice x.a x.s.ml.length x.c] 101) = W3 := ⟨_, rfl⟩
      have b3 : Below wr.heap.size wr W3 := by rw [← eW3]; exact (Below.refl _ wr).alloc (Nat.le_refl _) _
      obtain ⟨S, eS⟩ : ∃ S, wr.heap.size = S := ⟨_, rfl⟩
      have kB : BlkV W3 S 101 [.int .u64 (x.s.user : Int), .slice x.a x.s.ml.length x.c] := by rw [← eW3, ← eS]; exact BlkV.fresh wr _ _ _ rfl _ rfl
      have bE : Below W3.heap.size W3 (W3.alloc (.cells #[] 82)) := (Below.refl _ W3).alloc (Nat.le_refl _) _
      have oE : OwnE eMl 82 (W3.alloc (.cells #[] 82)) W3.heap.size (.slice (some ⟨W3.heap.size, 0, none⟩) 0 0) [] := OwnE.empty _ _ _ _ (Nat.le_refl _)
      have q1 := (kB.on bE).cell 1 _ rfl
      have hml : (x.s.ml.length : Int) ≤ 1000 := by omega
      have HE := Lib.hid (And.intro bE oE)
      have HX := Lib.hid (And.intro (hbw.trans (b3.mono (by omega))) (And.intro (hz.on b3) (And.intro (hO.on b3) (And.intro (hOw.on b3) (And.intro kB (And.intro (hpm.on b3) (And.intro hst (And.intro hbx (And.intro hKl (show R + 3 ≤ W3.heap.size from Nat.le_trans hsz b3.size))))))))))
      rw [eb]
      clear hbw hz hO hOw hbx hKl hsz hSr hall hst hpm hfl ex b3 kB bE oE
      go_upto_region 6 with fail
      clear eW3 c0 c1
      go_wp2_with fail
      go_loopw [9, 31] (FiRel W3 x.s.ml (youngB nt)) (fun _ i _ => x.s.ml.length - (Lib.intOf i).toNat)
      case atStart => exact ⟨0, _, rfl, rfl, Nat.zero_le _, HE.out.1, HE.out.2⟩
      case round =>
        clear q1 HE
        obtain ⟨j, ws, rfl, rfl, g1, g2, g3⟩ := hrel
        by_cases hj : j < x.s.ml.length
        · have hjz : (j : Int) < (x.s.ml.length : Int) := by omega
          obtain ⟨bb, boff, hba, hblt, hball⟩ := (HX.out.2.2.2.2.2.1.on g2).get j hj
          obtain ⟨m0, m1, m2⟩ := hball j hj
          have hfs := filter_step (youngB nt) x.s.ml j hj
          have hle := filter_le (youngB nt) x.s.ml j
          obtain ⟨m, em⟩ : ∃ m, x.s.ml[j] = m := ⟨_, rfl⟩
          rw [em] at m0 m1 m2 hfs
          obtain ⟨W5, eW5⟩ : ∃ W5, ws.alloc (.cells #[.int .u64 (m.id : Int), .string m.b, .int .u64 (m.born : Int)] 82) = W5 := ⟨_, rfl⟩
          have b5 : Below ws.heap.size ws W5 := by rw [← eW5]; exact (Below.refl _ ws).alloc (Nat.le_refl _) _
          obtain ⟨S2, eS2⟩ : ∃ S2, ws.heap.size = S2 := ⟨_, rfl⟩
          have kM : BlkV W5 S2 82 [.int .u64 (m.id : Int), .string m.b, .int .u64 (m.born : Int)] := by rw [← eW5, ← eS2]; exact BlkV.fresh ws _ _ _ rfl _ rfl
          have n0 := kM.cell 0 _ rfl
          have n1 := kM.cell 1 _ rfl
          have n2 := kM.cell 2 _ rfl
          have HY := Lib.hid (And.intro (g2.trans (b5.mono g2.size)) (And.intro (g3.on b5) (And.intro hfs hle)))
          rw [hba]
          clear g2 g3 hfs b5 kM hball em hle
          go_upto_region 10 with fail
          clear eW5 m0 m1 m2
          obtain ⟨z, ez⟩ : ∃ z, IntKind.u64.wrap ((nt : Int) - (m.born : Int)) = z := ⟨_, rfl⟩
          have hyz : youngB nt m = decide (z ≤ 50) := by unfold youngB; rw [ez]
          by_cases hd : z ≤ 50
          · have HD := Lib.hid (hyz.trans (decide_eq_true hd))
            have HQ := Lib.hid (one_ml W5 m W5.heap.size rfl)
            clear hyz
            go_wp2_with (at_builtin; refine append_E eMl 65 82 _ 32 Try.underlying65 infoMl rfl rfl _ _ rfl W3.heap.size _ _ _ _ _ [m] rfl rfl rfl (HY.out.2.1.alloc _) HQ.out (fun e => by cases e) (by have := HY.out.2.2.2; unfold maxLen; simp only [List.length_singleton]; omega) (by have := HY.out.2.2.2; simp only [List.length_singleton]; omega) (by have := HY.out.1.size; simp; omega) ?_; intro v' w3 ho3 hg3; have HO3 := Lib.hid ho3; have HG3 := Lib.hid (OwnE.below (HY.out.2.1.alloc _) (HY.out.1.alloc HY.out.1.size _) (by have := HY.out.1.size; simp; omega) hg3); clear ho3 hg3)
            exact ⟨⟨j + 1, _, rfl, by go_num, by omega, HG3.out, by rw [HY.out.2.2.1, if_pos HD.out]; exact HO3.out⟩, by simp [Lib.intOf]; omega⟩
          · have HD := Lib.hid (hyz.trans (decide_eq_false hd))
            clear hyz
            go_wp2_with fail
            exact ⟨⟨j + 1, _, rfl, by go_num, by omega, HY.out.1, by rw [HY.out.2.2.1, if_neg (by rw [HD.out]; decide), List.append_nil]; exact HY.out.2.1⟩, by simp [Lib.intOf]; omega⟩
        · have hjz : ¬ (j : Int) < (x.s.ml.length : Int) := by omega
          obtain rfl : j = x.s.ml.length := by omega
          rw [List.take_length] at g3
          obtain ⟨F, eF⟩ : ∃ F, x.s.ml.filter (youngB nt) = F := ⟨_, rfl⟩
          rw [eF] at g3
          have hFl : F.length ≤ x.s.ml.length := by rw [← eF]; exact List.length_filter_le _ _
          obtain ⟨fa, fc, rfl, f1, f2, f3, -⟩ := g3.sl
          have kSs := HX.out.2.2.2.2.1.on g2
          have d0 := kSs.cell 0 _ rfl
          obtain ⟨lF, elF⟩ : ∃ lF, F.length = lF := ⟨_, rfl⟩
          have hFz : (lF : Int) ≤ 1000 := by omega
          have hkO := HX.out.2.2.1.on g2
          have HZ := Lib.hid (And.intro (HX.out.1.trans (g2.mono (by have := HX.out.2.2.2.2.2.2.2.2.2; omega))) (And.intro (HX.out.2.1.on g2) (And.intro hkO (And.intro (HX.out.2.2.2.1.on g2) (And.intro (Nat.le_trans HX.out.2.2.2.2.2.2.2.2.2 g2.size) (And.intro g3 eF))))))
          rw [elF]
          have o0 := hkO.cell 0 _ rfl
          clear g2 g3 eF f1 f2 f3 kSs hkO
          by_cases hF0 : F = []
          · have HH := Lib.hid (show filtB (fun _ m => youngB nt m) ((bxs L).take (k + 1)) = filtB (fun _ m => youngB nt m) ((bxs L).take k) by rw [HX.out.2.2.2.2.2.2.1]; unfold keepB; rw [show x.s.ml.filter ((fun (_ : Nat) m => youngB nt m) x.s.user) = F from HZ.out.2.2.2.2.2.2, hF0, if_pos rfl, List.append_nil])
            have hl0 : lF = 0 := by rw [← elF, hF0]; rfl
            clear hF0 elF
            subst hl0
            go_wp2_with fail
            exact ⟨⟨k + 1, K, v, _, rfl, by go_num, by omega, HZ.out.1, HZ.out.2.1, HZ.out.2.2.1, HZ.out.2.2.2.1, by rw [HH.out]; exact HX.out.2.2.2.2.2.2.2.1, by have := HX.out.2.2.2.2.2.2.2.2.1; omega, HZ.out.2.2.2.2.1⟩, by simp [Lib.intOf]; omega⟩
          · have hFp : (lF : Int) > 0 := by have := List.length_pos_iff.2 hF0; omega
            have HH := Lib.hid (show filtB (fun _ m => youngB nt m) ((bxs L).take (k + 1)) = filtB (fun _ m => youngB nt m) ((bxs L).take k) ++ [⟨x.s.user, F⟩] by rw [HX.out.2.2.2.2.2.2.1]; unfold keepB; rw [show x.s.ml.filter ((fun (_ : Nat) m => youngB nt m) x.s.user) = F from HZ.out.2.2.2.2.2.2, if_neg hF0])
            have HKL := Lib.hid (show K.length ≤ 1000 by have := HX.out.2.2.2.2.2.2.2.2.1; omega)
            have hqq := one_bx ws ⟨⟨x.s.user, F⟩, fa, fc⟩ ws.heap.size rfl
            simp only [elF] at hqq
            have HQ := Lib.hid hqq
            clear hF0 hqq
            go_wp2_with (at_builtin; refine append_E eBx 54 101 _ 32 Try.underlying54 infoBx rfl rfl _ _ rfl (R + 3) _ _ _ _ _ [⟨⟨x.s.user, F⟩, fa, fc⟩] rfl rfl rfl (HZ.out.2.2.2.1.row.alloc _) HQ.out (fun e => by cases e) (by have := HKL.out; unfold maxLen; simp only [List.length_singleton]; omega) (by have := HKL.out; simp only [List.length_singleton]; omega) (by have := HZ.out.2.2.2.2.1; simp; omega) ?_; intro v' w3 ho3 hg3; have hbl : Below R w w3 := OwnE.belowN (HZ.out.2.2.2.1.row.alloc _) (HZ.out.1.alloc (by have := HZ.out.2.2.2.2.1; omega) _) (by omega) (by have := HZ.out.2.2.2.2.1; simp; omega) hg3; have kO3 : BlkV w3 (R + 2) 56 [v, .int .u64 (nt : Int), .int .u64 (next : Int)] := OwnE.keeps (HZ.out.2.2.2.1.row.alloc _) hg3 (R + 2) _ _ _ (HZ.out.2.2.1.alloc _) (by decide); have kZ3 : BlkV w3 (R + 1) 56 [.slice none 0 0, .int .u64 0, .int .u64 0] := OwnE.keeps (HZ.out.2.2.2.1.row.alloc _) hg3 (R + 1) _ _ _ (HZ.out.2.1.alloc _) (by decide); have hml3 : ∀ m, MlOwn ws (R + 3) m → MlOwn w3 (R + 3) m := fun m hm => (hm.on ((Below.refl _ ws).alloc (Nat.le_refl _) _)).kept (HZ.out.2.2.2.1.row.alloc _) hg3; obtain ⟨av, cv, rfl, -⟩ := OwnE.sl ho3; have p0 := kO3.cell 0 _ rfl; have p1 := kO3.frozen 0; have HP := Lib.hid (And.intro hbl (And.intro kO3 (And.intro kZ3 (And.intro hml3 (And.intro ho3 kO3.lt))))); obtain ⟨kl, ekl⟩ : ∃ kl, (K ++ [(⟨⟨x.s.user, F⟩, fa, fc⟩ : BxM)]).length = kl := ⟨_, rfl⟩; rw [ekl]; clear ho3 hg3 hbl kO3 kZ3 hml3)
            have ow : OwnSB w3 (R + 3) (.slice av (K ++ [(⟨⟨x.s.user, F⟩, fa, fc⟩ : BxM)]).length cv) (K ++ [⟨⟨x.s.user, F⟩, fa, fc⟩]) := by
              refine ⟨HP.out.2.2.2.2.1, fun m hm => ?_⟩
              rcases List.mem_append.1 hm with hm | hm
              · exact HP.out.2.2.2.1 m (HZ.out.2.2.2.1.mls m hm)
              · rw [List.mem_singleton.1 hm]
                exact HP.out.2.2.2.1 _ (MlOwn.mono (n := W3.heap.size) HZ.out.2.2.2.2.2.1 HX.out.2.2.2.2.2.2.2.2.2)
            rw [ekl] at ow
            have ow2 := ow.farR HP.out.2.1 (fun k hk => heap_setCell_other w3 ⟨R + 2, 0, none⟩ k (.slice av kl cv) hk)
            refine ⟨⟨k + 1, K ++ [⟨⟨x.s.user, F⟩, fa, fc⟩], .slice av kl cv, _, rfl, by go_num, by omega, HP.out.1.setCell (by show R ≤ R + 2; omega) _, HP.out.2.2.1.far _ (by show R + 1 ≠ R + 2; omega) _, HP.out.2.1.set 0 _, ow2, ?_, by rw [List.length_append]; have := HX.out.2.2.2.2.2.2.2.2.1; simp; omega, by rw [World.size_setCell]; exact HP.out.2.2.2.2.2⟩, by simp [Lib.intOf]; omega⟩
            rw [bxs_append, HX.out.2.2.2.2.2.2.2.1, HH.out]
            rfl
    · have hkz : ¬ (k : Int) < (len : Int) := by omega
      have hkn : k = (bxs L).length := by rw [HF.out.2]; omega
      rw [hkn, List.take_length] at hbx
      obtain ⟨av, cv, rfl, -⟩ := hOw.row.sl
      obtain ⟨kl, ekl⟩ : ∃ kl, K.length = kl := ⟨_, rfl⟩
      rw [ekl] at hO hOw
      have o0 := hO.cell 0 _ rfl
      have o1 := hO.cell 1 _ rfl
      have o2 := hO.cell 2 _ rfl
      have z0 := hz.cell 0 _ rfl
      have z1 := hz.cell 1 _ rfl
      have z2 := hz.cell 2 _ rfl
      have g0 := hz.frozen 0
      have g1 := hz.frozen 1
      have g2 := hz.frozen 2
      have HZ := Lib.hid (And.intro hz (And.intro hbw (And.intro hOw hbx)))
      clear hz hbw hOw hbx hO hsz hKl
      go_wp2_with fail
      have HF9 := HZ.out.1.put3 (.slice av kl cv) (.int .u64 (nt : Int)) (.int .u64 (next : Int))
      have hbF := below_put3 HZ.out.2.1 (R + 1) (by omega) (.slice av kl cv) (.int .u64 (nt : Int)) (.int .u64 (next : Int))
      have hfar := put3_far wr (R + 1) (.slice av kl cv) (.int .u64 (nt : Int)) (.int .u64 (next : Int))
      have o9 := HZ.out.2.2.1.farR HZ.out.1 hfar
      generalize World.setCell _ _ _ = W9 at HF9 hbF hfar o9 ⊢
      refine bodyPost_ret (results_cR (p := 4) (T := 56) (by kernel_rfl) _ _ (R + 1) rfl HF9 Try.underlying56 rfl (by kernel_rfl)) rfl ?_
      obtain ⟨a9, c9, e9, j1, -⟩ := o9.sb
      injection e9 with e91 e92 e93
      subst e91
      subst e93
      exact ⟨av, cv, K, by rw [ekl], j1, HZ.out.2.2.2, by first | exact hbF | (rw [eR]; exact hbF)⟩
end Go.Proofs.Ytmmaimopombepaa
