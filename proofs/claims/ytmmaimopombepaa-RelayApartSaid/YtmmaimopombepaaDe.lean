/- Law 16: RelayApart. -/
import Derived.Test.YtmmaimopombepaaDd
namespace Go.Proofs.Ytmmaimopombepaa
open Go.RowKit
set_option maxRecDepth 100000

set_option maxHeartbeats 16000000 in
theorem apartLaw_any (a : Option Addr) (c : Nat) (L : List BxM) (now next : Nat) (hn : now < 18446744073709551616) (hl : L.length ≤ maxLen) (hp : ∀ m ∈ L, m.s.ml.length ≤ maxLen) (u v : Nat) (b : ByteArray) (w : World) (h : SB w a c L) :
    Calls Try.prog 12 #[.agg #[.slice a L.length c, .int .u64 (now : Int), .int .u64 (next : Int)], .int .u64 (u : Int), .int .u64 (v : Int), .string b] w fun e w' => e = .returned (.bool true) ∧ Below w.heap.size w w' := by
  obtain ⟨W0, eW0⟩ : ∃ W0, w.alloc (.cells #[.slice a L.length c, .int .u64 (now : Int), .int .u64 (next : Int)] 56) = W0 := ⟨_, rfl⟩
  have b0 : Below w.heap.size w W0 := by rw [← eW0]; exact (Below.refl _ w).alloc (Nat.le_refl _) _
  obtain ⟨R, eR⟩ : ∃ R, w.heap.size = R := ⟨_, rfl⟩
  have kR : BlkV W0 R 56 [.slice a L.length c, .int .u64 (now : Int), .int .u64 (next : Int)] := by rw [← eW0, ← eR]; exact BlkV.fresh w _ _ _ rfl _ rfl
  have d0 := kR.cell 0 _ rfl
  have d1 := kR.cell 1 _ rfl
  have d2 := kR.cell 2 _ rfl
  have HF := Lib.hid (fewR_any a c L now next hl hp W0 (h.on b0))
  have HSw := Lib.hid (show ∀ V, Below R w V → ∀ (a1 : Option Addr) (c1 b : Nat), OwnE eBx 101 V b (.slice a1 (fewBs L).length c1) (fewBs L) → SB V a1 c1 (fewBs L) from fun V hV a1 c1 b ho => few_at h (by rw [eR]; exact hV) ho)
  have HK := Lib.hid (And.intro (show Below R w W0 by rw [← eR]; exact b0) kR)
  have HRW := Lib.hid (show R ≤ W0.heap.size by rw [← eR]; exact b0.size)
  have hMf := fewBs_few L
  have hM9 : (fewBs L).length ≤ 999 := by rw [fewBs_length]; omega
  have hM18 := fewBs_18' L u
  obtain ⟨M, eM⟩ : ∃ M, fewBs L = M := ⟨_, rfl⟩
  rw [eM] at hMf hM9 hM18
  simp only [eM] at HF HSw
  clear b0 kR h hl hp eM
  go_enter Try.func12, Try.ntmps12
  go_upto_region 1 with fail
  clear eW0
  go_wp2_with fail
  refine HF.out.mono ?_
  rintro e w1 ⟨a1, c1, rfl, -, ho1, hb1⟩
  have k1 := HK.out.2.on hb1
  have x0 := k1.cell 0 _ rfl
  have x1 := k1.cell 1 _ rfl
  have x2 := k1.cell 2 _ rfl
  have f0 := k1.frozen 0
  have f1 := k1.frozen 1
  have f2 := k1.frozen 2
  have H1 := Lib.hid (And.intro k1 (And.intro ho1 (HK.out.1.trans (hb1.mono HRW.out))))
  have HMF := Lib.hid hMf
  have HM9 := Lib.hid (And.intro hM9 hM18)
  clear k1 ho1 hb1 HF d0 d1 d2 hMf hM9 hM18
  go_upto_region 2 with fail
  have k2 := H1.out.1.put3 (.slice a1 M.length c1) (.int .u64 (now : Int)) (.int .u64 (next : Int))
  have hb2 := below_put3 H1.out.2.2 R (Nat.le_refl _) (.slice a1 M.length c1) (.int .u64 (now : Int)) (.int .u64 (next : Int))
  have ho2 := OwnE.farR2 H1.out.2.1 H1.out.1 (by decide) (put3_far w1 R (.slice a1 M.length c1) (.int .u64 (now : Int)) (.int .u64 (next : Int)))
  generalize World.setCell _ _ _ = w2 at k2 hb2 ho2 ⊢
  have hS2 := HSw.out w2 hb2 a1 c1 _ ho2
  have y0 := k2.cell 0 _ rfl
  have y1 := k2.cell 1 _ rfl
  have y2 := k2.cell 2 _ rfl
  have HT := Lib.hid (push_any a1 c1 M now next hn HMF.out u b w2 hS2)
  have hRs := k2.lt
  have H2 := Lib.hid (And.intro k2 (And.intro hS2 hb2))
  clear k2 hb2 ho2 hS2 x0 x1 x2 f0 f1 f2 H1
  obtain ⟨rr, err⟩ : ∃ rr : Rl, (⟨bxs M, now, next⟩ : Rl) = rr := ⟨_, rfl⟩
  simp only [err] at HT
  go_wp2_with fail
  refine HT.out.mono ?_
  rintro e w4 ⟨a4, c4, K, rfl, hS4, hK4, hb4⟩
  obtain ⟨Q, eQ⟩ : ∃ Q, pushQ rr u b = Q := ⟨_, rfl⟩
  obtain ⟨E, eE⟩ : ∃ E, pushE rr u b = E := ⟨_, rfl⟩
  rw [eQ] at hK4
  rw [eQ, eE]
  obtain ⟨W5, eW5⟩ : ∃ W5, w4.alloc (.cells #[.slice none 0 0, .int .u64 0, .int .u64 0] 56) = W5 := ⟨_, rfl⟩
  have b5 : Below w4.heap.size w4 W5 := by rw [← eW5]; exact (Below.refl _ w4).alloc (Nat.le_refl _) _
  obtain ⟨S, eS⟩ : ∃ S, w4.heap.size = S := ⟨_, rfl⟩
  have kS : BlkV W5 S 56 [.slice none 0 0, .int .u64 0, .int .u64 0] := by rw [← eW5, ← eS]; exact BlkV.fresh w4 _ _ _ rfl _ rfl
  have s0 := kS.cell 0 _ rfl
  have s1 := kS.cell 1 _ rfl
  have s2 := kS.cell 2 _ rfl
  have t0 := kS.frozen 0
  have t1 := kS.frozen 1
  have t2 := kS.frozen 2
  have H4 := Lib.hid (And.intro kS (And.intro b5 (And.intro hS4 (And.intro hK4 (And.intro hb4 (And.intro eQ (And.intro eE eS)))))))
  clear kS b5 hS4 hK4 hb4 eQ eE HT y0 y1 y2
  go_upto_region 3 with fail
  have kS6 := H4.out.1.put3 (.slice a4 K.length c4) (.int .u64 (Q.now : Int)) (.int .u64 (Q.next : Int))
  have b46 := below_put3 H4.out.2.1 S (by rw [← H4.out.2.2.2.2.2.2.2]; exact Nat.le_refl _) (.slice a4 K.length c4) (.int .u64 (Q.now : Int)) (.int .u64 (Q.next : Int))
  clear s0 s1 s2 t0 t1 t2 eW5
  generalize World.setCell _ _ _ = w6 at kS6 b46 ⊢
  have b26 := H4.out.2.2.2.2.1.trans (b46.mono H4.out.2.2.2.2.1.size)
  have HAl := Lib.hid (fun W => aliveR_any W)
  have H6 := Lib.hid (And.intro kS6 (And.intro (H2.out.1.on b26) (And.intro (H2.out.2.1.on b26) (And.intro (H2.out.2.2.trans (b26.mono (Nat.le_of_lt hRs))) (H4.out.2.2.1.on b46)))))
  clear kS6 b46 b26
  have hQ : Q = if E = 0 then pushR rr u b else ⟨[], 0, 0⟩ := by
    rw [← H4.out.2.2.2.2.2.1, ← H4.out.2.2.2.2.2.2.1]; rfl
  by_cases hE : E = 0
  case neg =>
    rw [if_neg hE] at hQ
    subst hQ
    have hK0 : K = [] := bxs_nil H4.out.2.2.2.1
    subst hK0
    have hq : (E != 0) = true := by simpa using hE
    go_wp2_with fail
    refine (HAl.out _).mono ?_
    rintro e w8 ⟨rfl, hb8⟩
    have kS8 := H6.out.1.on hb8
    have s0 := kS8.cell 0 _ rfl
    have s1 := kS8.cell 1 _ rfl
    have s2 := kS8.cell 2 _ rfl
    have hbw := H6.out.2.2.2.1.trans (hb8.mono (by have := H6.out.2.2.2.1.size; omega))
    have hsm := sameRl_any a4 none c4 0 [] [] 0 0 0 0 ⟨by simp, fun m hm => by cases hm⟩ w8 ⟨Sl.nil _ _ _, fun m hm => (by cases hm), Nat.zero_le _, fun e => ⟨(H4.out.2.2.1.nil e).1, rfl⟩⟩ (SB.empty w8)
    rw [decide_eq_true rfl] at hsm
    have HSM := Lib.hid hsm
    have HBW := Lib.hid hbw
    clear hb8 kS8 hbw hsm HAl
    go_wp2_with (go_at_call 39; refine HSM.out.mono ?_; rintro e w9 ⟨rfl, hb9⟩)
    go_ret
    have hbb := HBW.out.trans (hb9.mono (by have := HBW.out.size; omega))
    exact ⟨rfl, by first | exact hbb | (rw [eR]; exact hbb)⟩
  rw [if_pos hE] at hQ
  have hap := apart_of (H4.out.2.2.2.2.2.2.1.trans hE)
  obtain ⟨n1, en1⟩ : ∃ n1, next + 1 = n1 := ⟨_, rfl⟩
  have hbx : rr.bx = bxs M := by rw [← err]
  have hnw : rr.now = now := by rw [← err]
  have hnx : rr.next = next := by rw [← err]
  obtain ⟨P, eP⟩ : ∃ P, pushR rr u b = P := ⟨_, rfl⟩
  have hP : P = ⟨withB (bxs M) u (mailsR (bxs M) u ++ [⟨next, b, now⟩]), now, n1⟩ := by
    rw [← eP, ← en1]; unfold pushR; rw [hbx, hnw, hnx]
  rw [eP, hbx, hnw, hnx, en1] at hap
  rw [eP, hP] at hQ
  subst hE
  subst hQ
  have hKb := H4.out.2.2.2.1
  have hPK : (⟨bxs K, now, n1⟩ : Rl) = P := by rw [hP, hKb]
  have hFK : FewB K := few_withB HMF.out HM9.out.1 (show (mailsR (bxs M) u ++ [(⟨next, b, now⟩ : Ml)]).length ≤ 1000 by rw [List.length_append]; have := HM9.out.2; simp; omega) hKb
  have hn62 : n1 < 4611686018427387904 := hap.2.2.1.2.2.1
  have en1z : (next : Int) + 1 = (n1 : Int) := by omega
  have hwr : IntKind.u64.wrap (n1 : Int) = (n1 : Int) := by show (n1 : Int) % 18446744073709551616 = _; omega
  have hA := ack_any a4 c4 K now n1 hn hFK u next w6 H6.out.2.2.2.2
  have haq : ackQ P u next = ⟨bxs M, now, n1⟩ := by unfold ackQ; rw [if_pos hap.2.2.2.1]; exact hap.2.2.2.2.1
  simp only [hPK, haq, hap.2.2.2.1] at hA
  have HA := Lib.hid hA
  have HAP := Lib.hid (And.intro hap (And.intro hPK hFK))
  have HERR := Lib.hid err
  have y0 := (H6.out.2.1).cell 0 _ rfl
  have y1 := (H6.out.2.1).cell 1 _ rfl
  have y2 := (H6.out.2.1).cell 2 _ rfl
  have s0 := (H6.out.1).cell 0 _ rfl
  have s1 := (H6.out.1).cell 1 _ rfl
  have s2 := (H6.out.1).cell 2 _ rfl
  clear hA haq hPK hFK hP hbx hnw hnx hKb hap eP en1 hn62 err
  go_wp2_with fail
  refine HA.out.mono ?_
  rintro e w7 ⟨a5, c5, K5, rfl, hS5, hK5, hb7⟩
  have hlK : K5.length = M.length := by rw [← bxs_length, hK5, bxs_length]
  obtain ⟨W8, eW8⟩ : ∃ W8, w7.alloc (.cells #[.slice none 0 0, .int .u64 0, .int .u64 0] 56) = W8 := ⟨_, rfl⟩
  have b8 : Below w7.heap.size w7 W8 := by rw [← eW8]; exact (Below.refl _ w7).alloc (Nat.le_refl _) _
  obtain ⟨V, eV⟩ : ∃ V, w7.heap.size = V := ⟨_, rfl⟩
  have kV : BlkV W8 V 56 [.slice none 0 0, .int .u64 0, .int .u64 0] := by rw [← eW8, ← eV]; exact BlkV.fresh w7 _ _ _ rfl _ rfl
  have p0 := kV.cell 0 _ rfl
  have p1 := kV.cell 1 _ rfl
  have p2 := kV.cell 2 _ rfl
  have t0 := kV.frozen 0
  have t1 := kV.frozen 1
  have t2 := kV.frozen 2
  have H7 := Lib.hid (And.intro kV (And.intro b8 (And.intro hS5 (And.intro hK5 (And.intro hb7 eV)))))
  rw [hlK]
  have HLK := Lib.hid hlK
  clear kV b8 hS5 hK5 hb7 HA y0 y1 y2 s0 s1 s2 hlK
  go_upto_region 6 with fail
  have kV9 := H7.out.1.put3 (.slice a5 M.length c5) (.int .u64 (now : Int)) (.int .u64 (n1 : Int))
  have b79 := below_put3 H7.out.2.1 V (by rw [← H7.out.2.2.2.2.2]; exact Nat.le_refl _) (.slice a5 M.length c5) (.int .u64 (now : Int)) (.int .u64 (n1 : Int))
  clear p0 p1 p2 t0 t1 t2 eW8
  generalize World.setCell _ _ _ = w9 at kV9 b79 ⊢
  have b69 := H7.out.2.2.2.2.1.trans (b79.mono H7.out.2.2.2.2.1.size)
  have H9 := Lib.hid (And.intro kV9 (And.intro (H6.out.1.on b69) (And.intro (H6.out.2.1.on b69) (And.intro (H6.out.2.2.1.on b69) (And.intro (H6.out.2.2.2.2.on b69) (And.intro (H7.out.2.2.1.on b79) (H6.out.2.2.2.1.trans (b69.mono (by have := H6.out.2.2.2.1.size; omega)))))))))
  clear kV9 b79 b69
  -- the three pulls
  obtain ⟨l, el⟩ : ∃ l, (mailsR (bxs M) v).take 5 = l := ⟨_, rfl⟩
  obtain ⟨ll, ell⟩ : ∃ ll, l.length = ll := ⟨_, rfl⟩
  have hll : l.length ≤ 5 := by rw [← el, List.length_take]; omega
  obtain ⟨ev, eev⟩ : ∃ ev : Int, (if mailsR (bxs M) v = [] then (5 : Int) else 0) = ev := ⟨_, rfl⟩
  have hk1 : pullK rr v = l := by rw [← el, ← HERR.out]; exact if_neg (fun g => g (by rw [HERR.out]; exact HAP.out.1.1))
  have he1 : pullE rr v = ev := by rw [← eev, ← HERR.out]; exact if_neg (fun g => g (by rw [HERR.out]; exact HAP.out.1.1))
  have hk3 : pullK ⟨bxs M, now, n1⟩ v = l := by rw [← el]; exact if_neg (fun g => g HAP.out.1.2.2.1)
  have he3 : pullE ⟨bxs M, now, n1⟩ v = ev := by rw [← eev]; exact if_neg (fun g => g HAP.out.1.2.2.1)
  have hp1 := fun W (hW : SB W a1 c1 M) => pull_any a1 c1 M now next hn HMF.out v W hW
  simp only [HERR.out, hk1, he1, ell] at hp1
  have HP1 := Lib.hid hp1
  have hp3 := fun W (hW : SB W a5 c5 K5) => pull_any a5 c5 K5 now n1 hn (show FewB K5 by
    refine ⟨by rw [HLK.out]; exact HMF.out.1, fun m hm => ?_⟩
    have h1 : m.s ∈ bxs K5 := List.mem_map_of_mem hm
    rw [H7.out.2.2.2.1] at h1
    obtain ⟨y, hy, e⟩ := List.mem_map.1 h1
    rw [← e]; exact HMF.out.2 y hy) v W hW
  simp only [H7.out.2.2.2.1, HLK.out, hk3, he3, ell] at hp3
  have HP3 := Lib.hid hp3
  have hp2 := fun W (hW : SB W a4 c4 K) => pull_any a4 c4 K now n1 hn HAP.out.2.2 v W hW
  simp only [HAP.out.2.1] at hp2
  obtain ⟨l2, el2⟩ : ∃ l2, pullK P v = l2 := ⟨_, rfl⟩
  obtain ⟨ll2, ell2⟩ : ∃ ll2, l2.length = ll2 := ⟨_, rfl⟩
  obtain ⟨e2, ee2⟩ : ∃ e2, pullE P v = e2 := ⟨_, rfl⟩
  simp only [el2, ell2, ee2] at hp2
  have HP2 := Lib.hid hp2
  have hcase : (u = v ∧ e2 = 0) ∨ (u ≠ v ∧ e2 = ev ∧ l2 = l) := by
    by_cases huv : u = v
    · refine Or.inl ⟨huv, ?_⟩
      rw [← ee2, ← huv]
      unfold pullE
      rw [if_neg (fun g => g HAP.out.1.2.1), if_neg HAP.out.1.2.2.2.2.2.1]
    · have h1 := HAP.out.1.2.2.2.2.2.2 v (fun e => huv e.symm)
      refine Or.inr ⟨huv, ?_, ?_⟩
      · rw [← ee2, ← eev]; unfold pullE; rw [if_neg (fun g => g HAP.out.1.2.1), h1]
      · rw [← el2, ← el]; unfold pullK; rw [if_neg (fun g => g HAP.out.1.2.1), h1]
  have HC := Lib.hid (And.intro hcase (And.intro hll ell))
  clear hcase hp1 hp2 hp3 hk1 he1 hk3 he3 el eev el2 ee2 hll
  have y0 := (H9.out.2.2.1).cell 0 _ rfl
  have y1 := (H9.out.2.2.1).cell 1 _ rfl
  have y2 := (H9.out.2.2.1).cell 2 _ rfl
  go_wp2_with fail
  refine (HP1.out _ H9.out.2.2.2.1).mono ?_
  rintro e w10 ⟨a6, c6, rfl, hp6, hb10⟩
  have H10 := Lib.hid (And.intro hp6 hb10)
  clear hp6 hb10 y0 y1 y2
  have s0 := (H9.out.2.1.on H10.out.2).cell 0 _ rfl
  have s1 := (H9.out.2.1.on H10.out.2).cell 1 _ rfl
  have s2 := (H9.out.2.1.on H10.out.2).cell 2 _ rfl
  go_wp2_with fail
  refine (HP2.out _ (H9.out.2.2.2.2.1.on H10.out.2)).mono ?_
  rintro e w11 ⟨a7, c7, rfl, hp7, hb11⟩
  have b911 := H10.out.2.trans (hb11.mono H10.out.2.size)
  have H11 := Lib.hid (And.intro hp7 (And.intro b911 (H10.out.1.on hb11)))
  clear hp7 hb11 b911 s0 s1 s2
  have p0 := (H9.out.1.on H11.out.2.1).cell 0 _ rfl
  have p1 := (H9.out.1.on H11.out.2.1).cell 1 _ rfl
  have p2 := (H9.out.1.on H11.out.2.1).cell 2 _ rfl
  go_wp2_with fail
  refine (HP3.out _ (H9.out.2.2.2.2.2.1.on H11.out.2.1)).mono ?_
  rintro e w12 ⟨a8, c8, rfl, hp8, hb12⟩
  have b912 := H11.out.2.1.trans (hb12.mono H11.out.2.1.size)
  have hbw := H9.out.2.2.2.2.2.2.trans (b912.mono (by have := H9.out.2.2.2.2.2.2.size; omega))
  have H12 := Lib.hid (And.intro hp8 (And.intro (H11.out.2.2.on hb12) (And.intro (H11.out.1.on hb12) (And.intro hbw (H9.out.2.2.2.2.2.1.on b912)))))
  clear p0 p1 p2
  have p0 := (H9.out.1.on b912).cell 0 _ rfl
  have p1 := (H9.out.1.on b912).cell 1 _ rfl
  have p2 := (H9.out.1.on b912).cell 2 _ rfl
  have y0 := (H9.out.2.2.1.on b912).cell 0 _ rfl
  have y1 := (H9.out.2.2.1.on b912).cell 1 _ rfl
  have y2 := (H9.out.2.2.1.on b912).cell 2 _ rfl
  have HV := Lib.hid (And.intro (H9.out.1.on b912) (H9.out.2.2.1.on b912))
  clear hp8 hb12 b912 hbw HP1 HP2 HP3
  have hms := mailsSame_any a6 a8 c6 c8 l l (by have := HC.out.2.1; omega) w12 H12.out.2.1 H12.out.1
  rw [decide_eq_true (show l = l from rfl), HC.out.2.2] at hms
  have HMS := Lib.hid hms
  have hRt := fun W (hW : SB W a5 c5 K5) => rightRl_any a5 c5 K5 now n1 hn (show ∀ m ∈ K5, m.s.ml.length ≤ 1000 from fun m hm => by
    have h1 : m.s ∈ bxs K5 := List.mem_map_of_mem hm
    rw [H7.out.2.2.2.1] at h1
    obtain ⟨y, hy, e⟩ := List.mem_map.1 h1
    rw [← e]; exact HMF.out.2 y hy) W hW
  simp only [H7.out.2.2.2.1, HLK.out, decide_eq_true HAP.out.1.2.2.1] at hRt
  have HRt := Lib.hid hRt
  clear hms hRt
  go_upto_region 11 with (first
    | (go_at_call 46; refine HMS.out.mono ?_; rintro e w13 ⟨rfl, hb13⟩; have kV13 := HV.out.1.on hb13; have kR13 := HV.out.2.on hb13; have f0 := kV13.cell 0 _ rfl; have f1 := kV13.cell 1 _ rfl; have f2 := kV13.cell 2 _ rfl; have g0 := kR13.cell 0 _ rfl; have g1 := kR13.cell 1 _ rfl; have g2 := kR13.cell 2 _ rfl; have HB13 := Lib.hid hb13; clear hb13 kV13 kR13)
    | (go_at_call 36; refine (HRt.out _ (H12.out.2.2.2.2.on HB13.out)).mono ?_; rintro e w14 ⟨rfl, hb14⟩; have HB14 := Lib.hid hb14; clear hb14)
    | (go_at_call 40; refine (HAl.out _).mono ?_; rintro e w15 ⟨rfl, hb15⟩; have HB15 := Lib.hid hb15; clear hb15))
  have hbz := H12.out.2.2.2.1.trans (((HB13.out.trans (HB14.out.mono HB13.out.size)).trans (HB15.out.mono (Nat.le_trans HB13.out.size HB14.out.size))).mono (by have := H12.out.2.2.2.1.size; omega))
  have b1215 := (HB13.out.trans (HB14.out.mono HB13.out.size)).trans (HB15.out.mono (Nat.le_trans HB13.out.size HB14.out.size))
  have HZ := Lib.hid (And.intro hbz b1215)
  clear hbz b1215
  rcases HC.out.1 with ⟨rfl, rfl⟩ | ⟨hne, rfl, rfl⟩
  · go_wp2_with fail
    go_ret
    exact ⟨rfl, by first | exact HZ.out.1 | (rw [eR]; exact HZ.out.1)⟩
  · have huz : ((u : Int) == (v : Int)) = false := by simp; omega
    have huz2 : ((u : Int) != (v : Int)) = true := by simp; omega
    have huz3 : ¬ (u : Int) = (v : Int) := by omega
    have hm2 := mailsSame_any a6 a7 c6 c7 l2 l2 (by have := HC.out.2.1; omega) w15 (H12.out.2.1.on HZ.out.2) (H12.out.2.2.1.on HZ.out.2)
    have hl2 : ll2 = ll := by rw [← ell2, HC.out.2.2]
    subst hl2
    rw [decide_eq_true (show l2 = l2 from rfl), ell2] at hm2
    have HM2 := Lib.hid hm2
    clear hm2 hne
    go_wp2_with (go_at_call 46; refine HM2.out.mono ?_; rintro e w16 ⟨rfl, hb16⟩; have HB16 := Lib.hid hb16; clear hb16)
    go_ret
    have hbb := HZ.out.1.trans (HB16.out.mono (by have := HZ.out.1.size; omega))
    exact ⟨rfl, by first | exact hbb | (rw [eR]; exact hbb)⟩
end Go.Proofs.Ytmmaimopombepaa
