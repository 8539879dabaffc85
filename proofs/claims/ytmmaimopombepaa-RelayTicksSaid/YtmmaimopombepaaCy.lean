/- Law 16: RelayTicks. -/
import Derived.Test.YtmmaimopombepaaCv
import Derived.Test.YtmmaimopombepaaCx
namespace Go.Proofs.Ytmmaimopombepaa
open Go.RowKit
set_option maxRecDepth 100000

theorem filtB_le (p : Nat → Ml → Bool) (l : List Bx) : (filtB p l).length ≤ l.length := by
  unfold filtB
  induction l with
  | nil => simp
  | cons b l ih =>
    rw [List.flatMap_cons, List.length_append, List.length_cons]
    have h : (keepB p b).length ≤ 1 := by unfold keepB; split <;> simp
    omega
theorem few_filtB {M K : List BxM} {p : Nat → Ml → Bool} (hM : FewB M) (hK : bxs K = filtB p (bxs M)) : FewB K := by
  refine ⟨?_, fun m hm => ?_⟩
  · have h1 := filtB_le p (bxs M)
    have h2 := hM.1
    rw [← hK, bxs_length, bxs_length] at h1
    omega
  · have hm2 : m.s ∈ bxs K := List.mem_map_of_mem hm
    rw [hK] at hm2
    unfold filtB at hm2
    obtain ⟨b, hb, hk⟩ := List.mem_flatMap.1 hm2
    obtain ⟨y, hy, e⟩ := List.mem_map.1 hb
    have hl : b.ml.length ≤ 1000 := by rw [← e]; exact hM.2 y hy
    unfold keepB at hk
    by_cases g : b.ml.filter (p b.user) = []
    · rw [if_pos g] at hk; cases hk
    · rw [if_neg g, List.mem_singleton] at hk
      rw [hk]
      exact Nat.le_trans (List.length_filter_le _ _) hl
theorem same_filtB (a b : Option Addr) (c c' : Nat) {M : List BxM} (K N : List BxM) (now next : Nat) {p : Nat → Ml → Bool} (hM : FewB M) (hK : bxs K = filtB p (bxs M)) (hN : bxs N = filtB p (bxs M)) (w : World) (hp : SB w a c K) (hq : SB w b c' N) :
    Calls Try.prog 39 #[.agg #[.slice a K.length c, .int .u64 (now : Int), .int .u64 (next : Int)], .agg #[.slice b N.length c', .int .u64 (now : Int), .int .u64 (next : Int)]] w fun e w' => e = .returned (.bool true) ∧ Below w.heap.size w w' := by
  have h := sameRl_any a b c c' K N now now next next (few_filtB hM hK) w hp hq
  rw [hK, hN, decide_eq_true rfl] at h
  exact h
set_option maxHeartbeats 16000000 in
theorem ticksLaw_any (a : Option Addr) (c : Nat) (L : List BxM) (now next : Nat) (hn : now < 18446744073709551616) (hl : L.length ≤ maxLen) (hp : ∀ m ∈ L, m.s.ml.length ≤ maxLen) (t : Nat) (w : World) (h : SB w a c L) :
    Calls Try.prog 10 #[.agg #[.slice a L.length c, .int .u64 (now : Int), .int .u64 (next : Int)], .int .u64 (t : Int)] w fun e w' => e = .returned (.bool true) ∧ Below w.heap.size w w' := by
  obtain ⟨W0, eW0⟩ : ∃ W0, w.alloc (.cells #[.slice a L.length c, .int .u64 (now : Int), .int .u64 (next : Int)] 56) = W0 := ⟨_, rfl⟩
  have b0 : Below w.heap.size w W0 := by rw [← eW0]; exact (Below.refl _ w).alloc (Nat.le_refl _) _
  obtain ⟨R, eR⟩ : ∃ R, w.heap.size = R := ⟨_, rfl⟩
  have kR : BlkV W0 R 56 [.slice a L.length c, .int .u64 (now : Int), .int .u64 (next : Int)] := by rw [← eW0, ← eR]; exact BlkV.fresh w _ _ _ rfl _ rfl
  have d0 := kR.cell 0 _ rfl
  have d1 := kR.cell 1 _ rfl
  have d2 := kR.cell 2 _ rfl
  have HF := Lib.hid (fewR_any a c L now next hl hp W0 (h.on b0))
  have HSw := Lib.hid (show ∀ V, Below R w V → ∀ (a1 : Option Addr) (c1 b : Nat), OwnE eBx 101 V b (.slice a1 (fewBs L).length c1) (fewBs L) → SB V a1 c1 (fewBs L) from fun V hV a1 c1 b ho => few_at h (by rw [eR]; exact hV) ho)
  have HK := Lib.hid (And.intro (show Below R w W0 by rw [← eR]; exact b0) kR)
  have HRW := Lib.hid (show R ≤ W0.heap.size by rw [← eR]; exact b0.size)
  have hMf := fewBs_few L
  obtain ⟨M, eM⟩ : ∃ M, fewBs L = M := ⟨_, rfl⟩
  rw [eM] at hMf
  simp only [eM] at HF HSw
  clear b0 kR h hl hp eM
  go_enter Try.func10, Try.ntmps10
  go_upto_region 1 with fail
  clear eW0
  go_wp2_with fail
  refine HF.out.mono ?_
  rintro e w1 ⟨a1, c1, rfl, -, ho1, hb1⟩
  have k1 := HK.out.2.on hb1
  have x0 := k1.cell 0 _ rfl
  have x1 := k1.cell 1 _ rfl
  have x2 := k1.cell 2 _ rfl
  have f0 := k1.frozen 0
  have f1 := k1.frozen 1
  have f2 := k1.frozen 2
  have H1 := Lib.hid (And.intro k1 (And.intro ho1 (HK.out.1.trans (hb1.mono HRW.out))))
  have HMF := Lib.hid hMf
  clear k1 ho1 hb1 HF d0 d1 d2 hMf
  go_upto_region 2 with fail
  have k2 := H1.out.1.put3 (.slice a1 M.length c1) (.int .u64 (now : Int)) (.int .u64 (next : Int))
  have hb2 := below_put3 H1.out.2.2 R (Nat.le_refl _) (.slice a1 M.length c1) (.int .u64 (now : Int)) (.int .u64 (next : Int))
  have ho2 := OwnE.farR2 H1.out.2.1 H1.out.1 (by decide) (put3_far w1 R (.slice a1 M.length c1) (.int .u64 (now : Int)) (.int .u64 (next : Int)))
  generalize World.setCell _ _ _ = w2 at k2 hb2 ho2 ⊢
  have hS2 := HSw.out w2 hb2 a1 c1 _ ho2
  have y0 := k2.cell 0 _ rfl
  have y1 := k2.cell 1 _ rfl
  have y2 := k2.cell 2 _ rfl
  have HT := Lib.hid (tick_any a1 c1 M now next hn HMF.out t w2 hS2)
  have hRs := k2.lt
  have H2 := Lib.hid (And.intro k2 (And.intro hS2 hb2))
  clear k2 hb2 ho2 hS2 x0 x1 x2 f0 f1 f2 H1
  obtain ⟨rr, err⟩ : ∃ rr : Rl, (⟨bxs M, now, next⟩ : Rl) = rr := ⟨_, rfl⟩
  simp only [err] at HT
  go_wp2_with fail
  refine HT.out.mono ?_
  rintro e w4 ⟨a4, c4, K, rfl, hS4, hK4, hb4⟩
  obtain ⟨Q, eQ⟩ : ∃ Q, tickQ rr t = Q := ⟨_, rfl⟩
  obtain ⟨E, eE⟩ : ∃ E, tickE rr t = E := ⟨_, rfl⟩
  rw [eQ] at hK4
  rw [eQ, eE]
  obtain ⟨W5, eW5⟩ : ∃ W5, w4.alloc (.cells #[.slice none 0 0, .int .u64 0, .int .u64 0] 56) = W5 := ⟨_, rfl⟩
  have b5 : Below w4.heap.size w4 W5 := by rw [← eW5]; exact (Below.refl _ w4).alloc (Nat.le_refl _) _
  obtain ⟨S, eS⟩ : ∃ S, w4.heap.size = S := ⟨_, rfl⟩
  have kS : BlkV W5 S 56 [.slice none 0 0, .int .u64 0, .int .u64 0] := by rw [← eW5, ← eS]; exact BlkV.fresh w4 _ _ _ rfl _ rfl
  have s0 := kS.cell 0 _ rfl
  have s1 := kS.cell 1 _ rfl
  have s2 := kS.cell 2 _ rfl
  have t0 := kS.frozen 0
  have t1 := kS.frozen 1
  have t2 := kS.frozen 2
  have H4 := Lib.hid (And.intro kS (And.intro b5 (And.intro hS4 (And.intro hK4 (And.intro hb4 (And.intro eQ (And.intro eE eS)))))))
  clear kS b5 hS4 hK4 hb4 eQ eE HT y0 y1 y2
  go_upto_region 3 with fail
  have kS6 := H4.out.1.put3 (.slice a4 K.length c4) (.int .u64 (Q.now : Int)) (.int .u64 (Q.next : Int))
  have b46 := below_put3 H4.out.2.1 S (by rw [← H4.out.2.2.2.2.2.2.2]; exact Nat.le_refl _) (.slice a4 K.length c4) (.int .u64 (Q.now : Int)) (.int .u64 (Q.next : Int))
  clear s0 s1 s2 t0 t1 t2 eW5
  generalize World.setCell _ _ _ = w6 at kS6 b46 ⊢
  have b26 := H4.out.2.2.2.2.1.trans (b46.mono H4.out.2.2.2.2.1.size)
  have k6 := H2.out.1.on b26
  have y0 := k6.cell 0 _ rfl
  have y1 := k6.cell 1 _ rfl
  have y2 := k6.cell 2 _ rfl
  have hR6 := rightRef_any a1 c1 M now next hn HMF.out w6 (H2.out.2.1.on b26)
  rw [err] at hR6
  have HR := Lib.hid hR6
  have HL := Lib.hid err
  have HAl := Lib.hid (fun W => aliveR_any W)
  have H6 := Lib.hid (And.intro kS6 (And.intro k6 (And.intro (H2.out.2.1.on b26) (And.intro (H2.out.2.2.trans (b26.mono (Nat.le_of_lt hRs))) (H4.out.2.2.1.on b46)))))
  clear kS6 b46 b26 k6 hR6
  by_cases hr : rightR rr
  case neg =>
    rw [decide_eq_false hr] at HR
    have hE : E = 1 := by rw [← H4.out.2.2.2.2.2.2.1]; exact if_pos hr
    have hQ : Q = ⟨[], 0, 0⟩ := by rw [← H4.out.2.2.2.2.2.1]; exact if_neg (by rw [H4.out.2.2.2.2.2.2.1, hE]; decide)
    subst hE hQ
    have hK0 : K = [] := bxs_nil H4.out.2.2.2.1
    subst hK0
    clear hr
    go_wp2_with fail
    refine HR.out.mono ?_
    rintro e w7 ⟨rfl, hb7⟩
    have H7 := Lib.hid (And.intro (H6.out.1.on hb7) (And.intro (H6.out.2.1.on hb7) (And.intro (H6.out.2.2.1.on hb7) (H6.out.2.2.2.1.trans (hb7.mono (by have := H6.out.2.2.2.1.size; omega))))))
    clear hb7 HR y0 y1 y2
    go_wp2_with fail
    refine (HAl.out _).mono ?_
    rintro e w8 ⟨rfl, hb8⟩
    have kS8 := H7.out.1.on hb8
    have s0 := kS8.cell 0 _ rfl
    have s1 := kS8.cell 1 _ rfl
    have s2 := kS8.cell 2 _ rfl
    have hbw := H7.out.2.2.2.trans (hb8.mono (by have := H7.out.2.2.2.size; omega))
    have hsm := sameRl_any a4 none c4 0 [] [] 0 0 0 0 ⟨by simp, fun m hm => by cases hm⟩ w8 ⟨Sl.nil _ _ _, fun m hm => (by cases hm), Nat.zero_le _, fun e => ⟨(H4.out.2.2.1.nil e).1, rfl⟩⟩ (SB.empty w8)
    rw [decide_eq_true rfl] at hsm
    have HSM := Lib.hid hsm
    have HBW := Lib.hid hbw
    clear hb8 kS8 hbw hsm HAl
    go_wp2_with (go_at_call 39; refine HSM.out.mono ?_; rintro e w9 ⟨rfl, hb9⟩)
    go_ret
    have hbb := HBW.out.trans (hb9.mono (by have := HBW.out.size; omega))
    exact ⟨rfl, by first | exact hbb | (rw [eR]; exact hbb)⟩
  rw [decide_eq_true hr] at HR
  have hbx : rr.bx = bxs M := by rw [← err]
  have hnw : rr.now = now := by rw [← err]
  have hnx : rr.next = next := by rw [← err]
  have hn62 : now < 4611686018427387904 := by rw [← hnw]; exact hr.2.1
  have hE : E = if 1000 < t ∨ 4611686018427387904 ≤ now + t then 2 else 0 := by
    rw [← H4.out.2.2.2.2.2.2.1, ← hnw]; exact if_neg (fun g => g hr)
  have hQ : Q = if E = 0 then tickR rr t else ⟨[], 0, 0⟩ := by
    rw [← H4.out.2.2.2.2.2.1, ← H4.out.2.2.2.2.2.2.1]; rfl
  unfold tickR at hQ
  rw [hbx, hnw, hnx] at hQ
  have HE := Lib.hid (And.intro hE hQ)
  clear hE hQ hr hbx hnw hnx
  go_wp2_with fail
  refine HR.out.mono ?_
  rintro e w7 ⟨rfl, hb7⟩
  have k7 := H6.out.2.1.on hb7
  have y0 := k7.cell 0 _ rfl
  have y1 := k7.cell 1 _ rfl
  have y2 := k7.cell 2 _ rfl
  have H7 := Lib.hid (And.intro (H6.out.1.on hb7) (And.intro k7 (And.intro (H6.out.2.2.1.on hb7) (H6.out.2.2.2.1.trans (hb7.mono (by have := H6.out.2.2.2.1.size; omega))))))
  have HS7 := Lib.hid (H6.out.2.2.2.2.on hb7)
  clear hb7 HR k7
  by_cases ct : 1000 < t
  · have ctz : (t : Int) > 1000 := by omega
    have hE : E = 2 := HE.out.1.trans (if_pos (Or.inl ct))
    have hQ : Q = ⟨[], 0, 0⟩ := HE.out.2.trans (if_neg (by rw [hE]; decide))
    subst hE hQ
    have hK0 : K = [] := bxs_nil H4.out.2.2.2.1
    subst hK0
    clear ct
    go_upto_region 6 with fail
    go_wp2_with fail
    refine (HAl.out _).mono ?_
    rintro e w8 ⟨rfl, hb8⟩
    have kS8 := H7.out.1.on hb8
    have s0 := kS8.cell 0 _ rfl
    have s1 := kS8.cell 1 _ rfl
    have s2 := kS8.cell 2 _ rfl
    have hbw := H7.out.2.2.2.trans (hb8.mono (by have := H7.out.2.2.2.size; omega))
    have hsm := sameRl_any a4 none c4 0 [] [] 0 0 0 0 ⟨by simp, fun m hm => by cases hm⟩ w8 ⟨Sl.nil _ _ _, fun m hm => (by cases hm), Nat.zero_le _, fun e => ⟨(H4.out.2.2.1.nil e).1, rfl⟩⟩ (SB.empty w8)
    rw [decide_eq_true rfl] at hsm
    have HSM := Lib.hid hsm
    have HBW := Lib.hid hbw
    clear hb8 kS8 hbw hsm HAl
    go_wp2_with (go_at_call 39; refine HSM.out.mono ?_; rintro e w9 ⟨rfl, hb9⟩)
    go_ret
    have hbb := HBW.out.trans (hb9.mono (by have := HBW.out.size; omega))
    exact ⟨rfl, by first | exact hbb | (rw [eR]; exact hbb)⟩
  have ctz : ¬ (t : Int) > 1000 := by omega
  by_cases cn : 4611686018427387904 ≤ now + t
  · have cnz : (now : Int) + (t : Int) ≥ 4611686018427387904 := by omega
    have hE : E = 2 := HE.out.1.trans (if_pos (Or.inr cn))
    have hQ : Q = ⟨[], 0, 0⟩ := HE.out.2.trans (if_neg (by rw [hE]; decide))
    have hwr : IntKind.u64.wrap ((now : Int) + (t : Int)) = (now : Int) + (t : Int) := by show ((now : Int) + (t : Int)) % 18446744073709551616 = _; omega
    subst hE hQ
    have hK0 : K = [] := bxs_nil H4.out.2.2.2.1
    subst hK0
    clear cn ct
    go_upto_region 6 with fail
    go_wp2_with fail
    refine (HAl.out _).mono ?_
    rintro e w8 ⟨rfl, hb8⟩
    have kS8 := H7.out.1.on hb8
    have s0 := kS8.cell 0 _ rfl
    have s1 := kS8.cell 1 _ rfl
    have s2 := kS8.cell 2 _ rfl
    have hbw := H7.out.2.2.2.trans (hb8.mono (by have := H7.out.2.2.2.size; omega))
    have hsm := sameRl_any a4 none c4 0 [] [] 0 0 0 0 ⟨by simp, fun m hm => by cases hm⟩ w8 ⟨Sl.nil _ _ _, fun m hm => (by cases hm), Nat.zero_le _, fun e => ⟨(H4.out.2.2.1.nil e).1, rfl⟩⟩ (SB.empty w8)
    rw [decide_eq_true rfl] at hsm
    have HSM := Lib.hid hsm
    have HBW := Lib.hid hbw
    clear hb8 kS8 hbw hsm HAl
    go_wp2_with (go_at_call 39; refine HSM.out.mono ?_; rintro e w9 ⟨rfl, hb9⟩)
    go_ret
    have hbb := HBW.out.trans (hb9.mono (by have := HBW.out.size; omega))
    exact ⟨rfl, by first | exact hbb | (rw [eR]; exact hbb)⟩
  have hE : E = 0 := HE.out.1.trans (if_neg (by omega))
  have hQ := HE.out.2.trans (if_pos hE)
  subst hE
  obtain ⟨nt, ent⟩ : ∃ nt : Nat, now + t = nt := ⟨_, rfl⟩
  rw [ent] at hQ
  have entz : (now : Int) + (t : Int) = (nt : Int) := by omega
  have hwr : IntKind.u64.wrap (nt : Int) = (nt : Int) := by show (nt : Int) % 18446744073709551616 = _; omega
  have hq1 : decide (4611686018427387904 ≤ nt) = false := decide_eq_false (by omega)
  have hq2 : ((4611686018427387904 : Int) ≤ (nt : Int)) = False := eq_false (by omega)
  have HENT := Lib.hid (And.intro ent (show nt < 4611686018427387904 by omega))
  subst hQ
  clear ent cn ct hn62 HE
  go_upto_region 7 with fail
  clear y0 y1 y2 entz hwr hq1 hq2
  go_region_with (first
    | (go_at_call 40; refine (HAl.out _).mono ?_; rintro e w8 ⟨rfl, hb8⟩; have hz8 : Bz w7 w8 := Bz.st (by repeat (first | exact Bz.refl _ | refine Bz.dr ?_)) hb8; have kS8 := H7.out.1.on hz8.b; have kR8 := H7.out.2.1.on hz8.b; have s0 := kS8.cell 0 _ rfl; have s1 := kS8.cell 1 _ rfl; have s2 := kS8.cell 2 _ rfl; have y0 := kR8.cell 0 _ rfl; have y1 := kR8.cell 1 _ rfl; have y2 := kR8.cell 2 _ rfl; have HZ8 := Lib.hid hz8; clear hb8 hz8 kS8 kR8)
    | (go_at_call 50; refine (tickRef_any a1 c1 M now next HMF.out t nt HENT.out.1 HENT.out.2 _ (H7.out.2.2.1.on (Bz.b (by repeat (first | exact HZ8.out | refine Bz.dr ?_))))).mono ?_; rintro e w11 ⟨a11, c11, K11, rfl, hS11, hK11, hb11⟩; have hz11 : Bz w7 w11 := Bz.st (by repeat (first | exact HZ8.out | refine Bz.dr ?_)) hb11; have kS11 := H7.out.1.on hz11.b; have r0 := kS11.cell 0 _ rfl; have r1 := kS11.cell 1 _ rfl; have r2 := kS11.cell 2 _ rfl; have HZ := Lib.hid (And.intro hz11 (And.intro hS11 hK11)); clear hS11 hK11 hb11 hz11 kS11)
    | (go_at_call 39; refine (same_filtB a4 a11 c4 c11 K K11 nt next HMF.out H4.out.2.2.2.1 HZ.out.2.2 _ (HS7.out.on (Bz.b (by repeat (first | exact HZ.out.1 | refine Bz.dr ?_)))) (HZ.out.2.1.on (Bz.b (by repeat (first | exact Bz.refl _ | refine Bz.dr ?_))))).mono ?_; rintro e w12 ⟨rfl, hb12⟩; have hz12 : Bz w7 w12 := Bz.st (by repeat (first | exact HZ.out.1 | refine Bz.dr ?_)) hb12; have HZ2 := Lib.hid hz12; clear hb12 hz12))
  all_goals (
    go_wp2_with fail
    go_ret
    have hbb := H7.out.2.2.2.trans ((Bz.dr HZ2.out).b.mono (by have := H7.out.2.2.2.size; omega))
    have hbc := H7.out.2.2.2.trans ((HZ2.out).b.mono (by have := H7.out.2.2.2.size; omega))
    exact ⟨rfl, by first | exact hbb | exact hbc | (rw [eR]; first | exact hbb | exact hbc)⟩)
end Go.Proofs.Ytmmaimopombepaa
