/- Law 16: RelayPulls. -/
import Derived.Test.YtmmaimopombepaaCu
import Derived.Test.YtmmaimopombepaaCn
namespace Go.Proofs.Ytmmaimopombepaa
open Go.RowKit
set_option maxRecDepth 100000

theorem few_at {w V : World} {a a1 : Option Addr} {c c1 b : Nat} {L : List BxM} (hS : SB w a c L) (hb : Below w.heap.size w V) (ho : OwnE eBx 101 V b (.slice a1 (fewBs L).length c1) (fewBs L)) : SB V a1 c1 (fewBs L) := by
  obtain ⟨a', c', e, h1, h2, h3, -⟩ := ho.sl
  injection e with e1 e2 e3
  subst e1
  subst e3
  refine ⟨h2, fun m hm => ?_, h1, h3⟩
  obtain ⟨x, hx, rfl⟩ := List.mem_map.1 hm
  exact ((hS.mls x (List.mem_of_mem_take hx)).on hb).take 18
theorem left_all (l : List Ml) (id : Nat) : ((l.filter fun m => !decide (m.id = id)).length = l.length) ↔ l.filter (fun m => decide (m.id = id)) = [] := by
  rw [List.length_filter_eq_length_iff, List.filter_eq_nil_iff]
  constructor
  · intro h m hm e
    have := h m hm
    rw [e] at this
    cases this
  · intro h m hm
    have := h m hm
    simpa using this
theorem ackQ_bad {r : Rl} {u id : Nat} (h : ackE r u id ≠ 0) : ackQ r u id = ⟨[], 0, 0⟩ := if_neg h
theorem pull_zero {r : Rl} {u : Nat} (h : ¬ rightR r) : pullK r u = [] ∧ pullE r u = 1 := ⟨if_pos h, if_pos h⟩
theorem few_withB {M K : List BxM} {u : Nat} {G : List Ml} (hM : FewB M) (h9 : M.length ≤ 999) (hG : G.length ≤ 1000) (hK : bxs K = withB (bxs M) u G) : FewB K := by
  have hl : (bxs K).length ≤ 1000 := by
    rw [hK]
    unfold withB
    rw [List.length_append, List.length_append]
    have h1 : ((bxs M).filter (fun b => decide (b.user < u))).length + ((bxs M).filter (fun b => decide (u < b.user))).length ≤ (bxs M).length := by
      generalize bxs M = N
      induction N with
      | nil => simp
      | cons x N ih =>
        simp only [List.filter_cons, List.length_cons]
        by_cases e1 : x.user < u
        · have e2 : ¬ u < x.user := by omega
          rw [decide_eq_true e1, decide_eq_false e2]
          simp only [if_true, if_neg (by decide : ¬ (false = true)), List.length_cons]
          omega
        · rw [decide_eq_false e1]
          by_cases e2 : u < x.user
          · rw [decide_eq_true e2]
            simp only [if_true, if_neg (by decide : ¬ (false = true)), List.length_cons]
            omega
          · rw [decide_eq_false e2]
            simp only [if_neg (by decide : ¬ (false = true))]
            omega
    have h2 : (if G = [] then ([] : List Bx) else [⟨u, G⟩]).length ≤ 1 := by split <;> simp
    rw [bxs_length] at h1
    omega
  refine ⟨by rw [bxs_length] at hl; exact hl, fun m hm => ?_⟩
  have hm2 : m.s ∈ bxs K := List.mem_map_of_mem hm
  rw [hK] at hm2
  have old : m.s ∈ bxs M → m.s.ml.length ≤ 1000 := fun h => by
    obtain ⟨y, hy, e⟩ := List.mem_map.1 h
    rw [← e]
    exact hM.2 y hy
  unfold withB at hm2
  rcases List.mem_append.1 hm2 with h | h
  · rcases List.mem_append.1 h with h | h
    · exact old (List.mem_filter.1 h).1
    · by_cases g : G = []
      · rw [if_pos g] at h; cases h
      · rw [if_neg g, List.mem_singleton] at h
        rw [h]; exact hG
  · exact old (List.mem_filter.1 h).1
theorem same_withB (a b : Option Addr) (c c' : Nat) {M : List BxM} (K N : List BxM) (now next : Nat) {u : Nat} {G : List Ml} (hM : FewB M) (h9 : M.length ≤ 999) (hG : G.length ≤ 1000) (hK : bxs K = withB (bxs M) u G) (hN : bxs N = withB (bxs M) u G) (w : World) (hp : SB w a c K) (hq : SB w b c' N) :
    Calls Try.prog 39 #[.agg #[.slice a K.length c, .int .u64 (now : Int), .int .u64 (next : Int)], .agg #[.slice b N.length c', .int .u64 (now : Int), .int .u64 (next : Int)]] w fun e w' => e = .returned (.bool true) ∧ Below w.heap.size w w' := by
  have h := sameRl_any a b c c' K N now now next next (few_withB hM h9 hG hK) w hp hq
  rw [hK, hN, decide_eq_true rfl] at h
  exact h
set_option maxHeartbeats 16000000 in
theorem pullsLaw_any (a : Option Addr) (c : Nat) (L : List BxM) (now next : Nat) (hn : now < 18446744073709551616) (hl : L.length ≤ maxLen) (hp : ∀ m ∈ L, m.s.ml.length ≤ maxLen) (u id : Nat) (w : World) (h : SB w a c L) :
    Calls Try.prog 9 #[.agg #[.slice a L.length c, .int .u64 (now : Int), .int .u64 (next : Int)], .int .u64 (u : Int), .int .u64 (id : Int)] w fun e w' => e = .returned (.bool true) ∧ Below w.heap.size w w' := by
  obtain ⟨W0, eW0⟩ : ∃ W0, w.alloc (.cells #[.slice a L.length c, .int .u64 (now : Int), .int .u64 (next : Int)] 56) = W0 := ⟨_, rfl⟩
  have b0 : Below w.heap.size w W0 := by rw [← eW0]; exact (Below.refl _ w).alloc (Nat.le_refl _) _
  obtain ⟨R, eR⟩ : ∃ R, w.heap.size = R := ⟨_, rfl⟩
  have kR : BlkV W0 R 56 [.slice a L.length c, .int .u64 (now : Int), .int .u64 (next : Int)] := by rw [← eW0, ← eR]; exact BlkV.fresh w _ _ _ rfl _ rfl
  have d0 := kR.cell 0 _ rfl
  have d1 := kR.cell 1 _ rfl
  have d2 := kR.cell 2 _ rfl
  have HF := Lib.hid (fewR_any a c L now next hl hp W0 (h.on b0))
  have HSw := Lib.hid (show ∀ V, Below R w V → ∀ (a1 : Option Addr) (c1 b : Nat), OwnE eBx 101 V b (.slice a1 (fewBs L).length c1) (fewBs L) → SB V a1 c1 (fewBs L) from fun V hV a1 c1 b ho => few_at h (by rw [eR]; exact hV) ho)
  have HK := Lib.hid (And.intro (show Below R w W0 by rw [← eR]; exact b0) kR)
  have HRW := Lib.hid (show R ≤ W0.heap.size by rw [← eR]; exact b0.size)
  have hMf := fewBs_few L
  have hM9 : (fewBs L).length ≤ 999 := by rw [fewBs_length]; omega
  obtain ⟨M, eM⟩ : ∃ M, fewBs L = M := ⟨_, rfl⟩
  rw [eM] at hMf hM9
  simp only [eM] at HF HSw
  clear b0 kR h hl hp eM
  go_enter Try.func9, Try.ntmps9
  go_upto_region 1 with fail
  clear eW0
  go_wp2_with fail
  refine HF.out.mono ?_
  rintro e w1 ⟨a1, c1, rfl, -, ho1, hb1⟩
  have k1 := HK.out.2.on hb1
  have x0 := k1.cell 0 _ rfl
  have x1 := k1.cell 1 _ rfl
  have x2 := k1.cell 2 _ rfl
  have f0 := k1.frozen 0
  have f1 := k1.frozen 1
  have f2 := k1.frozen 2
  have H1 := Lib.hid (And.intro k1 (And.intro ho1 (HK.out.1.trans (hb1.mono HRW.out))))
  have HMF := Lib.hid hMf
  have HM9 := Lib.hid hM9
  clear k1 ho1 hb1 HF d0 d1 d2 hMf hM9
  go_upto_region 2 with fail
  have k2 := H1.out.1.put3 (.slice a1 M.length c1) (.int .u64 (now : Int)) (.int .u64 (next : Int))
  have hb2 := below_put3 H1.out.2.2 R (Nat.le_refl _) (.slice a1 M.length c1) (.int .u64 (now : Int)) (.int .u64 (next : Int))
  have ho2 := OwnE.farR2 H1.out.2.1 H1.out.1 (by decide) (put3_far w1 R (.slice a1 M.length c1) (.int .u64 (now : Int)) (.int .u64 (next : Int)))
  generalize World.setCell _ _ _ = w2 at k2 hb2 ho2 ⊢
  have hS2 := HSw.out w2 hb2 a1 c1 _ ho2
  have y0 := k2.cell 0 _ rfl
  have y1 := k2.cell 1 _ rfl
  have y2 := k2.cell 2 _ rfl
  have HP := Lib.hid (pull_any a1 c1 M now next hn HMF.out u w2 hS2)
  have hRs := k2.lt
  have H2 := Lib.hid (And.intro k2 (And.intro hS2 hb2))
  clear k2 hb2 ho2 hS2 x0 x1 x2 f0 f1 f2 H1
  obtain ⟨rr, err⟩ : ∃ rr : Rl, (⟨bxs M, now, next⟩ : Rl) = rr := ⟨_, rfl⟩
  simp only [err] at HP
  go_wp2_with fail
  refine HP.out.mono ?_
  rintro e w3 ⟨a3, c3, rfl, hp3, hb3⟩
  obtain ⟨P, eP⟩ : ∃ P, pullK rr u = P := ⟨_, rfl⟩
  obtain ⟨E1, eE1⟩ : ∃ E1, pullE rr u = E1 := ⟨_, rfl⟩
  rw [eP] at hp3
  rw [eP, eE1]
  have k3 := H2.out.1.on hb3
  have y0 := k3.cell 0 _ rfl
  have y1 := k3.cell 1 _ rfl
  have y2 := k3.cell 2 _ rfl
  have hA := ack_any a1 c1 M now next hn HMF.out u id w3 (H2.out.2.1.on hb3)
  simp only [err] at hA
  have HA := Lib.hid hA
  have H3 := Lib.hid (And.intro k3 (And.intro hp3 (And.intro hb3 (And.intro eP eE1))))
  clear k3 hp3 hb3 HP eP eE1 hA
  go_wp2_with fail
  refine HA.out.mono ?_
  rintro e w4 ⟨a4, c4, K, rfl, hS4, hK4, hb4⟩
  obtain ⟨Q, eQ⟩ : ∃ Q, ackQ rr u id = Q := ⟨_, rfl⟩
  obtain ⟨E2, eE2⟩ : ∃ E2, ackE rr u id = E2 := ⟨_, rfl⟩
  rw [eQ] at hK4
  rw [eQ, eE2]
  obtain ⟨W5, eW5⟩ : ∃ W5, w4.alloc (.cells #[.slice none 0 0, .int .u64 0, .int .u64 0] 56) = W5 := ⟨_, rfl⟩
  have b5 : Below w4.heap.size w4 W5 := by rw [← eW5]; exact (Below.refl _ w4).alloc (Nat.le_refl _) _
  obtain ⟨S, eS⟩ : ∃ S, w4.heap.size = S := ⟨_, rfl⟩
  have kS : BlkV W5 S 56 [.slice none 0 0, .int .u64 0, .int .u64 0] := by rw [← eW5, ← eS]; exact BlkV.fresh w4 _ _ _ rfl _ rfl
  have s0 := kS.cell 0 _ rfl
  have s1 := kS.cell 1 _ rfl
  have s2 := kS.cell 2 _ rfl
  have t0 := kS.frozen 0
  have t1 := kS.frozen 1
  have t2 := kS.frozen 2
  have H4 := Lib.hid (And.intro kS (And.intro b5 (And.intro hS4 (And.intro hK4 (And.intro hb4 (And.intro eQ (And.intro eE2 eS)))))))
  clear kS b5 hS4 hK4 hb4 eQ eE2 HA y0 y1 y2
  go_upto_region 4 with fail
  have kS6 := H4.out.1.put3 (.slice a4 K.length c4) (.int .u64 (Q.now : Int)) (.int .u64 (Q.next : Int))
  have b46 := below_put3 H4.out.2.1 S (by rw [← H4.out.2.2.2.2.2.2.2]; exact Nat.le_refl _) (.slice a4 K.length c4) (.int .u64 (Q.now : Int)) (.int .u64 (Q.next : Int))
  clear s0 s1 s2 t0 t1 t2 eW5
  generalize World.setCell _ _ _ = w6 at kS6 b46 ⊢
  have b36 := H4.out.2.2.2.2.1.trans (b46.mono H4.out.2.2.2.2.1.size)
  have b26 := H3.out.2.2.1.trans (b36.mono H3.out.2.2.1.size)
  have k6 := H2.out.1.on b26
  have y0 := k6.cell 0 _ rfl
  have y1 := k6.cell 1 _ rfl
  have y2 := k6.cell 2 _ rfl
  have hR6 := rightRef_any a1 c1 M now next hn HMF.out w6 (H2.out.2.1.on b26)
  rw [err] at hR6
  have HR := Lib.hid hR6
  have HL := Lib.hid err
  have H6 := Lib.hid (And.intro kS6 (And.intro k6 (And.intro (H4.out.2.2.1.on b46) (And.intro (H3.out.2.1.on b36) (And.intro b26 (H2.out.2.2.trans (b26.mono (Nat.le_of_lt hRs))))))))
  clear kS6 b46 b36 b26 k6 hR6
  by_cases hr : rightR rr
  case neg =>
    rw [decide_eq_false hr] at HR
    have hE1 : E1 = 1 := by rw [← H3.out.2.2.2.2]; exact (pull_zero hr).2
    have hP1 : P = [] := by rw [← H3.out.2.2.2.1]; exact (pull_zero hr).1
    have hE2 : E2 = 1 := by rw [← H4.out.2.2.2.2.2.2.1]; exact if_pos hr
    have hQ2 : Q = ⟨[], 0, 0⟩ := by rw [← H4.out.2.2.2.2.2.1]; exact ackQ_bad (by rw [H4.out.2.2.2.2.2.2.1, hE2]; decide)
    subst hE1 hP1 hE2 hQ2
    have hK0 : K = [] := bxs_nil H4.out.2.2.2.1
    subst hK0
    clear hr
    go_wp2_with fail
    refine HR.out.mono ?_
    rintro e w7 ⟨rfl, hb7⟩
    have HAl := Lib.hid (aliveR_any w7)
    have kS7 := H6.out.1.on hb7
    have HB7 := Lib.hid (And.intro kS7 (H6.out.2.2.2.2.2.trans (hb7.mono (by have := H6.out.2.2.2.2.2.size; omega))))
    clear hb7 kS7 HR
    go_wp2_with fail
    refine HAl.out.mono ?_
    rintro e w8 ⟨rfl, hb8⟩
    have kS8 := HB7.out.1.on hb8
    have s0 := kS8.cell 0 _ rfl
    have s1 := kS8.cell 1 _ rfl
    have s2 := kS8.cell 2 _ rfl
    have hbw := HB7.out.2.trans (hb8.mono (by have := HB7.out.2.size; omega))
    have hsm := sameRl_any a4 none c4 0 [] [] 0 0 0 0 ⟨by simp, fun m hm => by cases hm⟩ w8 ⟨Sl.nil _ _ _, fun m hm => (by cases hm), Nat.zero_le _, fun e => ⟨(H4.out.2.2.1.nil e).1, rfl⟩⟩ (SB.empty w8)
    rw [decide_eq_true rfl] at hsm
    have HSM := Lib.hid hsm
    have HBW := Lib.hid hbw
    clear hb8 kS8 hbw hsm HAl
    go_wp2_with (go_at_call 39; refine HSM.out.mono ?_; rintro e w9 ⟨rfl, hb9⟩)
    go_ret
    have hbb := HBW.out.trans (hb9.mono (by have := HBW.out.size; omega))
    exact ⟨rfl, by first | exact hbb | (rw [eR]; exact hbb)⟩
  rw [decide_eq_true hr] at HR
  have hbx : rr.bx = bxs M := by rw [← err]
  obtain ⟨F, eF⟩ : ∃ F, mailsR (bxs M) u = F := ⟨_, rfl⟩
  have hml : F.length ≤ 1000 := by rw [← eF]; exact mailsR_le HMF.out.2 u
  have hE1 : E1 = if F = [] then 5 else 0 := by
    rw [← H3.out.2.2.2.2, ← eF, ← hbx]; exact if_neg (fun g => g hr)
  have hP1 : P = F.take 5 := by
    rw [← H3.out.2.2.2.1, ← eF, ← hbx]; exact if_neg (fun g => g hr)
  have hE2 : E2 = if F.filter (fun m => decide (m.id = id)) = [] then 5 else 0 := by
    rw [← H4.out.2.2.2.2.2.2.1, ← eF, ← hbx]; exact if_neg (fun g => g hr)
  have hQ2 : Q = if E2 = 0 then ⟨withB (bxs M) u (F.filter fun m => !decide (m.id = id)), now, next⟩ else ⟨[], 0, 0⟩ := by
    rw [← H4.out.2.2.2.2.2.1, ← H4.out.2.2.2.2.2.2.1, ← eF, ← hbx]
    unfold ackQ ackR
    rw [← err]
  have HE := Lib.hid (And.intro hE1 (And.intro hP1 (And.intro hE2 hQ2)))
  clear hE1 hP1 hE2 hQ2 hr hbx
  go_wp2_with fail
  refine HR.out.mono ?_
  rintro e w7 ⟨rfl, hb7⟩
  have k7 := H6.out.2.1.on hb7
  have y0 := k7.cell 0 _ rfl
  have y1 := k7.cell 1 _ rfl
  have y2 := k7.cell 2 _ rfl
  have b27 := H6.out.2.2.2.2.1.trans (hb7.mono H6.out.2.2.2.2.1.size)
  have hM := mailsRef_any a1 c1 M now next HMF.out u w7 (H2.out.2.1.on b27)
  simp only [eF] at hM
  have HM := Lib.hid hM
  have H7 := Lib.hid (And.intro k7 (And.intro hb7 b27))
  clear k7 hb7 b27 hM HR
  go_wp2_with fail
  refine HM.out.mono ?_
  rintro e w8 ⟨a8, c8, rfl, hp8, hb8⟩
  obtain ⟨lf, elf⟩ : ∃ lf, F.length = lf := ⟨_, rfl⟩
  have b68 := H7.out.2.1.trans (hb8.mono H7.out.2.1.size)
  have b28 := H7.out.2.2.trans (hb8.mono H7.out.2.2.size)
  have hlz : (lf : Int) ≤ 1000 := by omega
  have HAl := Lib.hid (fun W => aliveR_any W)
  have H8 := Lib.hid (And.intro hp8 (And.intro (H6.out.1.on b68) (And.intro (H6.out.2.2.2.1.on b68) (And.intro (H7.out.1.on hb8) (And.intro b28 (And.intro b68 (H6.out.2.2.2.2.2.trans (b68.mono (by have := H6.out.2.2.2.2.2.size; omega)))))))))
  rw [elf]
  clear hp8 hb8 b68 b28 HM H7 y0 y1 y2
  by_cases hF : F = []
  · have hG : F.filter (fun m => decide (m.id = id)) = [] := by rw [hF]; rfl
    have hE1 : E1 = 5 := HE.out.1.trans (if_pos hF)
    have hP1 : P = [] := by rw [HE.out.2.1, hF]; rfl
    have hE2 : E2 = 5 := HE.out.2.2.1.trans (if_pos hG)
    have hQ2 : Q = ⟨[], 0, 0⟩ := HE.out.2.2.2.trans (if_neg (by rw [hE2]; decide))
    have hlf : lf = 0 := by rw [← elf, hF]; rfl
    have HGn := Lib.hid hG
    subst hE1 hP1 hE2 hQ2
    have hK0 : K = [] := bxs_nil H4.out.2.2.2.1
    subst hK0
    clear hG hF
    subst hlf
    go_upto_region 8 with fail
    go_upto_region 10 with (go_at_call 40; refine (HAl.out _).mono ?_; rintro e w9 ⟨rfl, hb9⟩)
    have HP9 := Lib.hid (H8.out.1.on hb9)
    have HS9 := Lib.hid (H8.out.2.1.on hb9)
    have hb9w := H8.out.2.2.2.2.2.2.trans (hb9.mono (by have := H8.out.2.2.2.2.2.2.size; omega))
    clear hb9
    have hwo := withoutRef_any a8 c8 F (by omega) id w9 HP9.out
    simp only [elf] at hwo
    have HWo := Lib.hid hwo
    clear hwo
    go_wp2_with fail
    refine HWo.out.mono ?_
    rintro e w10 ⟨v10, rfl, ho10, hb10⟩
    obtain ⟨a10, c10, rfl, -⟩ := ho10.sl
    have hlen := (left_all F id).2 HGn.out
    rw [elf] at hlen
    rw [hlen]
    have kS10 := HS9.out.on hb10
    have s0 := kS10.cell 0 _ rfl
    have s1 := kS10.cell 1 _ rfl
    have s2 := kS10.cell 2 _ rfl
    have hbw := hb9w.trans (hb10.mono (by have := hb9w.size; omega))
    have hsm := sameRl_any a4 none c4 0 [] [] 0 0 0 0 ⟨by simp, fun m hm => by cases hm⟩ w10 ⟨Sl.nil _ _ _, fun m hm => (by cases hm), Nat.zero_le _, fun e => ⟨(H4.out.2.2.1.nil e).1, rfl⟩⟩ (SB.empty w10)
    rw [decide_eq_true rfl] at hsm
    have HSM := Lib.hid hsm
    have HBW := Lib.hid hbw
    clear hb10 kS10 hbw hsm ho10 hlen HWo
    go_wp2_with (go_at_call 39; refine HSM.out.mono ?_; rintro e w11 ⟨rfl, hb11⟩)
    go_ret
    have hbb := HBW.out.trans (hb11.mono (by have := HBW.out.size; omega))
    exact ⟨rfl, by first | exact hbb | (rw [eR]; exact hbb)⟩
  · have hE1 : E1 = 0 := HE.out.1.trans (if_neg hF)
    have hlp : 0 < lf := by rw [← elf]; exact List.length_pos_iff.2 hF
    have hlf : ((lf : Int) == 0) = false := by simp; omega
    have hlf2 : ¬ (lf : Int) = 0 := by omega
    obtain ⟨k5, ek5⟩ : ∃ k5, (F.take 5).length = k5 := ⟨_, rfl⟩
    have ek6 := ek5
    rw [List.length_take, elf] at ek6
    have hmin : min (lf : Int) 5 = (k5 : Int) := by omega
    have hcap : lf ≤ c8 := by rw [← elf]; exact H8.out.1.cap
    have hsl := fun W => slice_toM a8 k5 lf c8 (by omega) hcap (fun e => (H8.out.1.nil e).1) W
    have hms := fun W hW1 hW2 => mailsSame_any a3 a8 c3 c8 (F.take 5) (F.take 5) (by rw [ek5]; omega) W hW1 hW2
    rw [decide_eq_true (show F.take 5 = F.take 5 from rfl), ek5] at hms
    have hP1 := HE.out.2.1
    subst hE1
    have hpl : P.length = k5 := by rw [hP1]; exact ek5
    have hpP := H8.out.2.2.1
    rw [hP1] at hpP
    have HMs := Lib.hid (hms w8 hpP (H8.out.1.take 5))
    rw [hpl]
    clear hF hms hpP hpl ek6
    go_upto_region 8 with fail
    go_upto_region 10 with (first
      | (go_at_call 46; refine HMs.out.mono ?_; rintro e wm ⟨rfl, hbm⟩)
      | (go_at_call 40; refine (HAl.out _).mono ?_; rintro e w9 ⟨rfl, hb9⟩))
    have b89 := hbm.trans (hb9.mono hbm.size)
    have HP9 := Lib.hid (H8.out.1.on b89)
    have HS9 := Lib.hid (H8.out.2.1.on b89)
    have hb9w := H8.out.2.2.2.2.2.2.trans (b89.mono (by have := H8.out.2.2.2.2.2.2.size; omega))
    have HR9 := Lib.hid (And.intro (H8.out.2.2.2.1.on b89) (And.intro (H8.out.2.2.2.2.1.trans (b89.mono H8.out.2.2.2.2.1.size)) (H8.out.2.2.2.2.2.1.trans (b89.mono H8.out.2.2.2.2.2.1.size))))
    clear hb9 hbm b89 hsl
    by_cases hG : F.filter (fun m => decide (m.id = id)) = []
    · have hE2 : E2 = 5 := HE.out.2.2.1.trans (if_pos hG)
      have hQ2 : Q = ⟨[], 0, 0⟩ := HE.out.2.2.2.trans (if_neg (by rw [hE2]; decide))
      have HGn := Lib.hid hG
      subst hE2 hQ2
      have hK0 : K = [] := bxs_nil H4.out.2.2.2.1
      subst hK0
      clear hG
      have hwo := withoutRef_any a8 c8 F (by omega) id w9 HP9.out
      simp only [elf] at hwo
      have HWo := Lib.hid hwo
      clear hwo
      go_wp2_with fail
      refine HWo.out.mono ?_
      rintro e w10 ⟨v10, rfl, ho10, hb10⟩
      obtain ⟨a10, c10, rfl, -⟩ := ho10.sl
      have hlen := (left_all F id).2 HGn.out
      rw [elf] at hlen
      rw [hlen]
      have kS10 := HS9.out.on hb10
      have s0 := kS10.cell 0 _ rfl
      have s1 := kS10.cell 1 _ rfl
      have s2 := kS10.cell 2 _ rfl
      have hbw := hb9w.trans (hb10.mono (by have := hb9w.size; omega))
      have hsm := sameRl_any a4 none c4 0 [] [] 0 0 0 0 ⟨by simp, fun m hm => by cases hm⟩ w10 ⟨Sl.nil _ _ _, fun m hm => (by cases hm), Nat.zero_le _, fun e => ⟨(H4.out.2.2.1.nil e).1, rfl⟩⟩ (SB.empty w10)
      rw [decide_eq_true rfl] at hsm
      have HSM := Lib.hid hsm
      have HBW := Lib.hid hbw
      clear hb10 kS10 hbw hsm ho10 hlen HWo
      go_wp2_with (go_at_call 39; refine HSM.out.mono ?_; rintro e w11 ⟨rfl, hb11⟩)
      go_ret
      have hbb := HBW.out.trans (hb11.mono (by have := HBW.out.size; omega))
      exact ⟨rfl, by first | exact hbb | (rw [eR]; exact hbb)⟩
    · have hE2 : E2 = 0 := HE.out.2.2.1.trans (if_neg hG)
      have hQ2 := HE.out.2.2.2.trans (if_pos hE2)
      subst hE2
      have hne : ¬ (F.filter fun m => !decide (m.id = id)).length = lf := fun e => hG ((left_all F id).1 (by rw [e, elf]))
      obtain ⟨G, eG⟩ : ∃ G, (F.filter fun m => !decide (m.id = id)) = G := ⟨_, rfl⟩
      have hGl : G.length ≤ 1000 := by rw [← eG]; have := List.length_filter_le (fun m : Ml => !decide (m.id = id)) F; omega
      have HWo0 := withoutRef_any a8 c8 F (by omega) id w9 HP9.out
      rw [eG] at hne hQ2
      simp only [eG] at HWo0
      have HWo := Lib.hid HWo0
      have HQ := Lib.hid (And.intro True.intro (And.intro hGl hne))
      subst hQ2
      clear hG eG hGl hne HWo0
      rw [elf] at HWo
      go_wp2_with fail
      refine HWo.out.mono ?_
      rintro e w10 ⟨v10, rfl, ho10, hb10⟩
      obtain ⟨a10, c10, rfl, -⟩ := ho10.sl
      obtain ⟨hpm10, -⟩ := OwnE.pm ho10
      obtain ⟨lg, elg⟩ : ∃ lg, G.length = lg := ⟨_, rfl⟩
      have hlgz : ((lg : Int) == (lf : Int)) = false := by have := HQ.out.2.2; simp; omega
      have hlgz2 : ¬ (lg : Int) = (lf : Int) := by have := HQ.out.2.2; omega
      rw [elg]
      have kS10 := HS9.out.on hb10
      have k10 := HR9.out.1.on hb10
      have b210 := HR9.out.2.1.trans (hb10.mono HR9.out.2.1.size)
      have b610 := HR9.out.2.2.trans (hb10.mono HR9.out.2.2.size)
      have s0 := kS10.cell 0 _ rfl
      have s1 := kS10.cell 1 _ rfl
      have s2 := kS10.cell 2 _ rfl
      have y0 := k10.cell 0 _ rfl
      have y1 := k10.cell 1 _ rfl
      have y2 := k10.cell 2 _ rfl
      have hbw := hb9w.trans (hb10.mono (by have := hb9w.size; omega))
      have hWi := fun V (hV : Bz w10 V) => withRef_any a1 c1 M now next HMF.out u a10 c10 G HQ.out.2.1 V ((H2.out.2.1.on b210).on hV.b) (hpm10.on hV.b)
      rw [elg] at hWi
      have HWi := Lib.hid hWi
      have H10 := Lib.hid (And.intro kS10 (And.intro ((H6.out.2.2.1.on b610)) hbw))
      clear kS10 k10 b210 b610 hbw hWi ho10 hpm10 hb10 HWo
      go_upto_region 13 with fail
      go_region_with (first
        | (go_at_call 48; refine (HWi.out _ (by repeat (first | exact Bz.refl _ | refine Bz.dr ?_))).mono ?_; rintro e w11 ⟨a11, c11, K11, rfl, hS11, hK11, hb11⟩; have hz11 : Bz w10 w11 := Bz.st (by repeat (first | exact Bz.refl _ | refine Bz.dr ?_)) hb11; have kS11 := H10.out.1.on hz11.b; have r0 := kS11.cell 0 _ rfl; have r1 := kS11.cell 1 _ rfl; have r2 := kS11.cell 2 _ rfl; have HZ := Lib.hid (And.intro hz11 (And.intro hS11 hK11)); clear hS11 hK11 hb11 hz11 kS11)
        | (go_at_call 39; refine (same_withB a4 a11 c4 c11 K K11 now next HMF.out HM9.out HQ.out.2.1 H4.out.2.2.2.1 HZ.out.2.2 _ (H10.out.2.1.on (Bz.b (by repeat (first | exact HZ.out.1 | refine Bz.dr ?_)))) (HZ.out.2.1.on (Bz.b (by repeat (first | exact Bz.refl _ | refine Bz.dr ?_))))).mono ?_; rintro e w12 ⟨rfl, hb12⟩; have hz12 : Bz w10 w12 := Bz.st (by repeat (first | exact HZ.out.1 | refine Bz.dr ?_)) hb12; have HZ2 := Lib.hid hz12; clear hb12 hz12))
      all_goals (
        go_wp2_with fail
        go_ret
        have hbb := H10.out.2.2.trans ((Bz.dr HZ2.out).b.mono (by have := H10.out.2.2.size; omega))
        have hbc := H10.out.2.2.trans ((HZ2.out).b.mono (by have := H10.out.2.2.size; omega))
        exact ⟨rfl, by first | exact hbb | exact hbc | (rw [eR]; first | exact hbb | exact hbc)⟩)
end Go.Proofs.Ytmmaimopombepaa
