/- relay: Push. -/
import Derived.Test.YtmmaimopombepaaCo
import Derived.Test.YtmmaimopombepaaCp
import Derived.Test.YtmmaimopombepaaQn
namespace Go.Proofs.Ytmmaimopombepaa
open Go.RowKit
set_option maxRecDepth 100000

def pushE (r : Rl) (u : Nat) (b : ByteArray) : Int :=
  if ¬ rightR r then 1 else if 1400 < b.size then 2 else if hasB (mailsR r.bx u) b = true then 7 else if (mailsR r.bx u).length = 16 ∨ (mailsR r.bx u).length = 0 ∧ r.bx.length = 8 then 6 else if r.next = 4611686018427387903 then 1 else 0
def pushR (r : Rl) (u : Nat) (b : ByteArray) : Rl := ⟨withB r.bx u (mailsR r.bx u ++ [⟨r.next, b, r.now⟩]), r.now, r.next + 1⟩
def pushQ (r : Rl) (u : Nat) (b : ByteArray) : Rl := if pushE r u b = 0 then pushR r u b else ⟨[], 0, 0⟩
theorem right_some {r : Rl} (h : rightR r) : ∀ b ∈ r.bx, b.ml ≠ [] := fun b hb e => by
  have := (h.2.2.2.1 b hb).1
  rw [e] at this
  simp at this
theorem filtB_lt {r : Rl} (h : rightR r) (u : Nat) : filtB (fun v _ => decide (v < u)) r.bx = r.bx.filter fun b => decide (b.user < u) := filtB_user (fun v => decide (v < u)) r.bx (right_some h)
theorem filtB_gt {r : Rl} (h : rightR r) (u : Nat) : filtB (fun v _ => decide (u < v)) r.bx = r.bx.filter fun b => decide (u < b.user) := filtB_user (fun v => decide (u < v)) r.bx (right_some h)
theorem withB_some (l : List Bx) (u : Nat) (m : List Ml) (x : Ml) : withB l u (m ++ [x]) = l.filter (fun b => decide (b.user < u)) ++ [⟨u, m ++ [x]⟩] ++ l.filter (fun b => decide (u < b.user)) := by
  unfold withB
  rw [if_neg (by simp)]
theorem filt_le (p : Bx → Bool) (l : List Bx) : (l.filter p).length ≤ l.length := List.length_filter_le _ _
/-- an own row where two blocks of other types turned -/
theorem OwnE.far2 {T : Type} {E : Enc T} {t s s' : TypeId} {w w' : World} {base B B' : Nat} {v : Value} {l : List T} {vs vs' : List Value} (h : OwnE E t w base v l) (hB : BlkV w B s vs) (hst : s ≠ t) (hB' : BlkV w B' s' vs') (hst' : s' ≠ t) (hk : ∀ k, k ≠ B → k ≠ B' → w'.heap[k]? = w.heap[k]?) : OwnE E t w' base v l := by
  refine ⟨h.1, ?_⟩
  rcases h.2 with h2 | ⟨g, cap, cur, e, hg, hc, hr⟩
  · exact Or.inl h2
  · refine Or.inr ⟨g, cap, cur, e, hg, ?_, hr⟩
    rw [hk g (fun h3 => ?_) (fun h3 => ?_)]
    · exact hc
    · subst h3
      unfold BlkV at hB
      rw [hc] at hB
      injection hB with hB
      injection hB with _ h4
      exact hst h4.symm
    · subst h3
      unfold BlkV at hB'
      rw [hc] at hB'
      injection hB' with hB'
      injection hB' with _ h4
      exact hst' h4.symm
theorem push_leaf {w w4 wB wD wE : World} {R u b4 bB bD bE n4 c4 c1 c2 cE : Nat} {a4 a1 a2 aE : Option Addr} {F1 : List Ml} {K1 K2 KK : List BxM} {x0 x1 x2 : Value} {z : List Value}
    (hR4 : BlkV w4 R 56 [x0, x1, x2]) (hZ4 : BlkV w4 (R + 1) 56 z) (hw : Below R w w4) (ho4 : OwnE eMl 82 w4 b4 (.slice a4 n4 c4) F1)
    (hOB : OwnSB wB bB (.slice a1 K1.length c1) K1) (hOD : OwnSB wD bD (.slice a2 K2.length c2) K2) (hzE : Bz w4 wE) (hzB : Bz wB wE) (hzD : Bz wD wE)
    (hOE : OwnE eBx 101 wE bE (.slice aE KK.length cE) KK) (hKK : K1 ++ ([⟨⟨u, F1⟩, a4, c4⟩] ++ K2) = KK) :
    BlkV (wE.setCell ⟨R, 0, none⟩ (.slice aE KK.length cE)) R 56 [.slice aE KK.length cE, x1, x2] ∧
    (∀ V, (wE.setCell ⟨R, 0, none⟩ (.slice aE KK.length cE)).heap.size ≤ V.heap.size → (∀ k, k ≠ R → k ≠ R + 1 → V.heap[k]? = (wE.setCell ⟨R, 0, none⟩ (.slice aE KK.length cE)).heap[k]?) → SB V aE cE KK) ∧
    Below R w (wE.setCell ⟨R, 0, none⟩ (.slice aE KK.length cE)) ∧ BlkV (wE.setCell ⟨R, 0, none⟩ (.slice aE KK.length cE)) (R + 1) 56 z := by
  have hRE := hR4.on hzE.b
  have hZE := hZ4.on hzE.b
  have hRs : R ≤ w4.heap.size := Nat.le_of_lt hR4.lt
  refine ⟨hRE.set 0 _, fun V hs hk => ?_, (hw.trans (hzE.b.mono hRs)).setCell (Nat.le_refl _) _, hZE.far ⟨R, 0, none⟩ (by show R + 1 ≠ R; omega) _⟩
  have hk2 : ∀ k, k ≠ R → k ≠ R + 1 → V.heap[k]? = wE.heap[k]? := fun k h1 h2 => by rw [hk k h1 h2, heap_setCell_other wE ⟨R, 0, none⟩ k _ h1]
  obtain ⟨a', c', e, h1, h2, h3, -⟩ := OwnE.sl (OwnE.far2 hOE hRE (by decide) hZE (by decide) hk2)
  injection e with e1 e2 e3
  subst e1
  subst e3
  refine ⟨h2, fun m hm => ?_, h1, h3⟩
  rw [← hKK] at hm
  rcases List.mem_append.1 hm with hm | hm
  · exact (OwnE.pm (OwnE.far2 (OwnE.on (hOB.mls m hm) hzB.b) hRE (by decide) hZE (by decide) hk2)).1
  · rcases List.mem_append.1 hm with hm | hm
    · rw [List.mem_singleton.1 hm]
      exact (OwnE.pm (OwnE.far2 (OwnE.on ho4 hzE.b) hRE (by decide) hZE (by decide) hk2)).1
    · exact (OwnE.pm (OwnE.far2 (OwnE.on (hOD.mls m hm) hzD.b) hRE (by decide) hZE (by decide) hk2)).1
set_option maxHeartbeats 16000000 in
theorem push_any (a : Option Addr) (c : Nat) (L : List BxM) (now next : Nat) (hn : now < 18446744073709551616) (hf : FewB L) (u : Nat) (b : ByteArray) (w : World) (h : SB w a c L) :
    Calls Try.prog 35 #[.agg #[.slice a L.length c, .int .u64 (now : Int), .int .u64 (next : Int)], .int .u64 (u : Int), .string b] w fun e w' => ∃ (a' : Option Addr) (c' : Nat) (K : List BxM), e = .returned (.tuple #[.agg #[.slice a' K.length c', .int .u64 ((pushQ ⟨bxs L, now, next⟩ u b).now : Int), .int .u64 ((pushQ ⟨bxs L, now, next⟩ u b).next : Int)], .int .i64 (pushE ⟨bxs L, now, next⟩ u b)]) ∧ SB w' a' c' K ∧ bxs K = (pushQ ⟨bxs L, now, next⟩ u b).bx ∧ Below w.heap.size w w' := by
  obtain ⟨len, elen⟩ : ∃ len, L.length = len := ⟨_, rfl⟩
  have hsl := bxs_length L
  rw [elen] at hsl ⊢
  obtain ⟨W0, eW0⟩ : ∃ W0, (w.alloc (.cells #[.slice a len c, .int .u64 (now : Int), .int .u64 (next : Int)] 56)).alloc (.cells #[.slice none 0 0, .int .u64 0, .int .u64 0] 56) = W0 := ⟨_, rfl⟩
  have b0 : Below w.heap.size w W0 := by rw [← eW0]; exact ((Below.refl _ w).alloc (Nat.le_refl _) _).alloc (by simp) _
  obtain ⟨R, eR⟩ : ∃ R, w.heap.size = R := ⟨_, rfl⟩
  have kR : BlkV W0 R 56 [.slice a len c, .int .u64 (now : Int), .int .u64 (next : Int)] := by rw [← eW0, ← eR]; exact (BlkV.fresh w _ _ _ rfl _ rfl).alloc _
  have kZ : BlkV W0 (R + 1) 56 [.slice none 0 0, .int .u64 0, .int .u64 0] := by rw [← eW0, ← eR]; exact BlkV.fresh _ _ _ _ rfl _ (by simp)
  have d0 := kR.cell 0 _ rfl
  have d1 := kR.cell 1 _ rfl
  have d2 := kR.cell 2 _ rfl
  have hR := rightRl_any a c L now next hn hf.2 W0 (h.on b0)
  rw [elen] at hR
  have HR := Lib.hid hR
  have HK := Lib.hid (And.intro (show Below R w W0 by rw [← eR]; exact b0) (And.intro kR (And.intro (h.on b0) hf)))
  have HKZ := Lib.hid kZ
  have HRW := Lib.hid (show R ≤ W0.heap.size by rw [← eR]; exact b0.size)
  obtain ⟨E, eE⟩ : ∃ E, pushE ⟨bxs L, now, next⟩ u b = E := ⟨_, rfl⟩
  obtain ⟨Q, eQ⟩ : ∃ Q, pushQ ⟨bxs L, now, next⟩ u b = Q := ⟨_, rfl⟩
  have hQ : Q = if E = 0 then pushR ⟨bxs L, now, next⟩ u b else ⟨[], 0, 0⟩ := by rw [← eQ, ← eE]; rfl
  have hE : E = pushE ⟨bxs L, now, next⟩ u b := eE.symm
  unfold pushE at hE
  rw [eE, eQ]
  have HE := Lib.hid (And.intro hE hQ)
  clear b0 kR kZ h hf eE eQ hR hQ hE
  go_enter Try.func35, Try.ntmps35
  go_upto_region 1 with fail
  clear eW0
  by_cases hr : rightR ⟨bxs L, now, next⟩
  case neg =>
    rw [decide_eq_false hr] at HR
    have e1 := HE.out.1.trans (if_pos hr)
    have HN := Lib.hid (show E = 1 ∧ Q = ⟨[], 0, 0⟩ from ⟨e1, HE.out.2.trans (if_neg (by rw [e1]; decide))⟩)
    clear hr e1
    go_wp2_with fail
    refine HR.out.mono ?_
    rintro e w1 ⟨rfl, hb1⟩
    have kZ := HKZ.out.on hb1
    have z0 := kZ.cell 0 _ rfl
    have z1 := kZ.cell 1 _ rfl
    have z2 := kZ.cell 2 _ rfl
    have g0 := kZ.frozen 0
    have g1 := kZ.frozen 1
    have g2 := kZ.frozen 2
    have HZZ := Lib.hid (And.intro kZ (HK.out.1.trans (hb1.mono HRW.out)))
    clear kZ
    go_wp2_with fail
    have HF := HZZ.out.1.put3 (.slice none 0 0) (.int .u64 0) (.int .u64 0)
    have hbF := below_put3 HZZ.out.2 (R + 1) (by omega) (.slice none 0 0) (.int .u64 0) (.int .u64 0)
    generalize World.setCell _ _ _ = W9 at HF hbF ⊢
    refine bodyPost_ret (results_ctR (p := 6) (q := 7) (T := 56) (by kernel_rfl) _ _ (R + 1) rfl HF Try.underlying56 rfl (by kernel_rfl) _ rfl) rfl ?_
    rw [HN.out.1, HN.out.2]
    exact ⟨none, 0, [], rfl, SB.empty _, rfl, by first | exact hbF | (rw [eR]; exact hbF)⟩
  rw [decide_eq_true hr] at HR
  have hM := fun W hW => mailsOf_any a c L now next HK.out.2.2.2 hr.2.2.2.2 u W hW
  rw [elen] at hM
  have h1 := HE.out.1.trans (if_neg (fun g => g hr))
  have hml := mailsR_le HK.out.2.2.2.2 u
  have hwB := withB_some (bxs L) u (mailsR (bxs L) u) ⟨next, b, now⟩
  have hlt := filtB_lt hr u
  have hgt := filtB_gt hr u
  obtain ⟨F, eF⟩ : ∃ F, mailsR (bxs L) u = F := ⟨_, rfl⟩
  have hpR : pushR ⟨bxs L, now, next⟩ u b = ⟨withB (bxs L) u (F ++ [⟨next, b, now⟩]), now, next + 1⟩ := by unfold pushR; rw [eF]
  have hQ2 := HE.out.2
  rw [hpR] at hQ2
  simp only [eF] at hM h1 hml hwB
  rw [hwB] at hQ2
  have HMo := Lib.hid hM
  have HE1 := Lib.hid (And.intro h1 (And.intro hQ2 (And.intro hlt (And.intro hgt hr))))
  clear hr h1 hQ2 hM eF hwB hpR hlt hgt HE
  go_wp2_with fail
  refine HR.out.mono ?_
  rintro e w1 ⟨rfl, hb1⟩
  have k1 := HK.out.2.1.on hb1
  have e0 := k1.cell 0 _ rfl
  have e1 := k1.cell 1 _ rfl
  have e2 := k1.cell 2 _ rfl
  have HM1 := Lib.hid (HMo.out w1 (HK.out.2.2.1.on hb1))
  have HB1 := Lib.hid (And.intro hb1 (And.intro (HK.out.1.trans (hb1.mono HRW.out)) (Nat.le_trans HRW.out hb1.size)))
  clear hb1 HR k1 d0 d1 d2 HMo
  go_wp2_with fail
  refine HM1.out.mono ?_
  rintro e w2 ⟨ao, co, rfl, ho, hb2⟩
  have hW02 := HB1.out.1.trans (hb2.mono HB1.out.1.size)
  have HO := Lib.hid (And.intro ho (And.intro hb2 (And.intro hW02 (HB1.out.2.1.trans (hb2.mono HB1.out.2.2)))))
  obtain ⟨lf, elf⟩ : ∃ lf, F.length = lf := ⟨_, rfl⟩
  rw [elf]
  have hlf : (lf : Int) ≤ 1000 := by omega
  clear ho hb2 hW02 HM1 e0 e1 e2
  by_cases c1 : 1400 < b.size
  · have c1z : (b.size : Int) > 1400 := by omega
    have e1 := HE1.out.1.trans (if_pos c1)
    have HN := Lib.hid (show E = 2 ∧ Q = ⟨[], 0, 0⟩ from ⟨e1, HE1.out.2.1.trans (if_neg (by rw [e1]; decide))⟩)
    clear c1 e1
    have kZ := HKZ.out.on HO.out.2.2.1
    have z0 := kZ.cell 0 _ rfl
    have z1 := kZ.cell 1 _ rfl
    have z2 := kZ.cell 2 _ rfl
    have g0 := kZ.frozen 0
    have g1 := kZ.frozen 1
    have g2 := kZ.frozen 2
    have HZZ := Lib.hid (And.intro kZ (HO.out.2.2.2))
    clear kZ
    go_wp2_with fail
    have HF := HZZ.out.1.put3 (.slice none 0 0) (.int .u64 0) (.int .u64 0)
    have hbF := below_put3 HZZ.out.2 (R + 1) (by omega) (.slice none 0 0) (.int .u64 0) (.int .u64 0)
    generalize World.setCell _ _ _ = W9 at HF hbF ⊢
    refine bodyPost_ret (results_ctR (p := 6) (q := 7) (T := 56) (by kernel_rfl) _ _ (R + 1) rfl HF Try.underlying56 rfl (by kernel_rfl) _ rfl) rfl ?_
    rw [HN.out.1, HN.out.2]
    exact ⟨none, 0, [], rfl, SB.empty _, rfl, by first | exact hbF | (rw [eR]; exact hbF)⟩
  have c1z : ¬ (b.size : Int) > 1400 := by omega
  have h2 := HE1.out.1.trans (if_neg c1)
  obtain ⟨hpo, -⟩ := OwnE.pm HO.out.1
  have hH := hasBytes_any ao co F hml b w2 hpo
  rw [elf] at hH
  have HH := Lib.hid hH
  obtain ⟨hb, ehb⟩ : ∃ hb, hasB F b = hb := ⟨_, rfl⟩
  rw [ehb] at HH h2
  have HE2 := Lib.hid h2
  clear h2 c1 hpo hH ehb
  cases hb
  case true =>
    have e1 := HE2.out.trans (if_pos rfl)
    have HN := Lib.hid (show E = 7 ∧ Q = ⟨[], 0, 0⟩ from ⟨e1, HE1.out.2.1.trans (if_neg (by rw [e1]; decide))⟩)
    clear e1
    go_wp2_with fail
    refine HH.out.mono ?_
    rintro e w3 ⟨rfl, hb3⟩
    have hW03 := HO.out.2.2.1.trans (hb3.mono HO.out.2.2.1.size)
    have hRw3 := HO.out.2.2.2.trans (hb3.mono (by have := HO.out.2.1.size; have := HB1.out.2.2; omega))
    have kZ := HKZ.out.on hW03
    have z0 := kZ.cell 0 _ rfl
    have z1 := kZ.cell 1 _ rfl
    have z2 := kZ.cell 2 _ rfl
    have g0 := kZ.frozen 0
    have g1 := kZ.frozen 1
    have g2 := kZ.frozen 2
    have HZZ := Lib.hid (And.intro kZ (hRw3))
    clear kZ
    go_wp2_with fail
    have HF := HZZ.out.1.put3 (.slice none 0 0) (.int .u64 0) (.int .u64 0)
    have hbF := below_put3 HZZ.out.2 (R + 1) (by omega) (.slice none 0 0) (.int .u64 0) (.int .u64 0)
    generalize World.setCell _ _ _ = W9 at HF hbF ⊢
    refine bodyPost_ret (results_ctR (p := 6) (q := 7) (T := 56) (by kernel_rfl) _ _ (R + 1) rfl HF Try.underlying56 rfl (by kernel_rfl) _ rfl) rfl ?_
    rw [HN.out.1, HN.out.2]
    exact ⟨none, 0, [], rfl, SB.empty _, rfl, by first | exact hbF | (rw [eR]; exact hbF)⟩
  have h3 := HE2.out.trans (if_neg (by decide))
  rw [elf] at h3
  have hsl2 : (bxs L).length = len := hsl
  simp only [hsl2] at h3
  have HE3 := Lib.hid h3
  clear h3 HE2
  go_wp2_with fail
  refine HH.out.mono ?_
  rintro e w3 ⟨rfl, hb3⟩
  have hW03 := HO.out.2.2.1.trans (hb3.mono HO.out.2.2.1.size)
  have hRw3 := HO.out.2.2.2.trans (hb3.mono (by have := HO.out.2.1.size; have := HB1.out.2.2; omega))
  have hW13 := HO.out.2.1.trans (hb3.mono HO.out.2.1.size)
  have k3 := HK.out.2.1.on hW03
  have e0 := k3.cell 0 _ rfl
  have e1 := k3.cell 1 _ rfl
  have e2 := k3.cell 2 _ rfl
  have HB3 := Lib.hid (And.intro hW03 (And.intro hRw3 (And.intro hW13 (And.intro (show OwnE eMl 82 w3 w1.heap.size (.slice ao lf co) F from by rw [← elf]; exact HO.out.1.on hb3) k3))))
  clear hb3 hW03 hRw3 hW13 k3 HH
  obtain ⟨fl, efl⟩ : ∃ fl : Bool, decide (lf = 16 ∨ lf = 0 ∧ len = 8) = fl := ⟨_, rfl⟩
  have HFL := Lib.hid efl
  clear efl
  go_upto_region 8 with fail
  go_cut [26] from 27 to 40 (fun v wx => v = .bool fl ∧ wx = w3)
  case first =>
    have hfl := HFL.out
    by_cases c2 : lf = 16
    · rw [decide_eq_true (Or.inl c2)] at hfl
      have q16 : ((lf : Int) == 16) = true := by rw [c2]; rfl
      have q16b : (lf : Int) = 16 := by omega
      subst hfl
      clear c2
      go_wp2_with fail
      go_meet
      exact ⟨rfl, rfl⟩
    · have q16 : ((lf : Int) == 16) = false := by simp; omega
      have q16b : ¬ (lf : Int) = 16 := by omega
      by_cases c3 : lf = 0
      · have q0 : ((lf : Int) == 0) = true := by rw [c3]; rfl
        have q0b : (lf : Int) = 0 := by omega
        by_cases c4 : len = 8
        · rw [decide_eq_true (Or.inr ⟨c3, c4⟩)] at hfl
          have q8 : ((len : Int) == 8) = true := by rw [c4]; rfl
          have q8b : (len : Int) = 8 := by omega
          subst hfl
          clear c2 c3 c4
          go_wp2_with fail
          go_meet
          exact ⟨rfl, rfl⟩
        · rw [decide_eq_false (show ¬ (lf = 16 ∨ lf = 0 ∧ len = 8) by omega)] at hfl
          have q8 : ((len : Int) == 8) = false := by simp; omega
          have q8b : ¬ (len : Int) = 8 := by omega
          subst hfl
          clear c2 c3 c4
          go_wp2_with fail
          go_meet
          exact ⟨rfl, rfl⟩
      · rw [decide_eq_false (show ¬ (lf = 16 ∨ lf = 0 ∧ len = 8) by omega)] at hfl
        have q0 : ((lf : Int) == 0) = false := by simp; omega
        have q0b : ¬ (lf : Int) = 0 := by omega
        subst hfl
        clear c2 c3
        go_wp2_with fail
        go_meet
        exact ⟨rfl, rfl⟩
  case rest =>
    obtain ⟨rfl, rfl⟩ := hcut
    cases fl
    case true =>
      have e3 := HE3.out.trans (if_pos (of_decide_eq_true HFL.out))
      have HN := Lib.hid (show E = 6 ∧ Q = ⟨[], 0, 0⟩ from ⟨e3, HE1.out.2.1.trans (if_neg (by rw [e3]; decide))⟩)
      clear e3
      have kZ := HKZ.out.on HB3.out.1
      have z0 := kZ.cell 0 _ rfl
      have z1 := kZ.cell 1 _ rfl
      have z2 := kZ.cell 2 _ rfl
      have g0 := kZ.frozen 0
      have g1 := kZ.frozen 1
      have g2 := kZ.frozen 2
      have HZZ := Lib.hid (And.intro kZ (HB3.out.2.1))
      clear kZ
      go_wp2_with fail
      have HF := HZZ.out.1.put3 (.slice none 0 0) (.int .u64 0) (.int .u64 0)
      have hbF := below_put3 HZZ.out.2 (R + 1) (by omega) (.slice none 0 0) (.int .u64 0) (.int .u64 0)
      generalize World.setCell _ _ _ = W9 at HF hbF ⊢
      refine bodyPost_ret (results_ctR (p := 6) (q := 7) (T := 56) (by kernel_rfl) _ _ (R + 1) rfl HF Try.underlying56 rfl (by kernel_rfl) _ rfl) rfl ?_
      rw [HN.out.1, HN.out.2]
      exact ⟨none, 0, [], rfl, SB.empty _, rfl, by first | exact hbF | (rw [eR]; exact hbF)⟩
    have h4 := HE3.out.trans (if_neg (of_decide_eq_false HFL.out))
    by_cases c5 : next = 4611686018427387903
    · have q5 : ((next : Int) == 4611686018427387903) = true := by rw [c5]; rfl
      have q5b : (next : Int) = 4611686018427387903 := by omega
      have e3 := h4.trans (if_pos c5)
      have HN := Lib.hid (show E = 1 ∧ Q = ⟨[], 0, 0⟩ from ⟨e3, HE1.out.2.1.trans (if_neg (by rw [e3]; decide))⟩)
      clear c5 e3 h4
      have kZ := HKZ.out.on HB3.out.1
      have z0 := kZ.cell 0 _ rfl
      have z1 := kZ.cell 1 _ rfl
      have z2 := kZ.cell 2 _ rfl
      have g0 := kZ.frozen 0
      have g1 := kZ.frozen 1
      have g2 := kZ.frozen 2
      have HZZ := Lib.hid (And.intro kZ (HB3.out.2.1))
      clear kZ
      go_wp2_with fail
      have HF := HZZ.out.1.put3 (.slice none 0 0) (.int .u64 0) (.int .u64 0)
      have hbF := below_put3 HZZ.out.2 (R + 1) (by omega) (.slice none 0 0) (.int .u64 0) (.int .u64 0)
      generalize World.setCell _ _ _ = W9 at HF hbF ⊢
      refine bodyPost_ret (results_ctR (p := 6) (q := 7) (T := 56) (by kernel_rfl) _ _ (R + 1) rfl HF Try.underlying56 rfl (by kernel_rfl) _ rfl) rfl ?_
      rw [HN.out.1, HN.out.2]
      exact ⟨none, 0, [], rfl, SB.empty _, rfl, by first | exact hbF | (rw [eR]; exact hbF)⟩
    have q5 : ((next : Int) == 4611686018427387903) = false := by simp; omega
    have q5b : ¬ (next : Int) = 4611686018427387903 := by omega
    have e3 := h4.trans (if_neg c5)
    have HN := Lib.hid (And.intro e3 (HE1.out.2.1.trans (if_pos e3)))
    clear c5 e3 h4 HE3 HFL
    have HQm := Lib.hid (one_ml wc ⟨next, b, now⟩ wc.heap.size rfl)
    go_upto_region 13 with (at_builtin; refine append_E eMl 65 82 _ 32 Try.underlying65 infoMl rfl rfl _ _ rfl w1.heap.size _ _ _ _ _ [⟨next, b, now⟩] rfl rfl rfl (HB3.out.2.2.2.1.alloc _) HQm.out (fun e => by cases e) (by unfold maxLen; simp only [List.length_singleton]; omega) (by simp only [List.length_singleton]; omega) (by have := HB3.out.2.2.1.size; simp; omega) ?_; intro v' w4 ho4 hg4; have HO4 := Lib.hid ho4; have HG4 := Lib.hid (OwnE.below (HB3.out.2.2.2.1.alloc _) (HB3.out.2.2.1.alloc HB3.out.2.2.1.size _) (by have := HB3.out.2.2.1.size; simp; omega) hg4); clear ho4 hg4)
    obtain ⟨F1, eF1⟩ : ∃ F1, F ++ [(⟨next, b, now⟩ : Ml)] = F1 := ⟨_, rfl⟩
    have ho4 := HO4.out
    rw [eF1] at ho4
    obtain ⟨a4, c4, e4, -⟩ := ho4.sl
    subst e4
    have hQ5 := HN.out.2
    rw [eF1] at hQ5
    obtain ⟨n4, en4⟩ : ∃ n4, F1.length = n4 := ⟨_, rfl⟩
    rw [en4] at ho4 ⊢
    have hW04 := HB1.out.1.trans (HG4.out.mono HB1.out.1.size)
    have hRw4 := HB1.out.2.1.trans (HG4.out.mono HB1.out.2.2)
    have k4 := HK.out.2.1.on hW04
    have kz4 := HKZ.out.on hW04
    have hRs := k4.lt
    have x0 := k4.cell 0 _ rfl
    have hFi := fun (ac : Option Addr) (cc : Nat) (C : List Flt) (V : World) (hS : SB V a c L) (hC : FS V ac cc C) => filtered_any a c L HK.out.2.2.2 ac cc C V hS hC
    simp only [elen] at hFi
    have HFi := Lib.hid hFi
    have H4 := Lib.hid (And.intro k4 (And.intro kz4 (And.intro (HK.out.2.2.1.on hW04) (And.intro hRw4 (And.intro ho4 (And.intro hQ5 (And.intro en4 eF1)))))))
    have HL10 := Lib.hid (show len ≤ 1000 by rw [← elen]; exact HK.out.2.2.2.1)
    clear e0 e1 e2 hW04 hRw4 k4 kz4 ho4 hQ5 en4 hFi HO4 eF1 HQm HB3
    go_cut [] from 56 to 74 (fun wx => ∃ (a' : Option Addr) (c' : Nat) (K : List BxM), BlkV wx R 56 [.slice a' K.length c', .int .u64 (now : Int), .int .u64 (next : Int)] ∧ (∀ V, wx.heap.size ≤ V.heap.size → (∀ k, k ≠ R → k ≠ R + 1 → V.heap[k]? = wx.heap[k]?) → SB V a' c' K) ∧ bxs K = (bxs L).filter (fun b => decide (b.user < u)) ++ [⟨u, F1⟩] ++ (bxs L).filter (fun b => decide (u < b.user)) ∧ Below R w wx ∧ BlkV wx (R + 1) 56 [.slice none 0 0, .int .u64 0, .int .u64 0])
    case first =>
      refine region_K 19 (fun V => Bz w4 V) (by kernel_rfl) ?_
      refine K_pure (i := 0) (v := Value.pointer (some ⟨R, 0, none⟩)) rfl (by kernel_rfl) (by kernel_rfl) (by kernel_rfl) (by kernel_rfl) (fun _ _ _ h => h) (Or.inl ⟨rfl, fun _ _ => by first | (go_simp; done) | kernel_rfl⟩) (by repeat (first | exact Bz.refl _ | refine Bz.st ?_ hbE | refine Bz.st ?_ hbD | refine Bz.st ?_ hbC | refine Bz.st ?_ hbB | refine Bz.st ?_ hbA | refine Bz.al ?_ _ | refine Bz.dr ?_)) ?_
      try simp only [Act.put, List.getElem_toArray, List.getElem_cons_zero, List.setIfInBounds_toArray, List.set_cons_zero, List.set_cons_succ]
      refine K_pure (i := 2) (v := Value.int .u64 (u : Int)) rfl (by kernel_rfl) (by kernel_rfl) (by kernel_rfl) (by kernel_rfl) (fun _ _ _ h => h) (Or.inl ⟨rfl, fun _ _ => by first | (go_simp; done) | kernel_rfl⟩) (by repeat (first | exact Bz.refl _ | refine Bz.st ?_ hbE | refine Bz.st ?_ hbD | refine Bz.st ?_ hbC | refine Bz.st ?_ hbB | refine Bz.st ?_ hbA | refine Bz.al ?_ _ | refine Bz.dr ?_)) ?_
      try simp only [Act.put, List.getElem_toArray, List.getElem_cons_zero, List.getElem_cons_succ, List.setIfInBounds_toArray, List.set_cons_zero, List.set_cons_succ]
      refine K_pure (i := 6) (v := Value.int .u64 (u : Int)) rfl (by kernel_rfl) (by kernel_rfl) (by kernel_rfl) (by kernel_rfl) (fun _ _ _ h => h) (Or.inl ⟨rfl, fun _ _ => by first | (go_simp; done) | kernel_rfl⟩) (by repeat (first | exact Bz.refl _ | refine Bz.st ?_ hbE | refine Bz.st ?_ hbD | refine Bz.st ?_ hbC | refine Bz.st ?_ hbB | refine Bz.st ?_ hbA | refine Bz.al ?_ _ | refine Bz.dr ?_)) ?_
      try simp only [Act.put, List.getElem_toArray, List.getElem_cons_zero, List.getElem_cons_succ, List.setIfInBounds_toArray, List.set_cons_zero, List.set_cons_succ]
      refine K_pure (i := 7) (v := Value.slice a4 n4 c4) rfl (by kernel_rfl) (by kernel_rfl) (by kernel_rfl) (by kernel_rfl) (fun _ _ _ h => h) (Or.inl ⟨rfl, fun _ _ => by first | (go_simp; done) | kernel_rfl⟩) (by repeat (first | exact Bz.refl _ | refine Bz.st ?_ hbE | refine Bz.st ?_ hbD | refine Bz.st ?_ hbC | refine Bz.st ?_ hbB | refine Bz.st ?_ hbA | refine Bz.al ?_ _ | refine Bz.dr ?_)) ?_
      try simp only [Act.put, List.getElem_toArray, List.getElem_cons_zero, List.getElem_cons_succ, List.setIfInBounds_toArray, List.set_cons_zero, List.set_cons_succ]
      refine K_pure (i := 8) (v := Value.agg #[.int .u64 (u : Int), .slice a4 n4 c4]) rfl (by kernel_rfl) (by kernel_rfl) (by kernel_rfl) (by kernel_rfl) (fun _ _ _ h => h) (Or.inl ⟨rfl, fun _ _ => by first | (go_simp; done) | kernel_rfl⟩) (by repeat (first | exact Bz.refl _ | refine Bz.st ?_ hbE | refine Bz.st ?_ hbD | refine Bz.st ?_ hbC | refine Bz.st ?_ hbB | refine Bz.st ?_ hbA | refine Bz.al ?_ _ | refine Bz.dr ?_)) ?_
      try simp only [Act.put, List.getElem_toArray, List.getElem_cons_zero, List.getElem_cons_succ, List.setIfInBounds_toArray, List.set_cons_zero, List.set_cons_succ]
      refine K_pure (i := 10) (v := Value.pointer (some ⟨R, 0, none⟩)) rfl (by kernel_rfl) (by kernel_rfl) (by kernel_rfl) (by kernel_rfl) (fun _ _ _ h => h) (Or.inl ⟨rfl, fun _ _ => by first | (go_simp; done) | kernel_rfl⟩) (by repeat (first | exact Bz.refl _ | refine Bz.st ?_ hbE | refine Bz.st ?_ hbD | refine Bz.st ?_ hbC | refine Bz.st ?_ hbB | refine Bz.st ?_ hbA | refine Bz.al ?_ _ | refine Bz.dr ?_)) ?_
      try simp only [Act.put, List.getElem_toArray, List.getElem_cons_zero, List.getElem_cons_succ, List.setIfInBounds_toArray, List.set_cons_zero, List.set_cons_succ]
      refine K_pure (i := 12) (v := Value.int .u64 (u : Int)) rfl (by kernel_rfl) (by kernel_rfl) (by kernel_rfl) (by kernel_rfl) (fun _ _ _ h => h) (Or.inl ⟨rfl, fun _ _ => by first | (go_simp; done) | kernel_rfl⟩) (by repeat (first | exact Bz.refl _ | refine Bz.st ?_ hbE | refine Bz.st ?_ hbD | refine Bz.st ?_ hbC | refine Bz.st ?_ hbB | refine Bz.st ?_ hbA | refine Bz.al ?_ _ | refine Bz.dr ?_)) ?_
      try simp only [Act.put, List.getElem_toArray, List.getElem_cons_zero, List.getElem_cons_succ, List.setIfInBounds_toArray, List.set_cons_zero, List.set_cons_succ]
      refine K_take (i := 1) (v := Value.slice a len c) rfl (by kernel_rfl) (by kernel_rfl) (by kernel_rfl) (by kernel_rfl) (by kernel_rfl) (fun _ _ _ h => h) (Or.inl ⟨rfl, fun W hW => by have hc := (H4.out.1.on hW.b).cell 0 _ rfl; go_simp⟩) (by repeat (first | exact Bz.refl _ | refine Bz.st ?_ hbE | refine Bz.st ?_ hbD | refine Bz.st ?_ hbC | refine Bz.st ?_ hbB | refine Bz.st ?_ hbA | refine Bz.al ?_ _ | refine Bz.dr ?_)) ?_
      try simp only [Act.put, List.getElem_toArray, List.getElem_cons_zero, List.getElem_cons_succ, List.setIfInBounds_toArray, List.set_cons_zero, List.set_cons_succ]
      refine K_take (i := 11) (v := Value.slice a len c) rfl (by kernel_rfl) (by kernel_rfl) (by kernel_rfl) (by kernel_rfl) (by kernel_rfl) (fun _ _ _ h => h) (Or.inl ⟨rfl, fun W hW => by have hc := (H4.out.1.on hW.b).cell 0 _ rfl; go_simp⟩) (by repeat (first | exact Bz.refl _ | refine Bz.st ?_ hbE | refine Bz.st ?_ hbD | refine Bz.st ?_ hbC | refine Bz.st ?_ hbB | refine Bz.st ?_ hbA | refine Bz.al ?_ _ | refine Bz.dr ?_)) ?_
      try simp only [Act.put, List.getElem_toArray, List.getElem_cons_zero, List.getElem_cons_succ, List.setIfInBounds_toArray, List.set_cons_zero, List.set_cons_succ]
      refine K_ready (rs := [3, 9]) (by kernel_rfl) (by decide) (ReadyK.cons rfl (fun K hK => ?_) (ReadyK.cons rfl (fun K hK => ?_) ReadyK.nil))
      · skip
        go_simp
        refine (below_any u _).mono ?_
        rintro e wA ⟨B1, rfl, hFA, hbA⟩
        refine hK _ _ (fun _ => (by repeat (first | exact Bz.refl _ | refine Bz.st ?_ hbE | refine Bz.st ?_ hbD | refine Bz.st ?_ hbC | refine Bz.st ?_ hbB | refine Bz.st ?_ hbA | refine Bz.al ?_ _ | refine Bz.dr ?_))) ?_
        clear hK K
        try simp only [Act.put, List.getElem_toArray, List.getElem_cons_zero, List.getElem_cons_succ, List.setIfInBounds_toArray, List.set_cons_zero, List.set_cons_succ]
        refine K_ready (rs := [4, 9]) (by kernel_rfl) (by decide) (ReadyK.cons rfl (fun K hK => ?_) (ReadyK.cons rfl (fun K hK => ?_) ReadyK.nil))
        · skip
          go_simp
          refine hK _ _ (fun _ => (by repeat (first | exact Bz.refl _ | refine Bz.st ?_ hbE | refine Bz.st ?_ hbD | refine Bz.st ?_ hbC | refine Bz.st ?_ hbB | refine Bz.st ?_ hbA | refine Bz.al ?_ _ | refine Bz.dr ?_))) ?_
          clear hK K
          try simp only [Act.put, List.getElem_toArray, List.getElem_cons_zero, List.getElem_cons_succ, List.setIfInBounds_toArray, List.set_cons_zero, List.set_cons_succ]
          refine K_ready (rs := [5, 9]) (by kernel_rfl) (by decide) (ReadyK.cons rfl (fun K hK => ?_) (ReadyK.cons rfl (fun K hK => ?_) ReadyK.nil))
          · skip
            go_simp
            refine (HFi.out (some ⟨_, 0, none⟩) 1 [⟨97, B1, fun v _ => decide (v < u)⟩] _ (H4.out.2.2.1.on (show Bz w4 _ from (by repeat (first | exact Bz.refl _ | refine Bz.st ?_ hbE | refine Bz.st ?_ hbD | refine Bz.st ?_ hbC | refine Bz.st ?_ hbB | refine Bz.st ?_ hbA | refine Bz.al ?_ _ | refine Bz.dr ?_))).b) (by first | exact FS.oneN (IsF.on hFA (show Bz wA _ from (by repeat (first | exact Bz.refl _ | refine Bz.st ?_ hbE | refine Bz.st ?_ hbD | refine Bz.st ?_ hbC | refine Bz.st ?_ hbB | refine Bz.st ?_ hbA | refine Bz.al ?_ _ | refine Bz.dr ?_))).b) _ (by simp) | exact FS.al (FS.oneN (IsF.on hFA (show Bz wA _ from (by repeat (first | exact Bz.refl _ | refine Bz.st ?_ hbE | refine Bz.st ?_ hbD | refine Bz.st ?_ hbC | refine Bz.st ?_ hbB | refine Bz.st ?_ hbA | refine Bz.al ?_ _ | refine Bz.dr ?_))).b) _ (by simp)) _)).mono ?_
            rintro e wB ⟨vB, K1, rfl, hOB, hKB, hbB⟩
            obtain ⟨a1, c1, eB, hSB, -⟩ := hOB.sb
            subst eB
            have HR1 := Lib.hid (show RwAt eBx wB ⟨a1, c1, K1⟩ from ⟨hSB.row, fun e => (hSB.nil e).2⟩)
            have HOB := Lib.hid hOB
            rw [allP_one] at hKB
            have hKB2 := hKB.trans HE1.out.2.2.1
            have HKB := Lib.hid hKB2
            have HX1 := Lib.hid (show K1.length ≤ 1000 by rw [← bxs_length K1, hKB2]; have := filt_le (fun b => decide (b.user < u)) (bxs L); have := HL10.out; omega)
            clear hOB hKB hKB2 hSB
            refine hK _ _ (fun _ => (by repeat (first | exact Bz.refl _ | refine Bz.st ?_ hbE | refine Bz.st ?_ hbD | refine Bz.st ?_ hbC | refine Bz.st ?_ hbB | refine Bz.st ?_ hbA | refine Bz.al ?_ _ | refine Bz.dr ?_))) ?_
            clear hK K
            try simp only [Act.put, List.getElem_toArray, List.getElem_cons_zero, List.getElem_cons_succ, List.setIfInBounds_toArray, List.set_cons_zero, List.set_cons_succ]
            refine K_ready (rs := [9, 13]) (by kernel_rfl) (by decide) (ReadyK.cons rfl (fun K hK => ?_) (ReadyK.cons rfl (fun K hK => ?_) ReadyK.nil))
            · skip
              go_simp
              refine hK _ _ (fun _ => (by repeat (first | exact Bz.refl _ | refine Bz.st ?_ hbE | refine Bz.st ?_ hbD | refine Bz.st ?_ hbC | refine Bz.st ?_ hbB | refine Bz.st ?_ hbA | refine Bz.al ?_ _ | refine Bz.dr ?_))) ?_
              clear hK K
              try simp only [Act.put, List.getElem_toArray, List.getElem_cons_zero, List.getElem_cons_succ, List.setIfInBounds_toArray, List.set_cons_zero, List.set_cons_succ]
              refine K_ready (rs := [13]) (by kernel_rfl) (by decide) (ReadyK.cons rfl (fun K hK => ?_) ReadyK.nil)
              go_simp
              refine (above_any u _).mono ?_
              rintro e wC ⟨B2, rfl, hFC, hbC⟩
              refine hK _ _ (fun _ => (by repeat (first | exact Bz.refl _ | refine Bz.st ?_ hbE | refine Bz.st ?_ hbD | refine Bz.st ?_ hbC | refine Bz.st ?_ hbB | refine Bz.st ?_ hbA | refine Bz.al ?_ _ | refine Bz.dr ?_))) ?_
              clear hK K
              try simp only [Act.put, List.getElem_toArray, List.getElem_cons_zero, List.getElem_cons_succ, List.setIfInBounds_toArray, List.set_cons_zero, List.set_cons_succ]
              refine K_ready (rs := [14]) (by kernel_rfl) (by decide) (ReadyK.cons rfl (fun K hK => ?_) ReadyK.nil)
              go_simp
              refine hK _ _ (fun _ => (by repeat (first | exact Bz.refl _ | refine Bz.st ?_ hbE | refine Bz.st ?_ hbD | refine Bz.st ?_ hbC | refine Bz.st ?_ hbB | refine Bz.st ?_ hbA | refine Bz.al ?_ _ | refine Bz.dr ?_))) ?_
              clear hK K
              try simp only [Act.put, List.getElem_toArray, List.getElem_cons_zero, List.getElem_cons_succ, List.setIfInBounds_toArray, List.set_cons_zero, List.set_cons_succ]
              refine K_ready (rs := [15]) (by kernel_rfl) (by decide) (ReadyK.cons rfl (fun K hK => ?_) ReadyK.nil)
              go_simp
              refine (HFi.out (some ⟨_, 0, none⟩) 1 [⟨98, B2, fun v _ => decide (u < v)⟩] _ (H4.out.2.2.1.on (show Bz w4 _ from (by repeat (first | exact Bz.refl _ | refine Bz.st ?_ hbE | refine Bz.st ?_ hbD | refine Bz.st ?_ hbC | refine Bz.st ?_ hbB | refine Bz.st ?_ hbA | refine Bz.al ?_ _ | refine Bz.dr ?_))).b) (by first | exact FS.oneN (IsF.on hFC (show Bz wC _ from (by repeat (first | exact Bz.refl _ | refine Bz.st ?_ hbE | refine Bz.st ?_ hbD | refine Bz.st ?_ hbC | refine Bz.st ?_ hbB | refine Bz.st ?_ hbA | refine Bz.al ?_ _ | refine Bz.dr ?_))).b) _ (by simp) | exact FS.al (FS.oneN (IsF.on hFC (show Bz wC _ from (by repeat (first | exact Bz.refl _ | refine Bz.st ?_ hbE | refine Bz.st ?_ hbD | refine Bz.st ?_ hbC | refine Bz.st ?_ hbB | refine Bz.st ?_ hbA | refine Bz.al ?_ _ | refine Bz.dr ?_))).b) _ (by simp)) _)).mono ?_
              rintro e wD ⟨vD, K2, rfl, hOD, hKD, hbD⟩
              obtain ⟨a2, c2, eD, hSD, -⟩ := hOD.sb
              subst eD
              have HR2 := Lib.hid (show RwAt eBx wD ⟨a2, c2, K2⟩ from ⟨hSD.row, fun e => (hSD.nil e).2⟩)
              have HOD := Lib.hid hOD
              rw [allP_one] at hKD
              have hKD2 := hKD.trans HE1.out.2.2.2.1
              have HKD := Lib.hid hKD2
              have HX2 := Lib.hid (show K2.length ≤ 1000 by rw [← bxs_length K2, hKD2]; have := filt_le (fun b => decide (u < b.user)) (bxs L); have := HL10.out; omega)
              clear hOD hKD hKD2 hSD
              refine hK _ _ (fun _ => (by repeat (first | exact Bz.refl _ | refine Bz.st ?_ hbE | refine Bz.st ?_ hbD | refine Bz.st ?_ hbC | refine Bz.st ?_ hbB | refine Bz.st ?_ hbA | refine Bz.al ?_ _ | refine Bz.dr ?_))) ?_
              clear hK K
              try simp only [Act.put, List.getElem_toArray, List.getElem_cons_zero, List.getElem_cons_succ, List.setIfInBounds_toArray, List.set_cons_zero, List.set_cons_succ]
              refine K_ready (rs := [16]) (by kernel_rfl) (by decide) (ReadyK.cons rfl (fun K hK => ?_) ReadyK.nil)
              go_simp
              refine hK _ _ (fun _ => (by repeat (first | exact Bz.refl _ | refine Bz.st ?_ hbE | refine Bz.st ?_ hbD | refine Bz.st ?_ hbC | refine Bz.st ?_ hbB | refine Bz.st ?_ hbA | refine Bz.al ?_ _ | refine Bz.dr ?_))) ?_
              clear hK K
              try simp only [Act.put, List.getElem_toArray, List.getElem_cons_zero, List.getElem_cons_succ, List.setIfInBounds_toArray, List.set_cons_zero, List.set_cons_succ]
              refine K_ready (rs := [17]) (by kernel_rfl) (by decide) (ReadyK.cons rfl (fun K hK => ?_) ReadyK.nil)
              go_simp
              refine (concatB_any [⟨a1, c1, K1⟩, ⟨some ⟨_, 0, none⟩, 1, [⟨⟨u, F1⟩, a4, c4⟩]⟩, ⟨a2, c2, K2⟩] (by simp) (by have := HX1.out; have := HX2.out; unfold joinR; simp; omega) _ _ (RwsAt.three _ _ _ _ (RwAt.on HR1.out (show Bz wB _ from (by repeat (first | exact Bz.refl _ | refine Bz.st ?_ hbE | refine Bz.st ?_ hbD | refine Bz.st ?_ hbC | refine Bz.st ?_ hbB | refine Bz.st ?_ hbA | refine Bz.al ?_ _ | refine Bz.dr ?_))).b) ⟨blk_bx (by repeat (first | exact BlkV.fresh _ _ _ _ rfl _ (by simp) | refine BlkV.on ?_ hbD | refine BlkV.on ?_ hbC | refine BlkV.on ?_ hbB | refine BlkV.on ?_ hbA | refine BlkV.dr ?_ | refine BlkV.alloc ?_ _)) H4.out.2.2.2.2.2.2.1.symm, fun e => by cases e⟩ (RwAt.on HR2.out (show Bz wD _ from (by repeat (first | exact Bz.refl _ | refine Bz.st ?_ hbE | refine Bz.st ?_ hbD | refine Bz.st ?_ hbC | refine Bz.st ?_ hbB | refine Bz.st ?_ hbA | refine Bz.al ?_ _ | refine Bz.dr ?_))).b) _ (by simp))).mono ?_
              rintro e wE ⟨vE, rfl, hOE, hbE⟩
              unfold joinR at hOE
              simp only [List.flatMap_cons, List.flatMap_nil, List.append_nil] at hOE
              obtain ⟨KK, eKK⟩ : ∃ KK, K1 ++ ([(⟨⟨u, F1⟩, a4, c4⟩ : BxM)] ++ K2) = KK := ⟨_, rfl⟩
              rw [eKK] at hOE
              have HKK := Lib.hid eKK
              clear eKK
              obtain ⟨aE, cE, eE, -⟩ := hOE.sl
              subst eE
              have hzE : Bz w4 wE := (by repeat (first | exact Bz.refl _ | refine Bz.st ?_ hbE | refine Bz.st ?_ hbD | refine Bz.st ?_ hbC | refine Bz.st ?_ hbB | refine Bz.st ?_ hbA | refine Bz.al ?_ _ | refine Bz.dr ?_))
              have hzB : Bz wB wE := (by repeat (first | exact Bz.refl _ | refine Bz.st ?_ hbE | refine Bz.st ?_ hbD | refine Bz.st ?_ hbC | refine Bz.st ?_ hbB | refine Bz.st ?_ hbA | refine Bz.al ?_ _ | refine Bz.dr ?_))
              have hzD : Bz wD wE := (by repeat (first | exact Bz.refl _ | refine Bz.st ?_ hbE | refine Bz.st ?_ hbD | refine Bz.st ?_ hbC | refine Bz.st ?_ hbB | refine Bz.st ?_ hbA | refine Bz.al ?_ _ | refine Bz.dr ?_))
              have hsE := (H4.out.1.on hzE.b).cell 0 _ rfl
              have fE := (H4.out.1.on hzE.b).frozen 0
              have hleaf := push_leaf H4.out.1 H4.out.2.1 H4.out.2.2.2.1 H4.out.2.2.2.2.1 HOB.out HOD.out hzE hzB hzD hOE HKK.out
              have HLF := Lib.hid hleaf
              clear hleaf hOE
              refine hK _ _ (fun _ => (by repeat (first | exact Bz.refl _ | refine Bz.st ?_ hbE | refine Bz.st ?_ hbD | refine Bz.st ?_ hbC | refine Bz.st ?_ hbB | refine Bz.st ?_ hbA | refine Bz.al ?_ _ | refine Bz.dr ?_))) ?_
              clear hK K
              try simp only [Act.put, List.getElem_toArray, List.getElem_cons_zero, List.getElem_cons_succ, List.setIfInBounds_toArray, List.set_cons_zero, List.set_cons_succ]
              refine K_pure (i := 18) (v := Value.pointer (some ⟨R, 0, none⟩)) rfl (by kernel_rfl) (by kernel_rfl) (by kernel_rfl) (by kernel_rfl) (fun _ _ _ h => h) (Or.inl ⟨rfl, fun _ _ => by first | (go_simp; done) | kernel_rfl⟩) (by repeat (first | exact Bz.refl _ | refine Bz.st ?_ hbE | refine Bz.st ?_ hbD | refine Bz.st ?_ hbC | refine Bz.st ?_ hbB | refine Bz.st ?_ hbA | refine Bz.al ?_ _ | refine Bz.dr ?_)) ?_
              try simp only [Act.put, List.getElem_toArray, List.getElem_cons_zero, List.getElem_cons_succ, List.setIfInBounds_toArray, List.set_cons_zero, List.set_cons_succ]
              refine K_ready (rs := [19]) (by kernel_rfl) (by decide) (ReadyK.cons rfl (fun K hK => ?_) ReadyK.nil)
              go_simp
              refine hK _ _ (fun hf => absurd (show true = false from hf) (by decide)) (K_of_any _ _ _ _ (by kernel_rfl) (wpAny_done (by kernel_rfl) ?_ _))
              clear hK K
              try simp only [Act.put, List.getElem_toArray, List.getElem_cons_zero, List.getElem_cons_succ, List.setIfInBounds_toArray, List.set_cons_zero, List.set_cons_succ]
              go_wp2_with fail
              go_meet
              exact ⟨aE, cE, KK, HLF.out.1, HLF.out.2.1, by rw [← HKK.out, bxs_append, bxs_append, HKB.out, HKD.out, List.append_assoc]; rfl, HLF.out.2.2.1, HLF.out.2.2.2⟩
            · skip
              go_simp
              refine (above_any u _).mono ?_
              rintro e wC ⟨B2, rfl, hFC, hbC⟩
              refine hK _ _ (fun _ => (by repeat (first | exact Bz.refl _ | refine Bz.st ?_ hbE | refine Bz.st ?_ hbD | refine Bz.st ?_ hbC | refine Bz.st ?_ hbB | refine Bz.st ?_ hbA | refine Bz.al ?_ _ | refine Bz.dr ?_))) ?_
              clear hK K
              try simp only [Act.put, List.getElem_toArray, List.getElem_cons_zero, List.getElem_cons_succ, List.setIfInBounds_toArray, List.set_cons_zero, List.set_cons_succ]
              refine K_ready (rs := [9, 14]) (by kernel_rfl) (by decide) (ReadyK.cons rfl (fun K hK => ?_) (ReadyK.cons rfl (fun K hK => ?_) ReadyK.nil))
              · skip
                go_simp
                refine hK _ _ (fun _ => (by repeat (first | exact Bz.refl _ | refine Bz.st ?_ hbE | refine Bz.st ?_ hbD | refine Bz.st ?_ hbC | refine Bz.st ?_ hbB | refine Bz.st ?_ hbA | refine Bz.al ?_ _ | refine Bz.dr ?_))) ?_
                clear hK K
                try simp only [Act.put, List.getElem_toArray, List.getElem_cons_zero, List.getElem_cons_succ, List.setIfInBounds_toArray, List.set_cons_zero, List.set_cons_succ]
                refine K_ready (rs := [14]) (by kernel_rfl) (by decide) (ReadyK.cons rfl (fun K hK => ?_) ReadyK.nil)
                go_simp
                refine hK _ _ (fun _ => (by repeat (first | exact Bz.refl _ | refine Bz.st ?_ hbE | refine Bz.st ?_ hbD | refine Bz.st ?_ hbC | refine Bz.st ?_ hbB | refine Bz.st ?_ hbA | refine Bz.al ?_ _ | refine Bz.dr ?_))) ?_
                clear hK K
                try simp only [Act.put, List.getElem_toArray, List.getElem_cons_zero, List.getElem_cons_succ, List.setIfInBounds_toArray, List.set_cons_zero, List.set_cons_succ]
                refine K_ready (rs := [15]) (by kernel_rfl) (by decide) (ReadyK.cons rfl (fun K hK => ?_) ReadyK.nil)
                go_simp
                refine (HFi.out (some ⟨_, 0, none⟩) 1 [⟨98, B2, fun v _ => decide (u < v)⟩] _ (H4.out.2.2.1.on (show Bz w4 _ from (by repeat (first | exact Bz.refl _ | refine Bz.st ?_ hbE | refine Bz.st ?_ hbD | refine Bz.st ?_ hbC | refine Bz.st ?_ hbB | refine Bz.st ?_ hbA | refine Bz.al ?_ _ | refine Bz.dr ?_))).b) (by first | exact FS.oneN (IsF.on hFC (show Bz wC _ from (by repeat (first | exact Bz.refl _ | refine Bz.st ?_ hbE | refine Bz.st ?_ hbD | refine Bz.st ?_ hbC | refine Bz.st ?_ hbB | refine Bz.st ?_ hbA | refine Bz.al ?_ _ | refine Bz.dr ?_))).b) _ (by simp) | exact FS.al (FS.oneN (IsF.on hFC (show Bz wC _ from (by repeat (first | exact Bz.refl _ | refine Bz.st ?_ hbE | refine Bz.st ?_ hbD | refine Bz.st ?_ hbC | refine Bz.st ?_ hbB | refine Bz.st ?_ hbA | refine Bz.al ?_ _ | refine Bz.dr ?_))).b) _ (by simp)) _)).mono ?_
                rintro e wD ⟨vD, K2, rfl, hOD, hKD, hbD⟩
                obtain ⟨a2, c2, eD, hSD, -⟩ := hOD.sb
                subst eD
                have HR2 := Lib.hid (show RwAt eBx wD ⟨a2, c2, K2⟩ from ⟨hSD.row, fun e => (hSD.nil e).2⟩)
                have HOD := Lib.hid hOD
                rw [allP_one] at hKD
                have hKD2 := hKD.trans HE1.out.2.2.2.1
                have HKD := Lib.hid hKD2
                have HX2 := Lib.hid (show K2.length ≤ 1000 by rw [← bxs_length K2, hKD2]; have := filt_le (fun b => decide (u < b.user)) (bxs L); have := HL10.out; omega)
                clear hOD hKD hKD2 hSD
                refine hK _ _ (fun _ => (by repeat (first | exact Bz.refl _ | refine Bz.st ?_ hbE | refine Bz.st ?_ hbD | refine Bz.st ?_ hbC | refine Bz.st ?_ hbB | refine Bz.st ?_ hbA | refine Bz.al ?_ _ | refine Bz.dr ?_))) ?_
                clear hK K
                try simp only [Act.put, List.getElem_toArray, List.getElem_cons_zero, List.getElem_cons_succ, List.setIfInBounds_toArray, List.set_cons_zero, List.set_cons_succ]
                refine K_ready (rs := [16]) (by kernel_rfl) (by decide) (ReadyK.cons rfl (fun K hK => ?_) ReadyK.nil)
                go_simp
                refine hK _ _ (fun _ => (by repeat (first | exact Bz.refl _ | refine Bz.st ?_ hbE | refine Bz.st ?_ hbD | refine Bz.st ?_ hbC | refine Bz.st ?_ hbB | refine Bz.st ?_ hbA | refine Bz.al ?_ _ | refine Bz.dr ?_))) ?_
                clear hK K
                try simp only [Act.put, List.getElem_toArray, List.getElem_cons_zero, List.getElem_cons_succ, List.setIfInBounds_toArray, List.set_cons_zero, List.set_cons_succ]
                refine K_ready (rs := [17]) (by kernel_rfl) (by decide) (ReadyK.cons rfl (fun K hK => ?_) ReadyK.nil)
                go_simp
                refine (concatB_any [⟨a1, c1, K1⟩, ⟨some ⟨_, 0, none⟩, 1, [⟨⟨u, F1⟩, a4, c4⟩]⟩, ⟨a2, c2, K2⟩] (by simp) (by have := HX1.out; have := HX2.out; unfold joinR; simp; omega) _ _ (RwsAt.three _ _ _ _ (RwAt.on HR1.out (show Bz wB _ from (by repeat (first | exact Bz.refl _ | refine Bz.st ?_ hbE | refine Bz.st ?_ hbD | refine Bz.st ?_ hbC | refine Bz.st ?_ hbB | refine Bz.st ?_ hbA | refine Bz.al ?_ _ | refine Bz.dr ?_))).b) ⟨blk_bx (by repeat (first | exact BlkV.fresh _ _ _ _ rfl _ (by simp) | refine BlkV.on ?_ hbD | refine BlkV.on ?_ hbC | refine BlkV.on ?_ hbB | refine BlkV.on ?_ hbA | refine BlkV.dr ?_ | refine BlkV.alloc ?_ _)) H4.out.2.2.2.2.2.2.1.symm, fun e => by cases e⟩ (RwAt.on HR2.out (show Bz wD _ from (by repeat (first | exact Bz.refl _ | refine Bz.st ?_ hbE | refine Bz.st ?_ hbD | refine Bz.st ?_ hbC | refine Bz.st ?_ hbB | refine Bz.st ?_ hbA | refine Bz.al ?_ _ | refine Bz.dr ?_))).b) _ (by simp))).mono ?_
                rintro e wE ⟨vE, rfl, hOE, hbE⟩
                unfold joinR at hOE
                simp only [List.flatMap_cons, List.flatMap_nil, List.append_nil] at hOE
                obtain ⟨KK, eKK⟩ : ∃ KK, K1 ++ ([(⟨⟨u, F1⟩, a4, c4⟩ : BxM)] ++ K2) = KK := ⟨_, rfl⟩
                rw [eKK] at hOE
                have HKK := Lib.hid eKK
                clear eKK
                obtain ⟨aE, cE, eE, -⟩ := hOE.sl
                subst eE
                have hzE : Bz w4 wE := (by repeat (first | exact Bz.refl _ | refine Bz.st ?_ hbE | refine Bz.st ?_ hbD | refine Bz.st ?_ hbC | refine Bz.st ?_ hbB | refine Bz.st ?_ hbA | refine Bz.al ?_ _ | refine Bz.dr ?_))
                have hzB : Bz wB wE := (by repeat (first | exact Bz.refl _ | refine Bz.st ?_ hbE | refine Bz.st ?_ hbD | refine Bz.st ?_ hbC | refine Bz.st ?_ hbB | refine Bz.st ?_ hbA | refine Bz.al ?_ _ | refine Bz.dr ?_))
                have hzD : Bz wD wE := (by repeat (first | exact Bz.refl _ | refine Bz.st ?_ hbE | refine Bz.st ?_ hbD | refine Bz.st ?_ hbC | refine Bz.st ?_ hbB | refine Bz.st ?_ hbA | refine Bz.al ?_ _ | refine Bz.dr ?_))
                have hsE := (H4.out.1.on hzE.b).cell 0 _ rfl
                have fE := (H4.out.1.on hzE.b).frozen 0
                have hleaf := push_leaf H4.out.1 H4.out.2.1 H4.out.2.2.2.1 H4.out.2.2.2.2.1 HOB.out HOD.out hzE hzB hzD hOE HKK.out
                have HLF := Lib.hid hleaf
                clear hleaf hOE
                refine hK _ _ (fun _ => (by repeat (first | exact Bz.refl _ | refine Bz.st ?_ hbE | refine Bz.st ?_ hbD | refine Bz.st ?_ hbC | refine Bz.st ?_ hbB | refine Bz.st ?_ hbA | refine Bz.al ?_ _ | refine Bz.dr ?_))) ?_
                clear hK K
                try simp only [Act.put, List.getElem_toArray, List.getElem_cons_zero, List.getElem_cons_succ, List.setIfInBounds_toArray, List.set_cons_zero, List.set_cons_succ]
                refine K_pure (i := 18) (v := Value.pointer (some ⟨R, 0, none⟩)) rfl (by kernel_rfl) (by kernel_rfl) (by kernel_rfl) (by kernel_rfl) (fun _ _ _ h => h) (Or.inl ⟨rfl, fun _ _ => by first | (go_simp; done) | kernel_rfl⟩) (by repeat (first | exact Bz.refl _ | refine Bz.st ?_ hbE | refine Bz.st ?_ hbD | refine Bz.st ?_ hbC | refine Bz.st ?_ hbB | refine Bz.st ?_ hbA | refine Bz.al ?_ _ | refine Bz.dr ?_)) ?_
                try simp only [Act.put, List.getElem_toArray, List.getElem_cons_zero, List.getElem_cons_succ, List.setIfInBounds_toArray, List.set_cons_zero, List.set_cons_succ]
                refine K_ready (rs := [19]) (by kernel_rfl) (by decide) (ReadyK.cons rfl (fun K hK => ?_) ReadyK.nil)
                go_simp
                refine hK _ _ (fun hf => absurd (show true = false from hf) (by decide)) (K_of_any _ _ _ _ (by kernel_rfl) (wpAny_done (by kernel_rfl) ?_ _))
                clear hK K
                try simp only [Act.put, List.getElem_toArray, List.getElem_cons_zero, List.getElem_cons_succ, List.setIfInBounds_toArray, List.set_cons_zero, List.set_cons_succ]
                go_wp2_with fail
                go_meet
                exact ⟨aE, cE, KK, HLF.out.1, HLF.out.2.1, by rw [← HKK.out, bxs_append, bxs_append, HKB.out, HKD.out, List.append_assoc]; rfl, HLF.out.2.2.1, HLF.out.2.2.2⟩
              · skip
                go_simp
                refine hK _ _ (fun _ => (by repeat (first | exact Bz.refl _ | refine Bz.st ?_ hbE | refine Bz.st ?_ hbD | refine Bz.st ?_ hbC | refine Bz.st ?_ hbB | refine Bz.st ?_ hbA | refine Bz.al ?_ _ | refine Bz.dr ?_))) ?_
                clear hK K
                try simp only [Act.put, List.getElem_toArray, List.getElem_cons_zero, List.getElem_cons_succ, List.setIfInBounds_toArray, List.set_cons_zero, List.set_cons_succ]
                refine K_ready (rs := [9, 15]) (by kernel_rfl) (by decide) (ReadyK.cons rfl (fun K hK => ?_) (ReadyK.cons rfl (fun K hK => ?_) ReadyK.nil))
                · skip
                  go_simp
                  refine hK _ _ (fun _ => (by repeat (first | exact Bz.refl _ | refine Bz.st ?_ hbE | refine Bz.st ?_ hbD | refine Bz.st ?_ hbC | refine Bz.st ?_ hbB | refine Bz.st ?_ hbA | refine Bz.al ?_ _ | refine Bz.dr ?_))) ?_
                  clear hK K
                  try simp only [Act.put, List.getElem_toArray, List.getElem_cons_zero, List.getElem_cons_succ, List.setIfInBounds_toArray, List.set_cons_zero, List.set_cons_succ]
                  refine K_ready (rs := [15]) (by kernel_rfl) (by decide) (ReadyK.cons rfl (fun K hK => ?_) ReadyK.nil)
                  go_simp
                  refine (HFi.out (some ⟨_, 0, none⟩) 1 [⟨98, B2, fun v _ => decide (u < v)⟩] _ (H4.out.2.2.1.on (show Bz w4 _ from (by repeat (first | exact Bz.refl _ | refine Bz.st ?_ hbE | refine Bz.st ?_ hbD | refine Bz.st ?_ hbC | refine Bz.st ?_ hbB | refine Bz.st ?_ hbA | refine Bz.al ?_ _ | refine Bz.dr ?_))).b) (by first | exact FS.oneN (IsF.on hFC (show Bz wC _ from (by repeat (first | exact Bz.refl _ | refine Bz.st ?_ hbE | refine Bz.st ?_ hbD | refine Bz.st ?_ hbC | refine Bz.st ?_ hbB | refine Bz.st ?_ hbA | refine Bz.al ?_ _ | refine Bz.dr ?_))).b) _ (by simp) | exact FS.al (FS.oneN (IsF.on hFC (show Bz wC _ from (by repeat (first | exact Bz.refl _ | refine Bz.st ?_ hbE | refine Bz.st ?_ hbD | refine Bz.st ?_ hbC | refine Bz.st ?_ hbB | refine Bz.st ?_ hbA | refine Bz.al ?_ _ | refine Bz.dr ?_))).b) _ (by simp)) _)).mono ?_
                  rintro e wD ⟨vD, K2, rfl, hOD, hKD, hbD⟩
                  obtain ⟨a2, c2, eD, hSD, -⟩ := hOD.sb
                  subst eD
                  have HR2 := Lib.hid (show RwAt eBx wD ⟨a2, c2, K2⟩ from ⟨hSD.row, fun e => (hSD.nil e).2⟩)
                  have HOD := Lib.hid hOD
                  rw [allP_one] at hKD
                  have hKD2 := hKD.trans HE1.out.2.2.2.1
                  have HKD := Lib.hid hKD2
                  have HX2 := Lib.hid (show K2.length ≤ 1000 by rw [← bxs_length K2, hKD2]; have := filt_le (fun b => decide (u < b.user)) (bxs L); have := HL10.out; omega)
                  clear hOD hKD hKD2 hSD
                  refine hK _ _ (fun _ => (by repeat (first | exact Bz.refl _ | refine Bz.st ?_ hbE | refine Bz.st ?_ hbD | refine Bz.st ?_ hbC | refine Bz.st ?_ hbB | refine Bz.st ?_ hbA | refine Bz.al ?_ _ | refine Bz.dr ?_))) ?_
                  clear hK K
                  try simp only [Act.put, List.getElem_toArray, List.getElem_cons_zero, List.getElem_cons_succ, List.setIfInBounds_toArray, List.set_cons_zero, List.set_cons_succ]
                  refine K_ready (rs := [16]) (by kernel_rfl) (by decide) (ReadyK.cons rfl (fun K hK => ?_) ReadyK.nil)
                  go_simp
                  refine hK _ _ (fun _ => (by repeat (first | exact Bz.refl _ | refine Bz.st ?_ hbE | refine Bz.st ?_ hbD | refine Bz.st ?_ hbC | refine Bz.st ?_ hbB | refine Bz.st ?_ hbA | refine Bz.al ?_ _ | refine Bz.dr ?_))) ?_
                  clear hK K
                  try simp only [Act.put, List.getElem_toArray, List.getElem_cons_zero, List.getElem_cons_succ, List.setIfInBounds_toArray, List.set_cons_zero, List.set_cons_succ]
                  refine K_ready (rs := [17]) (by kernel_rfl) (by decide) (ReadyK.cons rfl (fun K hK => ?_) ReadyK.nil)
                  go_simp
                  refine (concatB_any [⟨a1, c1, K1⟩, ⟨some ⟨_, 0, none⟩, 1, [⟨⟨u, F1⟩, a4, c4⟩]⟩, ⟨a2, c2, K2⟩] (by simp) (by have := HX1.out; have := HX2.out; unfold joinR; simp; omega) _ _ (RwsAt.three _ _ _ _ (RwAt.on HR1.out (show Bz wB _ from (by repeat (first | exact Bz.refl _ | refine Bz.st ?_ hbE | refine Bz.st ?_ hbD | refine Bz.st ?_ hbC | refine Bz.st ?_ hbB | refine Bz.st ?_ hbA | refine Bz.al ?_ _ | refine Bz.dr ?_))).b) ⟨blk_bx (by repeat (first | exact BlkV.fresh _ _ _ _ rfl _ (by simp) | refine BlkV.on ?_ hbD | refine BlkV.on ?_ hbC | refine BlkV.on ?_ hbB | refine BlkV.on ?_ hbA | refine BlkV.dr ?_ | refine BlkV.alloc ?_ _)) H4.out.2.2.2.2.2.2.1.symm, fun e => by cases e⟩ (RwAt.on HR2.out (show Bz wD _ from (by repeat (first | exact Bz.refl _ | refine Bz.st ?_ hbE | refine Bz.st ?_ hbD | refine Bz.st ?_ hbC | refine Bz.st ?_ hbB | refine Bz.st ?_ hbA | refine Bz.al ?_ _ | refine Bz.dr ?_))).b) _ (by simp))).mono ?_
                  rintro e wE ⟨vE, rfl, hOE, hbE⟩
                  unfold joinR at hOE
                  simp only [List.flatMap_cons, List.flatMap_nil, List.append_nil] at hOE
                  obtain ⟨KK, eKK⟩ : ∃ KK, K1 ++ ([(⟨⟨u, F1⟩, a4, c4⟩ : BxM)] ++ K2) = KK := ⟨_, rfl⟩
                  rw [eKK] at hOE
                  have HKK := Lib.hid eKK
                  clear eKK
                  obtain ⟨aE, cE, eE, -⟩ := hOE.sl
                  subst eE
                  have hzE : Bz w4 wE := (by repeat (first | exact Bz.refl _ | refine Bz.st ?_ hbE | refine Bz.st ?_ hbD | refine Bz.st ?_ hbC | refine Bz.st ?_ hbB | refine Bz.st ?_ hbA | refine Bz.al ?_ _ | refine Bz.dr ?_))
                  have hzB : Bz wB wE := (by repeat (first | exact Bz.refl _ | refine Bz.st ?_ hbE | refine Bz.st ?_ hbD | refine Bz.st ?_ hbC | refine Bz.st ?_ hbB | refine Bz.st ?_ hbA | refine Bz.al ?_ _ | refine Bz.dr ?_))
                  have hzD : Bz wD wE := (by repeat (first | exact Bz.refl _ | refine Bz.st ?_ hbE | refine Bz.st ?_ hbD | refine Bz.st ?_ hbC | refine Bz.st ?_ hbB | refine Bz.st ?_ hbA | refine Bz.al ?_ _ | refine Bz.dr ?_))
                  have hsE := (H4.out.1.on hzE.b).cell 0 _ rfl
                  have fE := (H4.out.1.on hzE.b).frozen 0
                  have hleaf := push_leaf H4.out.1 H4.out.2.1 H4.out.2.2.2.1 H4.out.2.2.2.2.1 HOB.out HOD.out hzE hzB hzD hOE HKK.out
                  have HLF := Lib.hid hleaf
                  clear hleaf hOE
                  refine hK _ _ (fun _ => (by repeat (first | exact Bz.refl _ | refine Bz.st ?_ hbE | refine Bz.st ?_ hbD | refine Bz.st ?_ hbC | refine Bz.st ?_ hbB | refine Bz.st ?_ hbA | refine Bz.al ?_ _ | refine Bz.dr ?_))) ?_
                  clear hK K
                  try simp only [Act.put, List.getElem_toArray, List.getElem_cons_zero, List.getElem_cons_succ, List.setIfInBounds_toArray, List.set_cons_zero, List.set_cons_succ]
                  refine K_pure (i := 18) (v := Value.pointer (some ⟨R, 0, none⟩)) rfl (by kernel_rfl) (by kernel_rfl) (by kernel_rfl) (by kernel_rfl) (fun _ _ _ h => h) (Or.inl ⟨rfl, fun _ _ => by first | (go_simp; done) | kernel_rfl⟩) (by repeat (first | exact Bz.refl _ | refine Bz.st ?_ hbE | refine Bz.st ?_ hbD | refine Bz.st ?_ hbC | refine Bz.st ?_ hbB | refine Bz.st ?_ hbA | refine Bz.al ?_ _ | refine Bz.dr ?_)) ?_
                  try simp only [Act.put, List.getElem_toArray, List.getElem_cons_zero, List.getElem_cons_succ, List.setIfInBounds_toArray, List.set_cons_zero, List.set_cons_succ]
                  refine K_ready (rs := [19]) (by kernel_rfl) (by decide) (ReadyK.cons rfl (fun K hK => ?_) ReadyK.nil)
                  go_simp
                  refine hK _ _ (fun hf => absurd (show true = false from hf) (by decide)) (K_of_any _ _ _ _ (by kernel_rfl) (wpAny_done (by kernel_rfl) ?_ _))
                  clear hK K
                  try simp only [Act.put, List.getElem_toArray, List.getElem_cons_zero, List.getElem_cons_succ, List.setIfInBounds_toArray, List.set_cons_zero, List.set_cons_succ]
                  go_wp2_with fail
                  go_meet
                  exact ⟨aE, cE, KK, HLF.out.1, HLF.out.2.1, by rw [← HKK.out, bxs_append, bxs_append, HKB.out, HKD.out, List.append_assoc]; rfl, HLF.out.2.2.1, HLF.out.2.2.2⟩
                · skip
                  go_simp
                  refine (HFi.out (some ⟨_, 0, none⟩) 1 [⟨98, B2, fun v _ => decide (u < v)⟩] _ (H4.out.2.2.1.on (show Bz w4 _ from (by repeat (first | exact Bz.refl _ | refine Bz.st ?_ hbE | refine Bz.st ?_ hbD | refine Bz.st ?_ hbC | refine Bz.st ?_ hbB | refine Bz.st ?_ hbA | refine Bz.al ?_ _ | refine Bz.dr ?_))).b) (by first | exact FS.oneN (IsF.on hFC (show Bz wC _ from (by repeat (first | exact Bz.refl _ | refine Bz.st ?_ hbE | refine Bz.st ?_ hbD | refine Bz.st ?_ hbC | refine Bz.st ?_ hbB | refine Bz.st ?_ hbA | refine Bz.al ?_ _ | refine Bz.dr ?_))).b) _ (by simp) | exact FS.al (FS.oneN (IsF.on hFC (show Bz wC _ from (by repeat (first | exact Bz.refl _ | refine Bz.st ?_ hbE | refine Bz.st ?_ hbD | refine Bz.st ?_ hbC | refine Bz.st ?_ hbB | refine Bz.st ?_ hbA | refine Bz.al ?_ _ | refine Bz.dr ?_))).b) _ (by simp)) _)).mono ?_
                  rintro e wD ⟨vD, K2, rfl, hOD, hKD, hbD⟩
                  obtain ⟨a2, c2, eD, hSD, -⟩ := hOD.sb
                  subst eD
                  have HR2 := Lib.hid (show RwAt eBx wD ⟨a2, c2, K2⟩ from ⟨hSD.row, fun e => (hSD.nil e).2⟩)
                  have HOD := Lib.hid hOD
                  rw [allP_one] at hKD
                  have hKD2 := hKD.trans HE1.out.2.2.2.1
                  have HKD := Lib.hid hKD2
                  have HX2 := Lib.hid (show K2.length ≤ 1000 by rw [← bxs_length K2, hKD2]; have := filt_le (fun b => decide (u < b.user)) (bxs L); have := HL10.out; omega)
                  clear hOD hKD hKD2 hSD
                  refine hK _ _ (fun _ => (by repeat (first | exact Bz.refl _ | refine Bz.st ?_ hbE | refine Bz.st ?_ hbD | refine Bz.st ?_ hbC | refine Bz.st ?_ hbB | refine Bz.st ?_ hbA | refine Bz.al ?_ _ | refine Bz.dr ?_))) ?_
                  clear hK K
                  try simp only [Act.put, List.getElem_toArray, List.getElem_cons_zero, List.getElem_cons_succ, List.setIfInBounds_toArray, List.set_cons_zero, List.set_cons_succ]
                  refine K_ready (rs := [9]) (by kernel_rfl) (by decide) (ReadyK.cons rfl (fun K hK => ?_) ReadyK.nil)
                  go_simp
                  refine hK _ _ (fun _ => (by repeat (first | exact Bz.refl _ | refine Bz.st ?_ hbE | refine Bz.st ?_ hbD | refine Bz.st ?_ hbC | refine Bz.st ?_ hbB | refine Bz.st ?_ hbA | refine Bz.al ?_ _ | refine Bz.dr ?_))) ?_
                  clear hK K
                  try simp only [Act.put, List.getElem_toArray, List.getElem_cons_zero, List.getElem_cons_succ, List.setIfInBounds_toArray, List.set_cons_zero, List.set_cons_succ]
                  refine K_ready (rs := [16]) (by kernel_rfl) (by decide) (ReadyK.cons rfl (fun K hK => ?_) ReadyK.nil)
                  go_simp
                  refine hK _ _ (fun _ => (by repeat (first | exact Bz.refl _ | refine Bz.st ?_ hbE | refine Bz.st ?_ hbD | refine Bz.st ?_ hbC | refine Bz.st ?_ hbB | refine Bz.st ?_ hbA | refine Bz.al ?_ _ | refine Bz.dr ?_))) ?_
                  clear hK K
                  try simp only [Act.put, List.getElem_toArray, List.getElem_cons_zero, List.getElem_cons_succ, List.setIfInBounds_toArray, List.set_cons_zero, List.set_cons_succ]
                  refine K_ready (rs := [17]) (by kernel_rfl) (by decide) (ReadyK.cons rfl (fun K hK => ?_) ReadyK.nil)
                  go_simp
                  refine (concatB_any [⟨a1, c1, K1⟩, ⟨some ⟨_, 0, none⟩, 1, [⟨⟨u, F1⟩, a4, c4⟩]⟩, ⟨a2, c2, K2⟩] (by simp) (by have := HX1.out; have := HX2.out; unfold joinR; simp; omega) _ _ (RwsAt.three _ _ _ _ (RwAt.on HR1.out (show Bz wB _ from (by repeat (first | exact Bz.refl _ | refine Bz.st ?_ hbE | refine Bz.st ?_ hbD | refine Bz.st ?_ hbC | refine Bz.st ?_ hbB | refine Bz.st ?_ hbA | refine Bz.al ?_ _ | refine Bz.dr ?_))).b) ⟨blk_bx (by repeat (first | exact BlkV.fresh _ _ _ _ rfl _ (by simp) | refine BlkV.on ?_ hbD | refine BlkV.on ?_ hbC | refine BlkV.on ?_ hbB | refine BlkV.on ?_ hbA | refine BlkV.dr ?_ | refine BlkV.alloc ?_ _)) H4.out.2.2.2.2.2.2.1.symm, fun e => by cases e⟩ (RwAt.on HR2.out (show Bz wD _ from (by repeat (first | exact Bz.refl _ | refine Bz.st ?_ hbE | refine Bz.st ?_ hbD | refine Bz.st ?_ hbC | refine Bz.st ?_ hbB | refine Bz.st ?_ hbA | refine Bz.al ?_ _ | refine Bz.dr ?_))).b) _ (by simp))).mono ?_
                  rintro e wE ⟨vE, rfl, hOE, hbE⟩
                  unfold joinR at hOE
                  simp only [List.flatMap_cons, List.flatMap_nil, List.append_nil] at hOE
                  obtain ⟨KK, eKK⟩ : ∃ KK, K1 ++ ([(⟨⟨u, F1⟩, a4, c4⟩ : BxM)] ++ K2) = KK := ⟨_, rfl⟩
                  rw [eKK] at hOE
                  have HKK := Lib.hid eKK
                  clear eKK
                  obtain ⟨aE, cE, eE, -⟩ := hOE.sl
                  subst eE
                  have hzE : Bz w4 wE := (by repeat (first | exact Bz.refl _ | refine Bz.st ?_ hbE | refine Bz.st ?_ hbD | refine Bz.st ?_ hbC | refine Bz.st ?_ hbB | refine Bz.st ?_ hbA | refine Bz.al ?_ _ | refine Bz.dr ?_))
                  have hzB : Bz wB wE := (by repeat (first | exact Bz.refl _ | refine Bz.st ?_ hbE | refine Bz.st ?_ hbD | refine Bz.st ?_ hbC | refine Bz.st ?_ hbB | refine Bz.st ?_ hbA | refine Bz.al ?_ _ | refine Bz.dr ?_))
                  have hzD : Bz wD wE := (by repeat (first | exact Bz.refl _ | refine Bz.st ?_ hbE | refine Bz.st ?_ hbD | refine Bz.st ?_ hbC | refine Bz.st ?_ hbB | refine Bz.st ?_ hbA | refine Bz.al ?_ _ | refine Bz.dr ?_))
                  have hsE := (H4.out.1.on hzE.b).cell 0 _ rfl
                  have fE := (H4.out.1.on hzE.b).frozen 0
                  have hleaf := push_leaf H4.out.1 H4.out.2.1 H4.out.2.2.2.1 H4.out.2.2.2.2.1 HOB.out HOD.out hzE hzB hzD hOE HKK.out
                  have HLF := Lib.hid hleaf
                  clear hleaf hOE
                  refine hK _ _ (fun _ => (by repeat (first | exact Bz.refl _ | refine Bz.st ?_ hbE | refine Bz.st ?_ hbD | refine Bz.st ?_ hbC | refine Bz.st ?_ hbB | refine Bz.st ?_ hbA | refine Bz.al ?_ _ | refine Bz.dr ?_))) ?_
                  clear hK K
                  try simp only [Act.put, List.getElem_toArray, List.getElem_cons_zero, List.getElem_cons_succ, List.setIfInBounds_toArray, List.set_cons_zero, List.set_cons_succ]
                  refine K_pure (i := 18) (v := Value.pointer (some ⟨R, 0, none⟩)) rfl (by kernel_rfl) (by kernel_rfl) (by kernel_rfl) (by kernel_rfl) (fun _ _ _ h => h) (Or.inl ⟨rfl, fun _ _ => by first | (go_simp; done) | kernel_rfl⟩) (by repeat (first | exact Bz.refl _ | refine Bz.st ?_ hbE | refine Bz.st ?_ hbD | refine Bz.st ?_ hbC | refine Bz.st ?_ hbB | refine Bz.st ?_ hbA | refine Bz.al ?_ _ | refine Bz.dr ?_)) ?_
                  try simp only [Act.put, List.getElem_toArray, List.getElem_cons_zero, List.getElem_cons_succ, List.setIfInBounds_toArray, List.set_cons_zero, List.set_cons_succ]
                  refine K_ready (rs := [19]) (by kernel_rfl) (by decide) (ReadyK.cons rfl (fun K hK => ?_) ReadyK.nil)
                  go_simp
                  refine hK _ _ (fun hf => absurd (show true = false from hf) (by decide)) (K_of_any _ _ _ _ (by kernel_rfl) (wpAny_done (by kernel_rfl) ?_ _))
                  clear hK K
                  try simp only [Act.put, List.getElem_toArray, List.getElem_cons_zero, List.getElem_cons_succ, List.setIfInBounds_toArray, List.set_cons_zero, List.set_cons_succ]
                  go_wp2_with fail
                  go_meet
                  exact ⟨aE, cE, KK, HLF.out.1, HLF.out.2.1, by rw [← HKK.out, bxs_append, bxs_append, HKB.out, HKD.out, List.append_assoc]; rfl, HLF.out.2.2.1, HLF.out.2.2.2⟩
          · skip
            go_simp
            refine hK _ _ (fun _ => (by repeat (first | exact Bz.refl _ | refine Bz.st ?_ hbE | refine Bz.st ?_ hbD | refine Bz.st ?_ hbC | refine Bz.st ?_ hbB | refine Bz.st ?_ hbA | refine Bz.al ?_ _ | refine Bz.dr ?_))) ?_
            clear hK K
            try simp only [Act.put, List.getElem_toArray, List.getElem_cons_zero, List.getElem_cons_succ, List.setIfInBounds_toArray, List.set_cons_zero, List.set_cons_succ]
            refine K_ready (rs := [5]) (by kernel_rfl) (by decide) (ReadyK.cons rfl (fun K hK => ?_) ReadyK.nil)
            go_simp
            refine (HFi.out (some ⟨_, 0, none⟩) 1 [⟨97, B1, fun v _ => decide (v < u)⟩] _ (H4.out.2.2.1.on (show Bz w4 _ from (by repeat (first | exact Bz.refl _ | refine Bz.st ?_ hbE | refine Bz.st ?_ hbD | refine Bz.st ?_ hbC | refine Bz.st ?_ hbB | refine Bz.st ?_ hbA | refine Bz.al ?_ _ | refine Bz.dr ?_))).b) (by first | exact FS.oneN (IsF.on hFA (show Bz wA _ from (by repeat (first | exact Bz.refl _ | refine Bz.st ?_ hbE | refine Bz.st ?_ hbD | refine Bz.st ?_ hbC | refine Bz.st ?_ hbB | refine Bz.st ?_ hbA | refine Bz.al ?_ _ | refine Bz.dr ?_))).b) _ (by simp) | exact FS.al (FS.oneN (IsF.on hFA (show Bz wA _ from (by repeat (first | exact Bz.refl _ | refine Bz.st ?_ hbE | refine Bz.st ?_ hbD | refine Bz.st ?_ hbC | refine Bz.st ?_ hbB | refine Bz.st ?_ hbA | refine Bz.al ?_ _ | refine Bz.dr ?_))).b) _ (by simp)) _)).mono ?_
            rintro e wB ⟨vB, K1, rfl, hOB, hKB, hbB⟩
            obtain ⟨a1, c1, eB, hSB, -⟩ := hOB.sb
            subst eB
            have HR1 := Lib.hid (show RwAt eBx wB ⟨a1, c1, K1⟩ from ⟨hSB.row, fun e => (hSB.nil e).2⟩)
            have HOB := Lib.hid hOB
            rw [allP_one] at hKB
            have hKB2 := hKB.trans HE1.out.2.2.1
            have HKB := Lib.hid hKB2
            have HX1 := Lib.hid (show K1.length ≤ 1000 by rw [← bxs_length K1, hKB2]; have := filt_le (fun b => decide (b.user < u)) (bxs L); have := HL10.out; omega)
            clear hOB hKB hKB2 hSB
            refine hK _ _ (fun _ => (by repeat (first | exact Bz.refl _ | refine Bz.st ?_ hbE | refine Bz.st ?_ hbD | refine Bz.st ?_ hbC | refine Bz.st ?_ hbB | refine Bz.st ?_ hbA | refine Bz.al ?_ _ | refine Bz.dr ?_))) ?_
            clear hK K
            try simp only [Act.put, List.getElem_toArray, List.getElem_cons_zero, List.getElem_cons_succ, List.setIfInBounds_toArray, List.set_cons_zero, List.set_cons_succ]
            refine K_ready (rs := [13]) (by kernel_rfl) (by decide) (ReadyK.cons rfl (fun K hK => ?_) ReadyK.nil)
            go_simp
            refine (above_any u _).mono ?_
            rintro e wC ⟨B2, rfl, hFC, hbC⟩
            refine hK _ _ (fun _ => (by repeat (first | exact Bz.refl _ | refine Bz.st ?_ hbE | refine Bz.st ?_ hbD | refine Bz.st ?_ hbC | refine Bz.st ?_ hbB | refine Bz.st ?_ hbA | refine Bz.al ?_ _ | refine Bz.dr ?_))) ?_
            clear hK K
            try simp only [Act.put, List.getElem_toArray, List.getElem_cons_zero, List.getElem_cons_succ, List.setIfInBounds_toArray, List.set_cons_zero, List.set_cons_succ]
            refine K_ready (rs := [14]) (by kernel_rfl) (by decide) (ReadyK.cons rfl (fun K hK => ?_) ReadyK.nil)
            go_simp
            refine hK _ _ (fun _ => (by repeat (first | exact Bz.refl _ | refine Bz.st ?_ hbE | refine Bz.st ?_ hbD | refine Bz.st ?_ hbC | refine Bz.st ?_ hbB | refine Bz.st ?_ hbA | refine Bz.al ?_ _ | refine Bz.dr ?_))) ?_
            clear hK K
            try simp only [Act.put, List.getElem_toArray, List.getElem_cons_zero, List.getElem_cons_succ, List.setIfInBounds_toArray, List.set_cons_zero, List.set_cons_succ]
            refine K_ready (rs := [15]) (by kernel_rfl) (by decide) (ReadyK.cons rfl (fun K hK => ?_) ReadyK.nil)
            go_simp
            refine (HFi.out (some ⟨_, 0, none⟩) 1 [⟨98, B2, fun v _ => decide (u < v)⟩] _ (H4.out.2.2.1.on (show Bz w4 _ from (by repeat (first | exact Bz.refl _ | refine Bz.st ?_ hbE | refine Bz.st ?_ hbD | refine Bz.st ?_ hbC | refine Bz.st ?_ hbB | refine Bz.st ?_ hbA | refine Bz.al ?_ _ | refine Bz.dr ?_))).b) (by first | exact FS.oneN (IsF.on hFC (show Bz wC _ from (by repeat (first | exact Bz.refl _ | refine Bz.st ?_ hbE | refine Bz.st ?_ hbD | refine Bz.st ?_ hbC | refine Bz.st ?_ hbB | refine Bz.st ?_ hbA | refine Bz.al ?_ _ | refine Bz.dr ?_))).b) _ (by simp) | exact FS.al (FS.oneN (IsF.on hFC (show Bz wC _ from (by repeat (first | exact Bz.refl _ | refine Bz.st ?_ hbE | refine Bz.st ?_ hbD | refine Bz.st ?_ hbC | refine Bz.st ?_ hbB | refine Bz.st ?_ hbA | refine Bz.al ?_ _ | refine Bz.dr ?_))).b) _ (by simp)) _)).mono ?_
            rintro e wD ⟨vD, K2, rfl, hOD, hKD, hbD⟩
            obtain ⟨a2, c2, eD, hSD, -⟩ := hOD.sb
            subst eD
            have HR2 := Lib.hid (show RwAt eBx wD ⟨a2, c2, K2⟩ from ⟨hSD.row, fun e => (hSD.nil e).2⟩)
            have HOD := Lib.hid hOD
            rw [allP_one] at hKD
            have hKD2 := hKD.trans HE1.out.2.2.2.1
            have HKD := Lib.hid hKD2
            have HX2 := Lib.hid (show K2.length ≤ 1000 by rw [← bxs_length K2, hKD2]; have := filt_le (fun b => decide (u < b.user)) (bxs L); have := HL10.out; omega)
            clear hOD hKD hKD2 hSD
            refine hK _ _ (fun _ => (by repeat (first | exact Bz.refl _ | refine Bz.st ?_ hbE | refine Bz.st ?_ hbD | refine Bz.st ?_ hbC | refine Bz.st ?_ hbB | refine Bz.st ?_ hbA | refine Bz.al ?_ _ | refine Bz.dr ?_))) ?_
            clear hK K
            try simp only [Act.put, List.getElem_toArray, List.getElem_cons_zero, List.getElem_cons_succ, List.setIfInBounds_toArray, List.set_cons_zero, List.set_cons_succ]
            refine K_ready (rs := [16]) (by kernel_rfl) (by decide) (ReadyK.cons rfl (fun K hK => ?_) ReadyK.nil)
            go_simp
            refine hK _ _ (fun _ => (by repeat (first | exact Bz.refl _ | refine Bz.st ?_ hbE | refine Bz.st ?_ hbD | refine Bz.st ?_ hbC | refine Bz.st ?_ hbB | refine Bz.st ?_ hbA | refine Bz.al ?_ _ | refine Bz.dr ?_))) ?_
            clear hK K
            try simp only [Act.put, List.getElem_toArray, List.getElem_cons_zero, List.getElem_cons_succ, List.setIfInBounds_toArray, List.set_cons_zero, List.set_cons_succ]
            refine K_ready (rs := [17]) (by kernel_rfl) (by decide) (ReadyK.cons rfl (fun K hK => ?_) ReadyK.nil)
            go_simp
            refine (concatB_any [⟨a1, c1, K1⟩, ⟨some ⟨_, 0, none⟩, 1, [⟨⟨u, F1⟩, a4, c4⟩]⟩, ⟨a2, c2, K2⟩] (by simp) (by have := HX1.out; have := HX2.out; unfold joinR; simp; omega) _ _ (RwsAt.three _ _ _ _ (RwAt.on HR1.out (show Bz wB _ from (by repeat (first | exact Bz.refl _ | refine Bz.st ?_ hbE | refine Bz.st ?_ hbD | refine Bz.st ?_ hbC | refine Bz.st ?_ hbB | refine Bz.st ?_ hbA | refine Bz.al ?_ _ | refine Bz.dr ?_))).b) ⟨blk_bx (by repeat (first | exact BlkV.fresh _ _ _ _ rfl _ (by simp) | refine BlkV.on ?_ hbD | refine BlkV.on ?_ hbC | refine BlkV.on ?_ hbB | refine BlkV.on ?_ hbA | refine BlkV.dr ?_ | refine BlkV.alloc ?_ _)) H4.out.2.2.2.2.2.2.1.symm, fun e => by cases e⟩ (RwAt.on HR2.out (show Bz wD _ from (by repeat (first | exact Bz.refl _ | refine Bz.st ?_ hbE | refine Bz.st ?_ hbD | refine Bz.st ?_ hbC | refine Bz.st ?_ hbB | refine Bz.st ?_ hbA | refine Bz.al ?_ _ | refine Bz.dr ?_))).b) _ (by simp))).mono ?_
            rintro e wE ⟨vE, rfl, hOE, hbE⟩
            unfold joinR at hOE
            simp only [List.flatMap_cons, List.flatMap_nil, List.append_nil] at hOE
            obtain ⟨KK, eKK⟩ : ∃ KK, K1 ++ ([(⟨⟨u, F1⟩, a4, c4⟩ : BxM)] ++ K2) = KK := ⟨_, rfl⟩
            rw [eKK] at hOE
            have HKK := Lib.hid eKK
            clear eKK
            obtain ⟨aE, cE, eE, -⟩ := hOE.sl
            subst eE
            have hzE : Bz w4 wE := (by repeat (first | exact Bz.refl _ | refine Bz.st ?_ hbE | refine Bz.st ?_ hbD | refine Bz.st ?_ hbC | refine Bz.st ?_ hbB | refine Bz.st ?_ hbA | refine Bz.al ?_ _ | refine Bz.dr ?_))
            have hzB : Bz wB wE := (by repeat (first | exact Bz.refl _ | refine Bz.st ?_ hbE | refine Bz.st ?_ hbD | refine Bz.st ?_ hbC | refine Bz.st ?_ hbB | refine Bz.st ?_ hbA | refine Bz.al ?_ _ | refine Bz.dr ?_))
            have hzD : Bz wD wE := (by repeat (first | exact Bz.refl _ | refine Bz.st ?_ hbE | refine Bz.st ?_ hbD | refine Bz.st ?_ hbC | refine Bz.st ?_ hbB | refine Bz.st ?_ hbA | refine Bz.al ?_ _ | refine Bz.dr ?_))
            have hsE := (H4.out.1.on hzE.b).cell 0 _ rfl
            have fE := (H4.out.1.on hzE.b).frozen 0
            have hleaf := push_leaf H4.out.1 H4.out.2.1 H4.out.2.2.2.1 H4.out.2.2.2.2.1 HOB.out HOD.out hzE hzB hzD hOE HKK.out
            have HLF := Lib.hid hleaf
            clear hleaf hOE
            refine hK _ _ (fun _ => (by repeat (first | exact Bz.refl _ | refine Bz.st ?_ hbE | refine Bz.st ?_ hbD | refine Bz.st ?_ hbC | refine Bz.st ?_ hbB | refine Bz.st ?_ hbA | refine Bz.al ?_ _ | refine Bz.dr ?_))) ?_
            clear hK K
            try simp only [Act.put, List.getElem_toArray, List.getElem_cons_zero, List.getElem_cons_succ, List.setIfInBounds_toArray, List.set_cons_zero, List.set_cons_succ]
            refine K_pure (i := 18) (v := Value.pointer (some ⟨R, 0, none⟩)) rfl (by kernel_rfl) (by kernel_rfl) (by kernel_rfl) (by kernel_rfl) (fun _ _ _ h => h) (Or.inl ⟨rfl, fun _ _ => by first | (go_simp; done) | kernel_rfl⟩) (by repeat (first | exact Bz.refl _ | refine Bz.st ?_ hbE | refine Bz.st ?_ hbD | refine Bz.st ?_ hbC | refine Bz.st ?_ hbB | refine Bz.st ?_ hbA | refine Bz.al ?_ _ | refine Bz.dr ?_)) ?_
            try simp only [Act.put, List.getElem_toArray, List.getElem_cons_zero, List.getElem_cons_succ, List.setIfInBounds_toArray, List.set_cons_zero, List.set_cons_succ]
            refine K_ready (rs := [19]) (by kernel_rfl) (by decide) (ReadyK.cons rfl (fun K hK => ?_) ReadyK.nil)
            go_simp
            refine hK _ _ (fun hf => absurd (show true = false from hf) (by decide)) (K_of_any _ _ _ _ (by kernel_rfl) (wpAny_done (by kernel_rfl) ?_ _))
            clear hK K
            try simp only [Act.put, List.getElem_toArray, List.getElem_cons_zero, List.getElem_cons_succ, List.setIfInBounds_toArray, List.set_cons_zero, List.set_cons_succ]
            go_wp2_with fail
            go_meet
            exact ⟨aE, cE, KK, HLF.out.1, HLF.out.2.1, by rw [← HKK.out, bxs_append, bxs_append, HKB.out, HKD.out, List.append_assoc]; rfl, HLF.out.2.2.1, HLF.out.2.2.2⟩
        · skip
          go_simp
          refine hK _ _ (fun _ => (by repeat (first | exact Bz.refl _ | refine Bz.st ?_ hbE | refine Bz.st ?_ hbD | refine Bz.st ?_ hbC | refine Bz.st ?_ hbB | refine Bz.st ?_ hbA | refine Bz.al ?_ _ | refine Bz.dr ?_))) ?_
          clear hK K
          try simp only [Act.put, List.getElem_toArray, List.getElem_cons_zero, List.getElem_cons_succ, List.setIfInBounds_toArray, List.set_cons_zero, List.set_cons_succ]
          refine K_ready (rs := [4]) (by kernel_rfl) (by decide) (ReadyK.cons rfl (fun K hK => ?_) ReadyK.nil)
          go_simp
          refine hK _ _ (fun _ => (by repeat (first | exact Bz.refl _ | refine Bz.st ?_ hbE | refine Bz.st ?_ hbD | refine Bz.st ?_ hbC | refine Bz.st ?_ hbB | refine Bz.st ?_ hbA | refine Bz.al ?_ _ | refine Bz.dr ?_))) ?_
          clear hK K
          try simp only [Act.put, List.getElem_toArray, List.getElem_cons_zero, List.getElem_cons_succ, List.setIfInBounds_toArray, List.set_cons_zero, List.set_cons_succ]
          refine K_ready (rs := [5]) (by kernel_rfl) (by decide) (ReadyK.cons rfl (fun K hK => ?_) ReadyK.nil)
          go_simp
          refine (HFi.out (some ⟨_, 0, none⟩) 1 [⟨97, B1, fun v _ => decide (v < u)⟩] _ (H4.out.2.2.1.on (show Bz w4 _ from (by repeat (first | exact Bz.refl _ | refine Bz.st ?_ hbE | refine Bz.st ?_ hbD | refine Bz.st ?_ hbC | refine Bz.st ?_ hbB | refine Bz.st ?_ hbA | refine Bz.al ?_ _ | refine Bz.dr ?_))).b) (by first | exact FS.oneN (IsF.on hFA (show Bz wA _ from (by repeat (first | exact Bz.refl _ | refine Bz.st ?_ hbE | refine Bz.st ?_ hbD | refine Bz.st ?_ hbC | refine Bz.st ?_ hbB | refine Bz.st ?_ hbA | refine Bz.al ?_ _ | refine Bz.dr ?_))).b) _ (by simp) | exact FS.al (FS.oneN (IsF.on hFA (show Bz wA _ from (by repeat (first | exact Bz.refl _ | refine Bz.st ?_ hbE | refine Bz.st ?_ hbD | refine Bz.st ?_ hbC | refine Bz.st ?_ hbB | refine Bz.st ?_ hbA | refine Bz.al ?_ _ | refine Bz.dr ?_))).b) _ (by simp)) _)).mono ?_
          rintro e wB ⟨vB, K1, rfl, hOB, hKB, hbB⟩
          obtain ⟨a1, c1, eB, hSB, -⟩ := hOB.sb
          subst eB
          have HR1 := Lib.hid (show RwAt eBx wB ⟨a1, c1, K1⟩ from ⟨hSB.row, fun e => (hSB.nil e).2⟩)
          have HOB := Lib.hid hOB
          rw [allP_one] at hKB
          have hKB2 := hKB.trans HE1.out.2.2.1
          have HKB := Lib.hid hKB2
          have HX1 := Lib.hid (show K1.length ≤ 1000 by rw [← bxs_length K1, hKB2]; have := filt_le (fun b => decide (b.user < u)) (bxs L); have := HL10.out; omega)
          clear hOB hKB hKB2 hSB
          refine hK _ _ (fun _ => (by repeat (first | exact Bz.refl _ | refine Bz.st ?_ hbE | refine Bz.st ?_ hbD | refine Bz.st ?_ hbC | refine Bz.st ?_ hbB | refine Bz.st ?_ hbA | refine Bz.al ?_ _ | refine Bz.dr ?_))) ?_
          clear hK K
          try simp only [Act.put, List.getElem_toArray, List.getElem_cons_zero, List.getElem_cons_succ, List.setIfInBounds_toArray, List.set_cons_zero, List.set_cons_succ]
          refine K_ready (rs := [13]) (by kernel_rfl) (by decide) (ReadyK.cons rfl (fun K hK => ?_) ReadyK.nil)
          go_simp
          refine (above_any u _).mono ?_
          rintro e wC ⟨B2, rfl, hFC, hbC⟩
          refine hK _ _ (fun _ => (by repeat (first | exact Bz.refl _ | refine Bz.st ?_ hbE | refine Bz.st ?_ hbD | refine Bz.st ?_ hbC | refine Bz.st ?_ hbB | refine Bz.st ?_ hbA | refine Bz.al ?_ _ | refine Bz.dr ?_))) ?_
          clear hK K
          try simp only [Act.put, List.getElem_toArray, List.getElem_cons_zero, List.getElem_cons_succ, List.setIfInBounds_toArray, List.set_cons_zero, List.set_cons_succ]
          refine K_ready (rs := [14]) (by kernel_rfl) (by decide) (ReadyK.cons rfl (fun K hK => ?_) ReadyK.nil)
          go_simp
          refine hK _ _ (fun _ => (by repeat (first | exact Bz.refl _ | refine Bz.st ?_ hbE | refine Bz.st ?_ hbD | refine Bz.st ?_ hbC | refine Bz.st ?_ hbB | refine Bz.st ?_ hbA | refine Bz.al ?_ _ | refine Bz.dr ?_))) ?_
          clear hK K
          try simp only [Act.put, List.getElem_toArray, List.getElem_cons_zero, List.getElem_cons_succ, List.setIfInBounds_toArray, List.set_cons_zero, List.set_cons_succ]
          refine K_ready (rs := [15]) (by kernel_rfl) (by decide) (ReadyK.cons rfl (fun K hK => ?_) ReadyK.nil)
          go_simp
          refine (HFi.out (some ⟨_, 0, none⟩) 1 [⟨98, B2, fun v _ => decide (u < v)⟩] _ (H4.out.2.2.1.on (show Bz w4 _ from (by repeat (first | exact Bz.refl _ | refine Bz.st ?_ hbE | refine Bz.st ?_ hbD | refine Bz.st ?_ hbC | refine Bz.st ?_ hbB | refine Bz.st ?_ hbA | refine Bz.al ?_ _ | refine Bz.dr ?_))).b) (by first | exact FS.oneN (IsF.on hFC (show Bz wC _ from (by repeat (first | exact Bz.refl _ | refine Bz.st ?_ hbE | refine Bz.st ?_ hbD | refine Bz.st ?_ hbC | refine Bz.st ?_ hbB | refine Bz.st ?_ hbA | refine Bz.al ?_ _ | refine Bz.dr ?_))).b) _ (by simp) | exact FS.al (FS.oneN (IsF.on hFC (show Bz wC _ from (by repeat (first | exact Bz.refl _ | refine Bz.st ?_ hbE | refine Bz.st ?_ hbD | refine Bz.st ?_ hbC | refine Bz.st ?_ hbB | refine Bz.st ?_ hbA | refine Bz.al ?_ _ | refine Bz.dr ?_))).b) _ (by simp)) _)).mono ?_
          rintro e wD ⟨vD, K2, rfl, hOD, hKD, hbD⟩
          obtain ⟨a2, c2, eD, hSD, -⟩ := hOD.sb
          subst eD
          have HR2 := Lib.hid (show RwAt eBx wD ⟨a2, c2, K2⟩ from ⟨hSD.row, fun e => (hSD.nil e).2⟩)
          have HOD := Lib.hid hOD
          rw [allP_one] at hKD
          have hKD2 := hKD.trans HE1.out.2.2.2.1
          have HKD := Lib.hid hKD2
          have HX2 := Lib.hid (show K2.length ≤ 1000 by rw [← bxs_length K2, hKD2]; have := filt_le (fun b => decide (u < b.user)) (bxs L); have := HL10.out; omega)
          clear hOD hKD hKD2 hSD
          refine hK _ _ (fun _ => (by repeat (first | exact Bz.refl _ | refine Bz.st ?_ hbE | refine Bz.st ?_ hbD | refine Bz.st ?_ hbC | refine Bz.st ?_ hbB | refine Bz.st ?_ hbA | refine Bz.al ?_ _ | refine Bz.dr ?_))) ?_
          clear hK K
          try simp only [Act.put, List.getElem_toArray, List.getElem_cons_zero, List.getElem_cons_succ, List.setIfInBounds_toArray, List.set_cons_zero, List.set_cons_succ]
          refine K_ready (rs := [16]) (by kernel_rfl) (by decide) (ReadyK.cons rfl (fun K hK => ?_) ReadyK.nil)
          go_simp
          refine hK _ _ (fun _ => (by repeat (first | exact Bz.refl _ | refine Bz.st ?_ hbE | refine Bz.st ?_ hbD | refine Bz.st ?_ hbC | refine Bz.st ?_ hbB | refine Bz.st ?_ hbA | refine Bz.al ?_ _ | refine Bz.dr ?_))) ?_
          clear hK K
          try simp only [Act.put, List.getElem_toArray, List.getElem_cons_zero, List.getElem_cons_succ, List.setIfInBounds_toArray, List.set_cons_zero, List.set_cons_succ]
          refine K_ready (rs := [17]) (by kernel_rfl) (by decide) (ReadyK.cons rfl (fun K hK => ?_) ReadyK.nil)
          go_simp
          refine (concatB_any [⟨a1, c1, K1⟩, ⟨some ⟨_, 0, none⟩, 1, [⟨⟨u, F1⟩, a4, c4⟩]⟩, ⟨a2, c2, K2⟩] (by simp) (by have := HX1.out; have := HX2.out; unfold joinR; simp; omega) _ _ (RwsAt.three _ _ _ _ (RwAt.on HR1.out (show Bz wB _ from (by repeat (first | exact Bz.refl _ | refine Bz.st ?_ hbE | refine Bz.st ?_ hbD | refine Bz.st ?_ hbC | refine Bz.st ?_ hbB | refine Bz.st ?_ hbA | refine Bz.al ?_ _ | refine Bz.dr ?_))).b) ⟨blk_bx (by repeat (first | exact BlkV.fresh _ _ _ _ rfl _ (by simp) | refine BlkV.on ?_ hbD | refine BlkV.on ?_ hbC | refine BlkV.on ?_ hbB | refine BlkV.on ?_ hbA | refine BlkV.dr ?_ | refine BlkV.alloc ?_ _)) H4.out.2.2.2.2.2.2.1.symm, fun e => by cases e⟩ (RwAt.on HR2.out (show Bz wD _ from (by repeat (first | exact Bz.refl _ | refine Bz.st ?_ hbE | refine Bz.st ?_ hbD | refine Bz.st ?_ hbC | refine Bz.st ?_ hbB | refine Bz.st ?_ hbA | refine Bz.al ?_ _ | refine Bz.dr ?_))).b) _ (by simp))).mono ?_
          rintro e wE ⟨vE, rfl, hOE, hbE⟩
          unfold joinR at hOE
          simp only [List.flatMap_cons, List.flatMap_nil, List.append_nil] at hOE
          obtain ⟨KK, eKK⟩ : ∃ KK, K1 ++ ([(⟨⟨u, F1⟩, a4, c4⟩ : BxM)] ++ K2) = KK := ⟨_, rfl⟩
          rw [eKK] at hOE
          have HKK := Lib.hid eKK
          clear eKK
          obtain ⟨aE, cE, eE, -⟩ := hOE.sl
          subst eE
          have hzE : Bz w4 wE := (by repeat (first | exact Bz.refl _ | refine Bz.st ?_ hbE | refine Bz.st ?_ hbD | refine Bz.st ?_ hbC | refine Bz.st ?_ hbB | refine Bz.st ?_ hbA | refine Bz.al ?_ _ | refine Bz.dr ?_))
          have hzB : Bz wB wE := (by repeat (first | exact Bz.refl _ | refine Bz.st ?_ hbE | refine Bz.st ?_ hbD | refine Bz.st ?_ hbC | refine Bz.st ?_ hbB | refine Bz.st ?_ hbA | refine Bz.al ?_ _ | refine Bz.dr ?_))
          have hzD : Bz wD wE := (by repeat (first | exact Bz.refl _ | refine Bz.st ?_ hbE | refine Bz.st ?_ hbD | refine Bz.st ?_ hbC | refine Bz.st ?_ hbB | refine Bz.st ?_ hbA | refine Bz.al ?_ _ | refine Bz.dr ?_))
          have hsE := (H4.out.1.on hzE.b).cell 0 _ rfl
          have fE := (H4.out.1.on hzE.b).frozen 0
          have hleaf := push_leaf H4.out.1 H4.out.2.1 H4.out.2.2.2.1 H4.out.2.2.2.2.1 HOB.out HOD.out hzE hzB hzD hOE HKK.out
          have HLF := Lib.hid hleaf
          clear hleaf hOE
          refine hK _ _ (fun _ => (by repeat (first | exact Bz.refl _ | refine Bz.st ?_ hbE | refine Bz.st ?_ hbD | refine Bz.st ?_ hbC | refine Bz.st ?_ hbB | refine Bz.st ?_ hbA | refine Bz.al ?_ _ | refine Bz.dr ?_))) ?_
          clear hK K
          try simp only [Act.put, List.getElem_toArray, List.getElem_cons_zero, List.getElem_cons_succ, List.setIfInBounds_toArray, List.set_cons_zero, List.set_cons_succ]
          refine K_pure (i := 18) (v := Value.pointer (some ⟨R, 0, none⟩)) rfl (by kernel_rfl) (by kernel_rfl) (by kernel_rfl) (by kernel_rfl) (fun _ _ _ h => h) (Or.inl ⟨rfl, fun _ _ => by first | (go_simp; done) | kernel_rfl⟩) (by repeat (first | exact Bz.refl _ | refine Bz.st ?_ hbE | refine Bz.st ?_ hbD | refine Bz.st ?_ hbC | refine Bz.st ?_ hbB | refine Bz.st ?_ hbA | refine Bz.al ?_ _ | refine Bz.dr ?_)) ?_
          try simp only [Act.put, List.getElem_toArray, List.getElem_cons_zero, List.getElem_cons_succ, List.setIfInBounds_toArray, List.set_cons_zero, List.set_cons_succ]
          refine K_ready (rs := [19]) (by kernel_rfl) (by decide) (ReadyK.cons rfl (fun K hK => ?_) ReadyK.nil)
          go_simp
          refine hK _ _ (fun hf => absurd (show true = false from hf) (by decide)) (K_of_any _ _ _ _ (by kernel_rfl) (wpAny_done (by kernel_rfl) ?_ _))
          clear hK K
          try simp only [Act.put, List.getElem_toArray, List.getElem_cons_zero, List.getElem_cons_succ, List.setIfInBounds_toArray, List.set_cons_zero, List.set_cons_succ]
          go_wp2_with fail
          go_meet
          exact ⟨aE, cE, KK, HLF.out.1, HLF.out.2.1, by rw [← HKK.out, bxs_append, bxs_append, HKB.out, HKD.out, List.append_assoc]; rfl, HLF.out.2.2.1, HLF.out.2.2.2⟩
      · skip
        go_simp
        refine hK _ _ (fun _ => (by repeat (first | exact Bz.refl _ | refine Bz.st ?_ hbE | refine Bz.st ?_ hbD | refine Bz.st ?_ hbC | refine Bz.st ?_ hbB | refine Bz.st ?_ hbA | refine Bz.al ?_ _ | refine Bz.dr ?_))) ?_
        clear hK K
        try simp only [Act.put, List.getElem_toArray, List.getElem_cons_zero, List.getElem_cons_succ, List.setIfInBounds_toArray, List.set_cons_zero, List.set_cons_succ]
        refine K_ready (rs := [3]) (by kernel_rfl) (by decide) (ReadyK.cons rfl (fun K hK => ?_) ReadyK.nil)
        go_simp
        refine (below_any u _).mono ?_
        rintro e wA ⟨B1, rfl, hFA, hbA⟩
        refine hK _ _ (fun _ => (by repeat (first | exact Bz.refl _ | refine Bz.st ?_ hbE | refine Bz.st ?_ hbD | refine Bz.st ?_ hbC | refine Bz.st ?_ hbB | refine Bz.st ?_ hbA | refine Bz.al ?_ _ | refine Bz.dr ?_))) ?_
        clear hK K
        try simp only [Act.put, List.getElem_toArray, List.getElem_cons_zero, List.getElem_cons_succ, List.setIfInBounds_toArray, List.set_cons_zero, List.set_cons_succ]
        refine K_ready (rs := [4]) (by kernel_rfl) (by decide) (ReadyK.cons rfl (fun K hK => ?_) ReadyK.nil)
        go_simp
        refine hK _ _ (fun _ => (by repeat (first | exact Bz.refl _ | refine Bz.st ?_ hbE | refine Bz.st ?_ hbD | refine Bz.st ?_ hbC | refine Bz.st ?_ hbB | refine Bz.st ?_ hbA | refine Bz.al ?_ _ | refine Bz.dr ?_))) ?_
        clear hK K
        try simp only [Act.put, List.getElem_toArray, List.getElem_cons_zero, List.getElem_cons_succ, List.setIfInBounds_toArray, List.set_cons_zero, List.set_cons_succ]
        refine K_ready (rs := [5]) (by kernel_rfl) (by decide) (ReadyK.cons rfl (fun K hK => ?_) ReadyK.nil)
        go_simp
        refine (HFi.out (some ⟨_, 0, none⟩) 1 [⟨97, B1, fun v _ => decide (v < u)⟩] _ (H4.out.2.2.1.on (show Bz w4 _ from (by repeat (first | exact Bz.refl _ | refine Bz.st ?_ hbE | refine Bz.st ?_ hbD | refine Bz.st ?_ hbC | refine Bz.st ?_ hbB | refine Bz.st ?_ hbA | refine Bz.al ?_ _ | refine Bz.dr ?_))).b) (by first | exact FS.oneN (IsF.on hFA (show Bz wA _ from (by repeat (first | exact Bz.refl _ | refine Bz.st ?_ hbE | refine Bz.st ?_ hbD | refine Bz.st ?_ hbC | refine Bz.st ?_ hbB | refine Bz.st ?_ hbA | refine Bz.al ?_ _ | refine Bz.dr ?_))).b) _ (by simp) | exact FS.al (FS.oneN (IsF.on hFA (show Bz wA _ from (by repeat (first | exact Bz.refl _ | refine Bz.st ?_ hbE | refine Bz.st ?_ hbD | refine Bz.st ?_ hbC | refine Bz.st ?_ hbB | refine Bz.st ?_ hbA | refine Bz.al ?_ _ | refine Bz.dr ?_))).b) _ (by simp)) _)).mono ?_
        rintro e wB ⟨vB, K1, rfl, hOB, hKB, hbB⟩
        obtain ⟨a1, c1, eB, hSB, -⟩ := hOB.sb
        subst eB
        have HR1 := Lib.hid (show RwAt eBx wB ⟨a1, c1, K1⟩ from ⟨hSB.row, fun e => (hSB.nil e).2⟩)
        have HOB := Lib.hid hOB
        rw [allP_one] at hKB
        have hKB2 := hKB.trans HE1.out.2.2.1
        have HKB := Lib.hid hKB2
        have HX1 := Lib.hid (show K1.length ≤ 1000 by rw [← bxs_length K1, hKB2]; have := filt_le (fun b => decide (b.user < u)) (bxs L); have := HL10.out; omega)
        clear hOB hKB hKB2 hSB
        refine hK _ _ (fun _ => (by repeat (first | exact Bz.refl _ | refine Bz.st ?_ hbE | refine Bz.st ?_ hbD | refine Bz.st ?_ hbC | refine Bz.st ?_ hbB | refine Bz.st ?_ hbA | refine Bz.al ?_ _ | refine Bz.dr ?_))) ?_
        clear hK K
        try simp only [Act.put, List.getElem_toArray, List.getElem_cons_zero, List.getElem_cons_succ, List.setIfInBounds_toArray, List.set_cons_zero, List.set_cons_succ]
        refine K_ready (rs := [13]) (by kernel_rfl) (by decide) (ReadyK.cons rfl (fun K hK => ?_) ReadyK.nil)
        go_simp
        refine (above_any u _).mono ?_
        rintro e wC ⟨B2, rfl, hFC, hbC⟩
        refine hK _ _ (fun _ => (by repeat (first | exact Bz.refl _ | refine Bz.st ?_ hbE | refine Bz.st ?_ hbD | refine Bz.st ?_ hbC | refine Bz.st ?_ hbB | refine Bz.st ?_ hbA | refine Bz.al ?_ _ | refine Bz.dr ?_))) ?_
        clear hK K
        try simp only [Act.put, List.getElem_toArray, List.getElem_cons_zero, List.getElem_cons_succ, List.setIfInBounds_toArray, List.set_cons_zero, List.set_cons_succ]
        refine K_ready (rs := [14]) (by kernel_rfl) (by decide) (ReadyK.cons rfl (fun K hK => ?_) ReadyK.nil)
        go_simp
        refine hK _ _ (fun _ => (by repeat (first | exact Bz.refl _ | refine Bz.st ?_ hbE | refine Bz.st ?_ hbD | refine Bz.st ?_ hbC | refine Bz.st ?_ hbB | refine Bz.st ?_ hbA | refine Bz.al ?_ _ | refine Bz.dr ?_))) ?_
        clear hK K
        try simp only [Act.put, List.getElem_toArray, List.getElem_cons_zero, List.getElem_cons_succ, List.setIfInBounds_toArray, List.set_cons_zero, List.set_cons_succ]
        refine K_ready (rs := [15]) (by kernel_rfl) (by decide) (ReadyK.cons rfl (fun K hK => ?_) ReadyK.nil)
        go_simp
        refine (HFi.out (some ⟨_, 0, none⟩) 1 [⟨98, B2, fun v _ => decide (u < v)⟩] _ (H4.out.2.2.1.on (show Bz w4 _ from (by repeat (first | exact Bz.refl _ | refine Bz.st ?_ hbE | refine Bz.st ?_ hbD | refine Bz.st ?_ hbC | refine Bz.st ?_ hbB | refine Bz.st ?_ hbA | refine Bz.al ?_ _ | refine Bz.dr ?_))).b) (by first | exact FS.oneN (IsF.on hFC (show Bz wC _ from (by repeat (first | exact Bz.refl _ | refine Bz.st ?_ hbE | refine Bz.st ?_ hbD | refine Bz.st ?_ hbC | refine Bz.st ?_ hbB | refine Bz.st ?_ hbA | refine Bz.al ?_ _ | refine Bz.dr ?_))).b) _ (by simp) | exact FS.al (FS.oneN (IsF.on hFC (show Bz wC _ from (by repeat (first | exact Bz.refl _ | refine Bz.st ?_ hbE | refine Bz.st ?_ hbD | refine Bz.st ?_ hbC | refine Bz.st ?_ hbB | refine Bz.st ?_ hbA | refine Bz.al ?_ _ | refine Bz.dr ?_))).b) _ (by simp)) _)).mono ?_
        rintro e wD ⟨vD, K2, rfl, hOD, hKD, hbD⟩
        obtain ⟨a2, c2, eD, hSD, -⟩ := hOD.sb
        subst eD
        have HR2 := Lib.hid (show RwAt eBx wD ⟨a2, c2, K2⟩ from ⟨hSD.row, fun e => (hSD.nil e).2⟩)
        have HOD := Lib.hid hOD
        rw [allP_one] at hKD
        have hKD2 := hKD.trans HE1.out.2.2.2.1
        have HKD := Lib.hid hKD2
        have HX2 := Lib.hid (show K2.length ≤ 1000 by rw [← bxs_length K2, hKD2]; have := filt_le (fun b => decide (u < b.user)) (bxs L); have := HL10.out; omega)
        clear hOD hKD hKD2 hSD
        refine hK _ _ (fun _ => (by repeat (first | exact Bz.refl _ | refine Bz.st ?_ hbE | refine Bz.st ?_ hbD | refine Bz.st ?_ hbC | refine Bz.st ?_ hbB | refine Bz.st ?_ hbA | refine Bz.al ?_ _ | refine Bz.dr ?_))) ?_
        clear hK K
        try simp only [Act.put, List.getElem_toArray, List.getElem_cons_zero, List.getElem_cons_succ, List.setIfInBounds_toArray, List.set_cons_zero, List.set_cons_succ]
        refine K_ready (rs := [16]) (by kernel_rfl) (by decide) (ReadyK.cons rfl (fun K hK => ?_) ReadyK.nil)
        go_simp
        refine hK _ _ (fun _ => (by repeat (first | exact Bz.refl _ | refine Bz.st ?_ hbE | refine Bz.st ?_ hbD | refine Bz.st ?_ hbC | refine Bz.st ?_ hbB | refine Bz.st ?_ hbA | refine Bz.al ?_ _ | refine Bz.dr ?_))) ?_
        clear hK K
        try simp only [Act.put, List.getElem_toArray, List.getElem_cons_zero, List.getElem_cons_succ, List.setIfInBounds_toArray, List.set_cons_zero, List.set_cons_succ]
        refine K_ready (rs := [17]) (by kernel_rfl) (by decide) (ReadyK.cons rfl (fun K hK => ?_) ReadyK.nil)
        go_simp
        refine (concatB_any [⟨a1, c1, K1⟩, ⟨some ⟨_, 0, none⟩, 1, [⟨⟨u, F1⟩, a4, c4⟩]⟩, ⟨a2, c2, K2⟩] (by simp) (by have := HX1.out; have := HX2.out; unfold joinR; simp; omega) _ _ (RwsAt.three _ _ _ _ (RwAt.on HR1.out (show Bz wB _ from (by repeat (first | exact Bz.refl _ | refine Bz.st ?_ hbE | refine Bz.st ?_ hbD | refine Bz.st ?_ hbC | refine Bz.st ?_ hbB | refine Bz.st ?_ hbA | refine Bz.al ?_ _ | refine Bz.dr ?_))).b) ⟨blk_bx (by repeat (first | exact BlkV.fresh _ _ _ _ rfl _ (by simp) | refine BlkV.on ?_ hbD | refine BlkV.on ?_ hbC | refine BlkV.on ?_ hbB | refine BlkV.on ?_ hbA | refine BlkV.dr ?_ | refine BlkV.alloc ?_ _)) H4.out.2.2.2.2.2.2.1.symm, fun e => by cases e⟩ (RwAt.on HR2.out (show Bz wD _ from (by repeat (first | exact Bz.refl _ | refine Bz.st ?_ hbE | refine Bz.st ?_ hbD | refine Bz.st ?_ hbC | refine Bz.st ?_ hbB | refine Bz.st ?_ hbA | refine Bz.al ?_ _ | refine Bz.dr ?_))).b) _ (by simp))).mono ?_
        rintro e wE ⟨vE, rfl, hOE, hbE⟩
        unfold joinR at hOE
        simp only [List.flatMap_cons, List.flatMap_nil, List.append_nil] at hOE
        obtain ⟨KK, eKK⟩ : ∃ KK, K1 ++ ([(⟨⟨u, F1⟩, a4, c4⟩ : BxM)] ++ K2) = KK := ⟨_, rfl⟩
        rw [eKK] at hOE
        have HKK := Lib.hid eKK
        clear eKK
        obtain ⟨aE, cE, eE, -⟩ := hOE.sl
        subst eE
        have hzE : Bz w4 wE := (by repeat (first | exact Bz.refl _ | refine Bz.st ?_ hbE | refine Bz.st ?_ hbD | refine Bz.st ?_ hbC | refine Bz.st ?_ hbB | refine Bz.st ?_ hbA | refine Bz.al ?_ _ | refine Bz.dr ?_))
        have hzB : Bz wB wE := (by repeat (first | exact Bz.refl _ | refine Bz.st ?_ hbE | refine Bz.st ?_ hbD | refine Bz.st ?_ hbC | refine Bz.st ?_ hbB | refine Bz.st ?_ hbA | refine Bz.al ?_ _ | refine Bz.dr ?_))
        have hzD : Bz wD wE := (by repeat (first | exact Bz.refl _ | refine Bz.st ?_ hbE | refine Bz.st ?_ hbD | refine Bz.st ?_ hbC | refine Bz.st ?_ hbB | refine Bz.st ?_ hbA | refine Bz.al ?_ _ | refine Bz.dr ?_))
        have hsE := (H4.out.1.on hzE.b).cell 0 _ rfl
        have fE := (H4.out.1.on hzE.b).frozen 0
        have hleaf := push_leaf H4.out.1 H4.out.2.1 H4.out.2.2.2.1 H4.out.2.2.2.2.1 HOB.out HOD.out hzE hzB hzD hOE HKK.out
        have HLF := Lib.hid hleaf
        clear hleaf hOE
        refine hK _ _ (fun _ => (by repeat (first | exact Bz.refl _ | refine Bz.st ?_ hbE | refine Bz.st ?_ hbD | refine Bz.st ?_ hbC | refine Bz.st ?_ hbB | refine Bz.st ?_ hbA | refine Bz.al ?_ _ | refine Bz.dr ?_))) ?_
        clear hK K
        try simp only [Act.put, List.getElem_toArray, List.getElem_cons_zero, List.getElem_cons_succ, List.setIfInBounds_toArray, List.set_cons_zero, List.set_cons_succ]
        refine K_pure (i := 18) (v := Value.pointer (some ⟨R, 0, none⟩)) rfl (by kernel_rfl) (by kernel_rfl) (by kernel_rfl) (by kernel_rfl) (fun _ _ _ h => h) (Or.inl ⟨rfl, fun _ _ => by first | (go_simp; done) | kernel_rfl⟩) (by repeat (first | exact Bz.refl _ | refine Bz.st ?_ hbE | refine Bz.st ?_ hbD | refine Bz.st ?_ hbC | refine Bz.st ?_ hbB | refine Bz.st ?_ hbA | refine Bz.al ?_ _ | refine Bz.dr ?_)) ?_
        try simp only [Act.put, List.getElem_toArray, List.getElem_cons_zero, List.getElem_cons_succ, List.setIfInBounds_toArray, List.set_cons_zero, List.set_cons_succ]
        refine K_ready (rs := [19]) (by kernel_rfl) (by decide) (ReadyK.cons rfl (fun K hK => ?_) ReadyK.nil)
        go_simp
        refine hK _ _ (fun hf => absurd (show true = false from hf) (by decide)) (K_of_any _ _ _ _ (by kernel_rfl) (wpAny_done (by kernel_rfl) ?_ _))
        clear hK K
        try simp only [Act.put, List.getElem_toArray, List.getElem_cons_zero, List.getElem_cons_succ, List.setIfInBounds_toArray, List.set_cons_zero, List.set_cons_succ]
        go_wp2_with fail
        go_meet
        exact ⟨aE, cE, KK, HLF.out.1, HLF.out.2.1, by rw [← HKK.out, bxs_append, bxs_append, HKB.out, HKD.out, List.append_assoc]; rfl, HLF.out.2.2.1, HLF.out.2.2.2⟩
    case rest =>
      obtain ⟨a', c', K, kR, hS, hK, hb, kZ⟩ := hcut
      have hnx : (next : Int) < 4611686018427387904 := by have := HE1.out.2.2.2.2.2.2.1; simp only at this; omega
      have x0 := kR.cell 0 _ rfl
      have x1 := kR.cell 1 _ rfl
      have x2 := kR.cell 2 _ rfl
      have f2 := kR.frozen 2
      have HC := Lib.hid (And.intro kR (And.intro hS (And.intro hK (And.intro hb kZ))))
      clear kR hS hK hb kZ
      go_upto_region 15 with fail
      have k6 := HC.out.1.set 2 (.int .u64 ((next : Int) + 1))
      have z6 := HC.out.2.2.2.2.far ⟨R, 2, none⟩ (by show R + 1 ≠ R; omega) (.int .u64 ((next : Int) + 1))
      have b6 := HC.out.2.2.2.1.setCell (show R ≤ (⟨R, 2, none⟩ : Addr).block from Nat.le_refl _) (.int .u64 ((next : Int) + 1))
      have hk6 : ∀ k, k ≠ R → (wc.setCell ⟨R, 2, none⟩ (.int .u64 ((next : Int) + 1))).heap[k]? = wc.heap[k]? := fun k hk => heap_setCell_other wc ⟨R, 2, none⟩ k _ hk
      have hs6 : (wc.setCell ⟨R, 2, none⟩ (.int .u64 ((next : Int) + 1))).heap.size = wc.heap.size := World.size_setCell _ _ _
      generalize wc.setCell ⟨R, 2, none⟩ _ = w6 at k6 z6 b6 hk6 hs6 ⊢
      have y0 := k6.cell 0 _ rfl
      have y1 := k6.cell 1 _ rfl
      have y2 := k6.cell 2 _ rfl
      have z0 := z6.cell 0 _ rfl
      have z1 := z6.cell 1 _ rfl
      have z2 := z6.cell 2 _ rfl
      have g0 := z6.frozen 0
      have g1 := z6.frozen 1
      have g2 := z6.frozen 2
      have H6 := Lib.hid (And.intro z6 (And.intro b6 (And.intro hk6 hs6)))
      clear k6 z6 b6 hk6 hs6 x0 x1 x2 f2
      go_wp2_with fail
      have HF := H6.out.1.put3 (.slice a' K.length c') (.int .u64 (now : Int)) (.int .u64 ((next : Int) + 1))
      have hbF := below_put3 H6.out.2.1 (R + 1) (by omega) (.slice a' K.length c') (.int .u64 (now : Int)) (.int .u64 ((next : Int) + 1))
      have hfar := put3_far w6 (R + 1) (.slice a' K.length c') (.int .u64 (now : Int)) (.int .u64 ((next : Int) + 1))
      have hsz := put3_size w6 (R + 1) (.slice a' K.length c') (.int .u64 (now : Int)) (.int .u64 ((next : Int) + 1))
      generalize World.setCell _ _ _ = W9 at HF hbF hfar hsz ⊢
      refine bodyPost_ret (results_ctR (p := 6) (q := 7) (T := 56) (by kernel_rfl) _ _ (R + 1) rfl HF Try.underlying56 rfl (by kernel_rfl) _ rfl) rfl ?_
      have hS9 := HC.out.2.1 W9 (by rw [hsz, H6.out.2.2.2]; exact Nat.le_refl _) (fun k h1 h2 => by rw [hfar k h2, H6.out.2.2.1 k h1])
      rw [HN.out.1, H4.out.2.2.2.2.2.1]
      exact ⟨a', c', K, rfl, hS9, HC.out.2.2.1, by first | exact hbF | (rw [eR]; exact hbF)⟩
end Go.Proofs.Ytmmaimopombepaa
