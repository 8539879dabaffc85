/- relay: Tick. -/
import Derived.Test.YtmmaimopombepaaCq
namespace Go.Proofs.Ytmmaimopombepaa
open Go.RowKit
set_option maxRecDepth 100000

theorem fil_leaf {w w4 wE : World} {R bE cE : Nat} {aE : Option Addr} {KK : List BxM} {x0 x1 x2 : Value} {z : List Value}
    (hR4 : BlkV w4 R 56 [x0, x1, x2]) (hZ4 : BlkV w4 (R + 1) 56 z) (hw : Below R w w4) (hzE : Bz w4 wE) (hO : OwnSB wE bE (.slice aE KK.length cE) KK) :
    BlkV (wE.setCell ⟨R, 0, none⟩ (.slice aE KK.length cE)) R 56 [.slice aE KK.length cE, x1, x2] ∧
    (∀ V, (wE.setCell ⟨R, 0, none⟩ (.slice aE KK.length cE)).heap.size ≤ V.heap.size → (∀ k, k ≠ R → k ≠ R + 1 → V.heap[k]? = (wE.setCell ⟨R, 0, none⟩ (.slice aE KK.length cE)).heap[k]?) → SB V aE cE KK) ∧
    Below R w (wE.setCell ⟨R, 0, none⟩ (.slice aE KK.length cE)) ∧ BlkV (wE.setCell ⟨R, 0, none⟩ (.slice aE KK.length cE)) (R + 1) 56 z := by
  have hRE := hR4.on hzE.b
  have hZE := hZ4.on hzE.b
  have hRs : R ≤ w4.heap.size := Nat.le_of_lt hR4.lt
  refine ⟨hRE.set 0 _, fun V hs hk => ?_, (hw.trans (hzE.b.mono hRs)).setCell (Nat.le_refl _) _, hZE.far ⟨R, 0, none⟩ (by show R + 1 ≠ R; omega) _⟩
  have hk2 : ∀ k, k ≠ R → k ≠ R + 1 → V.heap[k]? = wE.heap[k]? := fun k h1 h2 => by rw [hk k h1 h2, heap_setCell_other wE ⟨R, 0, none⟩ k _ h1]
  obtain ⟨a', c', e, h1, h2, h3, -⟩ := OwnE.sl (OwnE.far2 hO.row hRE (by decide) hZE (by decide) hk2)
  injection e with e1 e2 e3
  subst e1
  subst e3
  exact ⟨h2, fun m hm => (OwnE.pm (OwnE.far2 (hO.mls m hm) hRE (by decide) hZE (by decide) hk2)).1, h1, h3⟩
def tickE (r : Rl) (t : Nat) : Int := if ¬ rightR r then 1 else if 1000 < t ∨ 4611686018427387904 ≤ r.now + t then 2 else 0
def tickR (r : Rl) (t : Nat) : Rl := ⟨filtB (fun _ m => youngB (r.now + t) m) r.bx, r.now + t, r.next⟩
def tickQ (r : Rl) (t : Nat) : Rl := if tickE r t = 0 then tickR r t else ⟨[], 0, 0⟩
set_option maxHeartbeats 16000000 in
theorem tick_any (a : Option Addr) (c : Nat) (L : List BxM) (now next : Nat) (hn : now < 18446744073709551616) (hf : FewB L) (t : Nat) (w : World) (h : SB w a c L) :
    Calls Try.prog 49 #[.agg #[.slice a L.length c, .int .u64 (now : Int), .int .u64 (next : Int)], .int .u64 (t : Int)] w fun e w' => ∃ (a' : Option Addr) (c' : Nat) (K : List BxM), e = .returned (.tuple #[.agg #[.slice a' K.length c', .int .u64 ((tickQ ⟨bxs L, now, next⟩ t).now : Int), .int .u64 ((tickQ ⟨bxs L, now, next⟩ t).next : Int)], .int .i64 (tickE ⟨bxs L, now, next⟩ t)]) ∧ SB w' a' c' K ∧ bxs K = (tickQ ⟨bxs L, now, next⟩ t).bx ∧ Below w.heap.size w w' := by
  obtain ⟨len, elen⟩ : ∃ len, L.length = len := ⟨_, rfl⟩
  have hsl := bxs_length L
  rw [elen] at hsl ⊢
  obtain ⟨W0, eW0⟩ : ∃ W0, (w.alloc (.cells #[.slice a len c, .int .u64 (now : Int), .int .u64 (next : Int)] 56)).alloc (.cells #[.slice none 0 0, .int .u64 0, .int .u64 0] 56) = W0 := ⟨_, rfl⟩
  have b0 : Below w.heap.size w W0 := by rw [← eW0]; exact ((Below.refl _ w).alloc (Nat.le_refl _) _).alloc (by simp) _
  obtain ⟨R, eR⟩ : ∃ R, w.heap.size = R := ⟨_, rfl⟩
  have kR : BlkV W0 R 56 [.slice a len c, .int .u64 (now : Int), .int .u64 (next : Int)] := by rw [← eW0, ← eR]; exact (BlkV.fresh w _ _ _ rfl _ rfl).alloc _
  have kZ : BlkV W0 (R + 1) 56 [.slice none 0 0, .int .u64 0, .int .u64 0] := by rw [← eW0, ← eR]; exact BlkV.fresh _ _ _ _ rfl _ (by simp)
  have d0 := kR.cell 0 _ rfl
  have d1 := kR.cell 1 _ rfl
  have d2 := kR.cell 2 _ rfl
  have hR := rightRl_any a c L now next hn hf.2 W0 (h.on b0)
  rw [elen] at hR
  have HR := Lib.hid hR
  have HK := Lib.hid (And.intro (show Below R w W0 by rw [← eR]; exact b0) (And.intro kR (And.intro (h.on b0) hf)))
  have HKZ := Lib.hid kZ
  have HSw := Lib.hid (show ∀ V, Below R w V → SB V a c L from fun V hV => h.on (by rw [eR]; exact hV))
  have HRW := Lib.hid (show R ≤ W0.heap.size by rw [← eR]; exact b0.size)
  obtain ⟨E, eE⟩ : ∃ E, tickE ⟨bxs L, now, next⟩ t = E := ⟨_, rfl⟩
  obtain ⟨Q, eQ⟩ : ∃ Q, tickQ ⟨bxs L, now, next⟩ t = Q := ⟨_, rfl⟩
  have hQ : Q = if E = 0 then tickR ⟨bxs L, now, next⟩ t else ⟨[], 0, 0⟩ := by rw [← eQ, ← eE]; rfl
  have hE : E = tickE ⟨bxs L, now, next⟩ t := eE.symm
  unfold tickE at hE
  rw [eE, eQ]
  have HE := Lib.hid (And.intro hE hQ)
  clear b0 kR kZ h hf eE eQ hR hQ hE
  go_enter Try.func49, Try.ntmps49
  go_upto_region 1 with fail
  clear eW0
  by_cases hr : rightR ⟨bxs L, now, next⟩
  case neg =>
    rw [decide_eq_false hr] at HR
    have e1 := HE.out.1.trans (if_pos hr)
    have HN := Lib.hid (show E = 1 ∧ Q = ⟨[], 0, 0⟩ from ⟨e1, HE.out.2.trans (if_neg (by rw [e1]; decide))⟩)
    clear hr e1
    go_wp2_with fail
    refine HR.out.mono ?_
    rintro e w1 ⟨rfl, hb1⟩
    have kZ := HKZ.out.on hb1
    have z0 := kZ.cell 0 _ rfl
    have z1 := kZ.cell 1 _ rfl
    have z2 := kZ.cell 2 _ rfl
    have g0 := kZ.frozen 0
    have g1 := kZ.frozen 1
    have g2 := kZ.frozen 2
    have HZZ := Lib.hid (And.intro kZ (HK.out.1.trans (hb1.mono HRW.out)))
    clear kZ
    go_wp2_with fail
    have HF := HZZ.out.1.put3 (.slice none 0 0) (.int .u64 0) (.int .u64 0)
    have hbF := below_put3 HZZ.out.2 (R + 1) (by omega) (.slice none 0 0) (.int .u64 0) (.int .u64 0)
    generalize World.setCell _ _ _ = W9 at HF hbF ⊢
    refine bodyPost_ret (results_ctR (p := 4) (q := 5) (T := 56) (by kernel_rfl) _ _ (R + 1) rfl HF Try.underlying56 rfl (by kernel_rfl) _ rfl) rfl ?_
    rw [HN.out.1, HN.out.2]
    exact ⟨none, 0, [], rfl, SB.empty _, rfl, by first | exact hbF | (rw [eR]; exact hbF)⟩
  rw [decide_eq_true hr] at HR
  have h1 := HE.out.1.trans (if_neg (fun g => g hr))
  have hnw : now < 4611686018427387904 := hr.2.1
  have HE1 := Lib.hid (And.intro h1 HE.out.2)
  clear hr h1 HE
  go_wp2_with fail
  refine HR.out.mono ?_
  rintro e w1 ⟨rfl, hb1⟩
  have k1 := HK.out.2.1.on hb1
  have e0 := k1.cell 0 _ rfl
  have e1 := k1.cell 1 _ rfl
  have e2 := k1.cell 2 _ rfl
  have f1 := k1.frozen 1
  have HB1 := Lib.hid (And.intro hb1 (And.intro (HK.out.1.trans (hb1.mono HRW.out)) k1))
  clear hb1 HR k1 d0 d1 d2
  by_cases ct : 1000 < t
  · have ctz : (t : Int) > 1000 := by omega
    have e3 := HE1.out.1.trans (if_pos (Or.inl ct))
    have HN := Lib.hid (show E = 2 ∧ Q = ⟨[], 0, 0⟩ from ⟨e3, HE1.out.2.trans (if_neg (by rw [e3]; decide))⟩)
    clear ct e3
    have kZ := HKZ.out.on HB1.out.1
    have z0 := kZ.cell 0 _ rfl
    have z1 := kZ.cell 1 _ rfl
    have z2 := kZ.cell 2 _ rfl
    have g0 := kZ.frozen 0
    have g1 := kZ.frozen 1
    have g2 := kZ.frozen 2
    have HZZ := Lib.hid (And.intro kZ (HB1.out.2.1))
    clear kZ
    go_wp2_with fail
    have HF := HZZ.out.1.put3 (.slice none 0 0) (.int .u64 0) (.int .u64 0)
    have hbF := below_put3 HZZ.out.2 (R + 1) (by omega) (.slice none 0 0) (.int .u64 0) (.int .u64 0)
    generalize World.setCell _ _ _ = W9 at HF hbF ⊢
    refine bodyPost_ret (results_ctR (p := 4) (q := 5) (T := 56) (by kernel_rfl) _ _ (R + 1) rfl HF Try.underlying56 rfl (by kernel_rfl) _ rfl) rfl ?_
    rw [HN.out.1, HN.out.2]
    exact ⟨none, 0, [], rfl, SB.empty _, rfl, by first | exact hbF | (rw [eR]; exact hbF)⟩
  have ctz : ¬ (t : Int) > 1000 := by omega
  have hnz : (now : Int) < 4611686018427387904 := by omega
  by_cases cn : 4611686018427387904 ≤ now + t
  · have cnz : (now : Int) + (t : Int) ≥ 4611686018427387904 := by omega
    have e3 := HE1.out.1.trans (if_pos (Or.inr cn))
    have HN := Lib.hid (show E = 2 ∧ Q = ⟨[], 0, 0⟩ from ⟨e3, HE1.out.2.trans (if_neg (by rw [e3]; decide))⟩)
    have hwr : IntKind.u64.wrap ((now : Int) + (t : Int)) = (now : Int) + (t : Int) := by show ((now : Int) + (t : Int)) % 18446744073709551616 = _; omega
    clear cn e3
    have kZ := HKZ.out.on HB1.out.1
    have z0 := kZ.cell 0 _ rfl
    have z1 := kZ.cell 1 _ rfl
    have z2 := kZ.cell 2 _ rfl
    have g0 := kZ.frozen 0
    have g1 := kZ.frozen 1
    have g2 := kZ.frozen 2
    have HZZ := Lib.hid (And.intro kZ (HB1.out.2.1))
    clear kZ
    go_wp2_with fail
    have HF := HZZ.out.1.put3 (.slice none 0 0) (.int .u64 0) (.int .u64 0)
    have hbF := below_put3 HZZ.out.2 (R + 1) (by omega) (.slice none 0 0) (.int .u64 0) (.int .u64 0)
    generalize World.setCell _ _ _ = W9 at HF hbF ⊢
    refine bodyPost_ret (results_ctR (p := 4) (q := 5) (T := 56) (by kernel_rfl) _ _ (R + 1) rfl HF Try.underlying56 rfl (by kernel_rfl) _ rfl) rfl ?_
    rw [HN.out.1, HN.out.2]
    exact ⟨none, 0, [], rfl, SB.empty _, rfl, by first | exact hbF | (rw [eR]; exact hbF)⟩
  have e3 := HE1.out.1.trans (if_neg (show ¬ (1000 < t ∨ 4611686018427387904 ≤ now + t) by omega))
  have HN := Lib.hid (And.intro e3 (HE1.out.2.trans (if_pos e3)))
  obtain ⟨nt, ent⟩ : ∃ nt : Nat, now + t = nt := ⟨_, rfl⟩
  have entz : (now : Int) + (t : Int) = (nt : Int) := by omega
  have hwr : IntKind.u64.wrap (nt : Int) = (nt : Int) := by show (nt : Int) % 18446744073709551616 = _; omega
  have hq1 : decide (4611686018427387904 ≤ nt) = false := decide_eq_false (by omega)
  have hq2 : ((4611686018427387904 : Int) ≤ (nt : Int)) = False := eq_false (by omega)
  clear cn ct e3 HE1 hnz
  have HENT := Lib.hid ent
  clear ent
  go_upto_region 6 with fail
  have ent := HENT.out
  have hQ5 := HN.out.2
  unfold tickR at hQ5
  simp only [ent] at hQ5
  have hE5 := HN.out.1
  have k4 := HB1.out.2.2.set 1 (.int .u64 (nt : Int))
  have kz4 := (HKZ.out.on HB1.out.1).far ⟨R, 1, none⟩ (by show R + 1 ≠ R; omega) (.int .u64 (nt : Int))
  have b4 := HB1.out.2.1.setCell (show R ≤ (⟨R, 1, none⟩ : Addr).block from Nat.le_refl _) (.int .u64 (nt : Int))
  generalize w1.setCell ⟨R, 1, none⟩ _ = w4 at k4 kz4 b4 ⊢
  have hFi := fun (ac : Option Addr) (cc : Nat) (C : List Flt) (V : World) (hS : SB V a c L) (hC : FS V ac cc C) => filtered_any a c L HK.out.2.2.2 ac cc C V hS hC
  simp only [elen] at hFi
  have HFi := Lib.hid hFi
  have H4 := Lib.hid (And.intro k4 (And.intro kz4 (And.intro (HSw.out _ b4) (And.intro b4 (And.intro hQ5 hE5)))))
  clear k4 kz4 b4 hQ5 hE5 hFi e0 e1 e2 f1 HB1 HN hwr hq1 hq2 entz ent
  go_cut [] from 25 to 32 (fun wx => ∃ (a' : Option Addr) (c' : Nat) (K : List BxM), BlkV wx R 56 [.slice a' K.length c', .int .u64 (nt : Int), .int .u64 (next : Int)] ∧ (∀ V, wx.heap.size ≤ V.heap.size → (∀ k, k ≠ R → k ≠ R + 1 → V.heap[k]? = wx.heap[k]?) → SB V a' c' K) ∧ bxs K = filtB (fun _ m => youngB nt m) (bxs L) ∧ Below R w wx ∧ BlkV wx (R + 1) 56 [.slice none 0 0, .int .u64 0, .int .u64 0])
  case first =>
    refine region_K 8 (fun V => Bz w4 V) (by kernel_rfl) ?_
    refine K_pure (i := 0) (v := Value.pointer (some ⟨R, 0, none⟩)) rfl (by kernel_rfl) (by kernel_rfl) (by kernel_rfl) (by kernel_rfl) (fun _ _ _ h => h) (Or.inl ⟨rfl, fun _ _ => by first | (go_simp; done) | kernel_rfl⟩) (by repeat (first | exact Bz.refl _ | refine Bz.st ?_ hbE | refine Bz.st ?_ hbD | refine Bz.st ?_ hbC | refine Bz.st ?_ hbB | refine Bz.st ?_ hbA | refine Bz.al ?_ _ | refine Bz.dr ?_)) ?_
    try simp only [Act.put, List.getElem_toArray, List.getElem_cons_zero, List.setIfInBounds_toArray, List.set_cons_zero, List.set_cons_succ]
    refine K_pure (i := 2) (v := Value.pointer (some ⟨R, 1, none⟩)) rfl (by kernel_rfl) (by kernel_rfl) (by kernel_rfl) (by kernel_rfl) (fun _ _ _ h => h) (Or.inl ⟨rfl, fun _ _ => by first | (go_simp; done) | kernel_rfl⟩) (by repeat (first | exact Bz.refl _ | refine Bz.st ?_ hbE | refine Bz.st ?_ hbD | refine Bz.st ?_ hbC | refine Bz.st ?_ hbB | refine Bz.st ?_ hbA | refine Bz.al ?_ _ | refine Bz.dr ?_)) ?_
    try simp only [Act.put, List.getElem_toArray, List.getElem_cons_zero, List.getElem_cons_succ, List.setIfInBounds_toArray, List.set_cons_zero, List.set_cons_succ]
    refine K_take (i := 1) (v := Value.slice a len c) rfl (by kernel_rfl) (by kernel_rfl) (by kernel_rfl) (by kernel_rfl) (by kernel_rfl) (fun _ _ _ h => h) (Or.inl ⟨rfl, fun W hW => by have hc := (H4.out.1.on hW.b).cell 0 _ rfl; go_simp⟩) (by repeat (first | exact Bz.refl _ | refine Bz.st ?_ hbE | refine Bz.st ?_ hbD | refine Bz.st ?_ hbC | refine Bz.st ?_ hbB | refine Bz.st ?_ hbA | refine Bz.al ?_ _ | refine Bz.dr ?_)) ?_
    try simp only [Act.put, List.getElem_toArray, List.getElem_cons_zero, List.getElem_cons_succ, List.setIfInBounds_toArray, List.set_cons_zero, List.set_cons_succ]
    refine K_take (i := 3) (v := Value.int .u64 (nt : Int)) rfl (by kernel_rfl) (by kernel_rfl) (by kernel_rfl) (by kernel_rfl) (by kernel_rfl) (fun _ _ _ h => h) (Or.inl ⟨rfl, fun W hW => by have hc := (H4.out.1.on hW.b).cell 1 _ rfl; go_simp⟩) (by repeat (first | exact Bz.refl _ | refine Bz.st ?_ hbE | refine Bz.st ?_ hbD | refine Bz.st ?_ hbC | refine Bz.st ?_ hbB | refine Bz.st ?_ hbA | refine Bz.al ?_ _ | refine Bz.dr ?_)) ?_
    try simp only [Act.put, List.getElem_toArray, List.getElem_cons_zero, List.getElem_cons_succ, List.setIfInBounds_toArray, List.set_cons_zero, List.set_cons_succ]
    refine K_ready (rs := [4]) (by kernel_rfl) (by decide) (ReadyK.cons rfl (fun K hK => ?_) ReadyK.nil)
    go_simp
    refine (youngAt_any nt _).mono ?_
    rintro e wA ⟨B1, rfl, hFA, hbA⟩
    refine hK _ _ (fun _ => (by repeat (first | exact Bz.refl _ | refine Bz.st ?_ hbE | refine Bz.st ?_ hbD | refine Bz.st ?_ hbC | refine Bz.st ?_ hbB | refine Bz.st ?_ hbA | refine Bz.al ?_ _ | refine Bz.dr ?_))) ?_
    clear hK K
    try simp only [Act.put, List.getElem_toArray, List.getElem_cons_zero, List.getElem_cons_succ, List.setIfInBounds_toArray, List.set_cons_zero, List.set_cons_succ]
    refine K_ready (rs := [5]) (by kernel_rfl) (by decide) (ReadyK.cons rfl (fun K hK => ?_) ReadyK.nil)
    go_simp
    refine hK _ _ (fun _ => (by repeat (first | exact Bz.refl _ | refine Bz.st ?_ hbE | refine Bz.st ?_ hbD | refine Bz.st ?_ hbC | refine Bz.st ?_ hbB | refine Bz.st ?_ hbA | refine Bz.al ?_ _ | refine Bz.dr ?_))) ?_
    clear hK K
    try simp only [Act.put, List.getElem_toArray, List.getElem_cons_zero, List.getElem_cons_succ, List.setIfInBounds_toArray, List.set_cons_zero, List.set_cons_succ]
    refine K_ready (rs := [6]) (by kernel_rfl) (by decide) (ReadyK.cons rfl (fun K hK => ?_) ReadyK.nil)
    go_simp
    refine (HFi.out (some ⟨_, 0, none⟩) 1 [⟨105, B1, fun _ m => youngB nt m⟩] _ (H4.out.2.2.1.on (show Bz w4 _ from (by repeat (first | exact Bz.refl _ | refine Bz.st ?_ hbE | refine Bz.st ?_ hbD | refine Bz.st ?_ hbC | refine Bz.st ?_ hbB | refine Bz.st ?_ hbA | refine Bz.al ?_ _ | refine Bz.dr ?_))).b) (FS.oneN (IsF.on hFA (show Bz wA _ from (by repeat (first | exact Bz.refl _ | refine Bz.st ?_ hbE | refine Bz.st ?_ hbD | refine Bz.st ?_ hbC | refine Bz.st ?_ hbB | refine Bz.st ?_ hbA | refine Bz.al ?_ _ | refine Bz.dr ?_))).b) _ (by simp))).mono ?_
    rintro e wE ⟨vE, K1, rfl, hOE, hKE, hbE⟩
    obtain ⟨aE, cE, eE, -⟩ := hOE.sb
    subst eE
    rw [allP_one] at hKE
    have hzE : Bz w4 wE := (by repeat (first | exact Bz.refl _ | refine Bz.st ?_ hbE | refine Bz.st ?_ hbD | refine Bz.st ?_ hbC | refine Bz.st ?_ hbB | refine Bz.st ?_ hbA | refine Bz.al ?_ _ | refine Bz.dr ?_))
    have hsE := (H4.out.1.on hzE.b).cell 0 _ rfl
    have fE := (H4.out.1.on hzE.b).frozen 0
    have HKE := Lib.hid hKE
    have hleaf := fil_leaf H4.out.1 H4.out.2.1 H4.out.2.2.2.1 hzE hOE
    have HLF := Lib.hid hleaf
    clear hleaf hOE hKE
    refine hK _ _ (fun _ => (by repeat (first | exact Bz.refl _ | refine Bz.st ?_ hbE | refine Bz.st ?_ hbD | refine Bz.st ?_ hbC | refine Bz.st ?_ hbB | refine Bz.st ?_ hbA | refine Bz.al ?_ _ | refine Bz.dr ?_))) ?_
    clear hK K
    try simp only [Act.put, List.getElem_toArray, List.getElem_cons_zero, List.getElem_cons_succ, List.setIfInBounds_toArray, List.set_cons_zero, List.set_cons_succ]
    refine K_pure (i := 7) (v := Value.pointer (some ⟨R, 0, none⟩)) rfl (by kernel_rfl) (by kernel_rfl) (by kernel_rfl) (by kernel_rfl) (fun _ _ _ h => h) (Or.inl ⟨rfl, fun _ _ => by first | (go_simp; done) | kernel_rfl⟩) (by repeat (first | exact Bz.refl _ | refine Bz.st ?_ hbE | refine Bz.st ?_ hbD | refine Bz.st ?_ hbC | refine Bz.st ?_ hbB | refine Bz.st ?_ hbA | refine Bz.al ?_ _ | refine Bz.dr ?_)) ?_
    try simp only [Act.put, List.getElem_toArray, List.getElem_cons_zero, List.getElem_cons_succ, List.setIfInBounds_toArray, List.set_cons_zero, List.set_cons_succ]
    refine K_ready (rs := [8]) (by kernel_rfl) (by decide) (ReadyK.cons rfl (fun K hK => ?_) ReadyK.nil)
    go_simp
    refine hK _ _ (fun hf => absurd (show true = false from hf) (by decide)) (K_of_any _ _ _ _ (by kernel_rfl) (wpAny_done (by kernel_rfl) ?_ _))
    clear hK K
    try simp only [Act.put, List.getElem_toArray, List.getElem_cons_zero, List.getElem_cons_succ, List.setIfInBounds_toArray, List.set_cons_zero, List.set_cons_succ]
    go_wp2_with fail
    go_meet
    exact ⟨aE, cE, K1, HLF.out.1, HLF.out.2.1, HKE.out, HLF.out.2.2.1, HLF.out.2.2.2⟩
  case rest =>
    obtain ⟨a', c', K, kR, hS, hK, hb, kZ⟩ := hcut
    have y0 := kR.cell 0 _ rfl
    have y1 := kR.cell 1 _ rfl
    have y2 := kR.cell 2 _ rfl
    have z0 := kZ.cell 0 _ rfl
    have z1 := kZ.cell 1 _ rfl
    have z2 := kZ.cell 2 _ rfl
    have g0 := kZ.frozen 0
    have g1 := kZ.frozen 1
    have g2 := kZ.frozen 2
    have HC := Lib.hid (And.intro kR (And.intro hS (And.intro hK (And.intro hb kZ))))
    clear kR hS hK hb kZ
    go_wp2_with fail
    have HF := HC.out.2.2.2.2.put3 (.slice a' K.length c') (.int .u64 (nt : Int)) (.int .u64 (next : Int))
    have hbF := below_put3 HC.out.2.2.2.1 (R + 1) (by omega) (.slice a' K.length c') (.int .u64 (nt : Int)) (.int .u64 (next : Int))
    have hfar := put3_far wc (R + 1) (.slice a' K.length c') (.int .u64 (nt : Int)) (.int .u64 (next : Int))
    have hsz := put3_size wc (R + 1) (.slice a' K.length c') (.int .u64 (nt : Int)) (.int .u64 (next : Int))
    generalize World.setCell _ _ _ = W9 at HF hbF hfar hsz ⊢
    refine bodyPost_ret (results_ctR (p := 4) (q := 5) (T := 56) (by kernel_rfl) _ _ (R + 1) rfl HF Try.underlying56 rfl (by kernel_rfl) _ rfl) rfl ?_
    have hS9 := HC.out.2.1 W9 (by rw [hsz]; exact Nat.le_refl _) (fun k h1 h2 => hfar k h2)
    rw [H4.out.2.2.2.2.2, H4.out.2.2.2.2.1]
    exact ⟨a', c', K, rfl, hS9, HC.out.2.2.1, by first | exact hbF | (rw [eR]; exact hbF)⟩
end Go.Proofs.Ytmmaimopombepaa
