/- relay: Ack. -/
import Derived.Test.YtmmaimopombepaaCr
import Derived.Deep.RegionHeld3
namespace Go.Proofs.Ytmmaimopombepaa
open Go.RowKit
set_option maxRecDepth 100000

def ackE (r : Rl) (u id : Nat) : Int := if ¬ rightR r then 1 else if (mailsR r.bx u).filter (fun m => decide (m.id = id)) = [] then 5 else 0
def ackR (r : Rl) (u id : Nat) : Rl := ⟨withB r.bx u ((mailsR r.bx u).filter fun m => !decide (m.id = id)), r.now, r.next⟩
def ackQ (r : Rl) (u id : Nat) : Rl := if ackE r u id = 0 then ackR r u id else ⟨[], 0, 0⟩
theorem keepA {V : World} {p : Addr} {v : Value} (h : V.cell? p = some v) (o : Obj) : (V.alloc o).cell? p = some v := (((Below.refl _ V).alloc (Nat.le_refl _) o).cell (block_lt_of_cell h)).trans h
theorem keepD {V : World} {p : Addr} {v : Value} (h : V.cell? p = some v) : V.drew.cell? p = some v := h
theorem allP_two (x y : Flt) : allP [x, y] = fun u m => (x.p u m && y.p u m) := by
  funext u m
  unfold allP
  simp
theorem filtB_ack (l : List Bx) (u id : Nat) (hr : risesB l) : filtB (fun v m => (decide (v = u) && decide (m.id = id))) l = if (mailsR l u).filter (fun m => decide (m.id = id)) = [] then [] else [⟨u, (mailsR l u).filter (fun m => decide (m.id = id))⟩] := by
  have h := filtB_of (fun v m => (decide (v = u) && decide (m.id = id))) l u hr (fun v m h => by rw [decide_eq_false h]; rfl)
  have e : (mailsR l u).filter (fun m => (decide (u = u) && decide (m.id = id))) = (mailsR l u).filter (fun m => decide (m.id = id)) := by
    congr 1
    funext m
    rw [decide_eq_true rfl, Bool.true_and]
  rw [h]
  show (if (mailsR l u).filter (fun m => (decide (u = u) && decide (m.id = id))) = [] then [] else [(⟨u, (mailsR l u).filter (fun m => (decide (u = u) && decide (m.id = id)))⟩ : Bx)]) = _
  rw [e]
theorem filtB_left (l : List Bx) (u id : Nat) (hr : risesB l) (hn : ∀ b ∈ l, b.ml ≠ []) : filtB (fun v m => !(decide (v = u) && decide (m.id = id))) l = withB l u ((mailsR l u).filter fun m => !decide (m.id = id)) := by
  have h := filtB_but (fun v m => !(decide (v = u) && decide (m.id = id))) l u hr hn (fun v m h => by rw [decide_eq_false h]; rfl)
  have e : (mailsR l u).filter (fun m => !(decide (u = u) && decide (m.id = id))) = (mailsR l u).filter (fun m => !decide (m.id = id)) := by
    congr 1
    funext m
    rw [decide_eq_true rfl, Bool.true_and]
  rw [h]
  show withB l u ((mailsR l u).filter (fun m => !(decide (u = u) && decide (m.id = id)))) = _
  rw [e]
set_option maxHeartbeats 16000000 in
theorem ack_any (a : Option Addr) (c : Nat) (L : List BxM) (now next : Nat) (hn : now < 18446744073709551616) (hf : FewB L) (u id : Nat) (w : World) (h : SB w a c L) :
    Calls Try.prog 44 #[.agg #[.slice a L.length c, .int .u64 (now : Int), .int .u64 (next : Int)], .int .u64 (u : Int), .int .u64 (id : Int)] w fun e w' => ∃ (a' : Option Addr) (c' : Nat) (K : List BxM), e = .returned (.tuple #[.agg #[.slice a' K.length c', .int .u64 ((ackQ ⟨bxs L, now, next⟩ u id).now : Int), .int .u64 ((ackQ ⟨bxs L, now, next⟩ u id).next : Int)], .int .i64 (ackE ⟨bxs L, now, next⟩ u id)]) ∧ SB w' a' c' K ∧ bxs K = (ackQ ⟨bxs L, now, next⟩ u id).bx ∧ Below w.heap.size w w' := by
  obtain ⟨len, elen⟩ : ∃ len, L.length = len := ⟨_, rfl⟩
  have hsl := bxs_length L
  rw [elen] at hsl ⊢
  obtain ⟨W0, eW0⟩ : ∃ W0, (w.alloc (.cells #[.slice a len c, .int .u64 (now : Int), .int .u64 (next : Int)] 56)).alloc (.cells #[.slice none 0 0, .int .u64 0, .int .u64 0] 56) = W0 := ⟨_, rfl⟩
  have b0 : Below w.heap.size w W0 := by rw [← eW0]; exact ((Below.refl _ w).alloc (Nat.le_refl _) _).alloc (by simp) _
  obtain ⟨R, eR⟩ : ∃ R, w.heap.size = R := ⟨_, rfl⟩
  have kR : BlkV W0 R 56 [.slice a len c, .int .u64 (now : Int), .int .u64 (next : Int)] := by rw [← eW0, ← eR]; exact (BlkV.fresh w _ _ _ rfl _ rfl).alloc _
  have kZ : BlkV W0 (R + 1) 56 [.slice none 0 0, .int .u64 0, .int .u64 0] := by rw [← eW0, ← eR]; exact BlkV.fresh _ _ _ _ rfl _ (by simp)
  have d0 := kR.cell 0 _ rfl
  have d1 := kR.cell 1 _ rfl
  have d2 := kR.cell 2 _ rfl
  have hR := rightRl_any a c L now next hn hf.2 W0 (h.on b0)
  rw [elen] at hR
  have HR := Lib.hid hR
  have HK := Lib.hid (And.intro (show Below R w W0 by rw [← eR]; exact b0) (And.intro kR (And.intro (h.on b0) hf)))
  have HKZ := Lib.hid kZ
  have HSw := Lib.hid (show ∀ V, Below R w V → SB V a c L from fun V hV => h.on (by rw [eR]; exact hV))
  have HRW := Lib.hid (show R ≤ W0.heap.size by rw [← eR]; exact b0.size)
  obtain ⟨E, eE⟩ : ∃ E, ackE ⟨bxs L, now, next⟩ u id = E := ⟨_, rfl⟩
  obtain ⟨Q, eQ⟩ : ∃ Q, ackQ ⟨bxs L, now, next⟩ u id = Q := ⟨_, rfl⟩
  have hQ : Q = if E = 0 then ackR ⟨bxs L, now, next⟩ u id else ⟨[], 0, 0⟩ := by rw [← eQ, ← eE]; rfl
  have hE : E = ackE ⟨bxs L, now, next⟩ u id := eE.symm
  unfold ackE at hE
  rw [eE, eQ]
  have HE := Lib.hid (And.intro hE hQ)
  clear b0 kR kZ h hf eE eQ hR hQ hE
  go_enter Try.func44, Try.ntmps44
  go_upto_region 1 with fail
  clear eW0
  by_cases hr : rightR ⟨bxs L, now, next⟩
  case neg =>
    rw [decide_eq_false hr] at HR
    have e1 := HE.out.1.trans (if_pos hr)
    have HN := Lib.hid (show E = 1 ∧ Q = ⟨[], 0, 0⟩ from ⟨e1, HE.out.2.trans (if_neg (by rw [e1]; decide))⟩)
    clear hr e1
    go_wp2_with fail
    refine HR.out.mono ?_
    rintro e w1 ⟨rfl, hb1⟩
    have kZ := HKZ.out.on hb1
    have z0 := kZ.cell 0 _ rfl
    have z1 := kZ.cell 1 _ rfl
    have z2 := kZ.cell 2 _ rfl
    have g0 := kZ.frozen 0
    have g1 := kZ.frozen 1
    have g2 := kZ.frozen 2
    have HZZ := Lib.hid (And.intro kZ (HK.out.1.trans (hb1.mono HRW.out)))
    clear kZ
    go_wp2_with fail
    have HF := HZZ.out.1.put3 (.slice none 0 0) (.int .u64 0) (.int .u64 0)
    have hbF := below_put3 HZZ.out.2 (R + 1) (by omega) (.slice none 0 0) (.int .u64 0) (.int .u64 0)
    generalize World.setCell _ _ _ = W9 at HF hbF ⊢
    refine bodyPost_ret (results_ctR (p := 6) (q := 7) (T := 56) (by kernel_rfl) _ _ (R + 1) rfl HF Try.underlying56 rfl (by kernel_rfl) _ rfl) rfl ?_
    rw [HN.out.1, HN.out.2]
    exact ⟨none, 0, [], rfl, SB.empty _, rfl, by first | exact hbF | (rw [eR]; exact hbF)⟩
  rw [decide_eq_true hr] at HR
  have h1 := HE.out.1.trans (if_neg (fun g => g hr))
  have hfa := filtB_ack (bxs L) u id hr.2.2.2.2
  have hfl := filtB_left (bxs L) u id hr.2.2.2.2 (right_some hr)
  have HE1 := Lib.hid (And.intro h1 (And.intro HE.out.2 (And.intro hfa hfl)))
  clear hr h1 HE hfa hfl
  go_wp2_with fail
  refine HR.out.mono ?_
  rintro e w4 ⟨rfl, hb1⟩
  have k1 := HK.out.2.1.on hb1
  have e0 := k1.cell 0 _ rfl
  have hFi := fun (ac : Option Addr) (cc : Nat) (C : List Flt) (V : World) (hS : SB V a c L) (hC : FS V ac cc C) => filtered_any a c L HK.out.2.2.2 ac cc C V hS hC
  simp only [elen] at hFi
  have HFi := Lib.hid hFi
  have H4 := Lib.hid (And.intro k1 (And.intro (HKZ.out.on hb1) (And.intro (HK.out.2.2.1.on hb1) (HK.out.1.trans (hb1.mono HRW.out)))))
  have H4W := Lib.hid hb1
  clear hb1 HR k1 d0 d1 d2 hFi
  go_upto_region 3 with fail
  obtain ⟨G, eG⟩ : ∃ G, (mailsR (bxs L) u).filter (fun m => decide (m.id = id)) = G := ⟨_, rfl⟩
  have hE3 := HE1.out.1
  have hF3 := HE1.out.2.2.1
  simp only [eG] at hE3 hF3
  have HG := Lib.hid (And.intro hE3 hF3)
  clear hE3 hF3 eG
  go_cut [21] from 12 to 20 (fun v wx => v = .bool (decide (G = [])) ∧ Bz w4 wx)
  case first =>
    go_region_held3 (fun V : World => V.cell? ⟨R, 0, none⟩ = some (.slice a len c))
      (first | with_reducible assumption | (with_reducible refine keepA ?_ _; with_reducible assumption) | (refine keepD ?_; with_reducible assumption) | (refine keepD (keepA ?_ _); with_reducible assumption))
      (first
        | (go_at_call 71; refine (HFi.out (some ⟨_, 0, none⟩) 2 [⟨102, B1, fun v _ => decide (v = u)⟩, ⟨103, B2, fun _ m => decide (m.id = id)⟩] _ (H4.out.2.2.1.on (show Bz w4 _ from (by repeat (first | exact Bz.refl _ | refine Bz.st ?_ hbE | refine Bz.st ?_ hbD | refine Bz.st ?_ hbC | refine Bz.st ?_ hbB | refine Bz.st ?_ hbA | refine Bz.al ?_ _ | refine Bz.dr ?_))).b) (FS.two (IsF.on hFA (show Bz wA _ from (by repeat (first | exact Bz.refl _ | refine Bz.st ?_ hbE | refine Bz.st ?_ hbD | refine Bz.st ?_ hbC | refine Bz.st ?_ hbB | refine Bz.st ?_ hbA | refine Bz.al ?_ _ | refine Bz.dr ?_))).b) (IsF.on hFB (show Bz wB _ from (by repeat (first | exact Bz.refl _ | refine Bz.st ?_ hbE | refine Bz.st ?_ hbD | refine Bz.st ?_ hbC | refine Bz.st ?_ hbB | refine Bz.st ?_ hbA | refine Bz.al ?_ _ | refine Bz.dr ?_))).b) _ (by simp))).mono ?_; rintro e wE ⟨vE, K1, rfl, hOE, hKE, hbE⟩; obtain ⟨aE, cE, eE, -⟩ := hOE.sb; subst eE; rw [allP_two] at hKE; have hzE : Bz w4 wE := (by repeat (first | exact Bz.refl _ | refine Bz.st ?_ hbE | refine Bz.st ?_ hbD | refine Bz.st ?_ hbC | refine Bz.st ?_ hbB | refine Bz.st ?_ hbA | refine Bz.al ?_ _ | refine Bz.dr ?_)); have hsE := (H4.out.1.on hzE.b).cell 0 _ rfl; have hK2 := hKE.trans HG.out.2; obtain ⟨kl, ekl⟩ : ∃ kl, K1.length = kl := ⟨_, rfl⟩; have HKK := Lib.hid (And.intro hK2 ekl); rw [ekl]; clear hOE hKE hK2 ekl)
        | (go_at_call 81; refine (numbered_any id _).mono ?_; rintro e wB ⟨B2, rfl, hFB, hbB⟩; have hzB0 : Bz w4 wB := (by repeat (first | exact Bz.refl _ | refine Bz.st ?_ hbE | refine Bz.st ?_ hbD | refine Bz.st ?_ hbC | refine Bz.st ?_ hbB | refine Bz.st ?_ hbA | refine Bz.al ?_ _ | refine Bz.dr ?_)); have hsB := (H4.out.1.on hzB0.b).cell 0 _ rfl)
        | (go_at_call 80; refine (of_any u _).mono ?_; rintro e wA ⟨B1, rfl, hFA, hbA⟩; have hzA0 : Bz w4 wA := (by repeat (first | exact Bz.refl _ | refine Bz.st ?_ hbE | refine Bz.st ?_ hbD | refine Bz.st ?_ hbC | refine Bz.st ?_ hbB | refine Bz.st ?_ hbA | refine Bz.al ?_ _ | refine Bz.dr ?_)); have hsA := (H4.out.1.on hzA0.b).cell 0 _ rfl))
    all_goals
      go_wp2_with fail
      go_meet
      refine ⟨?_, hzE⟩
      have h5 := HKK.out.1
      have h6 := HKK.out.2
      rw [← bxs_length K1] at h6
      by_cases hG : G = []
      · rw [if_pos hG] at h5
        rw [h5] at h6
        rw [decide_eq_true hG]
        have : kl = 0 := h6.symm
        subst this
        rfl
      · rw [if_neg hG] at h5
        rw [h5] at h6
        rw [decide_eq_false hG]
        have : kl = 1 := h6.symm
        subst this
        rfl
  case rest =>
    obtain ⟨rfl, hz⟩ := hcut
    have hWz : Below W0.heap.size W0 w4 := H4W.out
    by_cases hG : G = []
    · have e3 := HG.out.1.trans (if_pos hG)
      have HN := Lib.hid (show E = 5 ∧ Q = ⟨[], 0, 0⟩ from ⟨e3, HE1.out.2.1.trans (if_neg (by rw [e3]; decide))⟩)
      rw [decide_eq_true hG]
      clear hG e3
      have kZ := HKZ.out.on (by have := hz.b; exact (Below.refl _ _).trans (hWz.trans (hz.b.mono hWz.size)))
      have z0 := kZ.cell 0 _ rfl
      have z1 := kZ.cell 1 _ rfl
      have z2 := kZ.cell 2 _ rfl
      have g0 := kZ.frozen 0
      have g1 := kZ.frozen 1
      have g2 := kZ.frozen 2
      have HZZ := Lib.hid (And.intro kZ (H4.out.2.2.2.trans (hz.b.mono (Nat.le_of_lt H4.out.1.lt))))
      clear kZ
      go_wp2_with fail
      have HF := HZZ.out.1.put3 (.slice none 0 0) (.int .u64 0) (.int .u64 0)
      have hbF := below_put3 HZZ.out.2 (R + 1) (by omega) (.slice none 0 0) (.int .u64 0) (.int .u64 0)
      generalize World.setCell _ _ _ = W9 at HF hbF ⊢
      refine bodyPost_ret (results_ctR (p := 6) (q := 7) (T := 56) (by kernel_rfl) _ _ (R + 1) rfl HF Try.underlying56 rfl (by kernel_rfl) _ rfl) rfl ?_
      rw [HN.out.1, HN.out.2]
      exact ⟨none, 0, [], rfl, SB.empty _, rfl, by first | exact hbF | (rw [eR]; exact hbF)⟩
    have e3 := HG.out.1.trans (if_neg hG)
    have HN := Lib.hid (And.intro e3 (HE1.out.2.1.trans (if_pos e3)))
    rw [decide_eq_false hG]
    clear hG e3
    have kC := H4.out.1.on hz.b
    have HC0 := Lib.hid (And.intro kC (And.intro (H4.out.2.1.on hz.b) (And.intro (H4.out.2.2.1.on hz.b) (H4.out.2.2.2.trans (hz.b.mono (Nat.le_of_lt H4.out.1.lt))))))
    clear kC
    go_upto_region 5 with fail
    go_cut [] from 23 to 33 (fun wx => ∃ (a' : Option Addr) (c' : Nat) (K : List BxM), BlkV wx R 56 [.slice a' K.length c', .int .u64 (now : Int), .int .u64 (next : Int)] ∧ (∀ V, wx.heap.size ≤ V.heap.size → (∀ k, k ≠ R → k ≠ R + 1 → V.heap[k]? = wx.heap[k]?) → SB V a' c' K) ∧ bxs K = withB (bxs L) u ((mailsR (bxs L) u).filter fun m => !decide (m.id = id)) ∧ Below R w wx ∧ BlkV wx (R + 1) 56 [.slice none 0 0, .int .u64 0, .int .u64 0])
    case first =>
      refine region_K 11 (fun V => Bz wc V) (by kernel_rfl) ?_
      refine K_pure (i := 0) (v := Value.pointer (some ⟨R, 0, none⟩)) rfl (by kernel_rfl) (by kernel_rfl) (by kernel_rfl) (by kernel_rfl) (fun _ _ _ h => h) (Or.inl ⟨rfl, fun _ _ => by first | (go_simp; done) | kernel_rfl⟩) (by repeat (first | exact Bz.refl _ | refine Bz.st ?_ hbE | refine Bz.st ?_ hbD | refine Bz.st ?_ hbC | refine Bz.st ?_ hbB | refine Bz.st ?_ hbA | refine Bz.al ?_ _ | refine Bz.dr ?_)) ?_
      try simp only [Act.put, List.getElem_toArray, List.getElem_cons_zero, List.setIfInBounds_toArray, List.set_cons_zero, List.set_cons_succ]
      refine K_pure (i := 2) (v := Value.int .u64 (u : Int)) rfl (by kernel_rfl) (by kernel_rfl) (by kernel_rfl) (by kernel_rfl) (fun _ _ _ h => h) (Or.inl ⟨rfl, fun _ _ => by first | (go_simp; done) | kernel_rfl⟩) (by repeat (first | exact Bz.refl _ | refine Bz.st ?_ hbE | refine Bz.st ?_ hbD | refine Bz.st ?_ hbC | refine Bz.st ?_ hbB | refine Bz.st ?_ hbA | refine Bz.al ?_ _ | refine Bz.dr ?_)) ?_
      try simp only [Act.put, List.getElem_toArray, List.getElem_cons_zero, List.getElem_cons_succ, List.setIfInBounds_toArray, List.set_cons_zero, List.set_cons_succ]
      refine K_pure (i := 4) (v := Value.int .u64 (id : Int)) rfl (by kernel_rfl) (by kernel_rfl) (by kernel_rfl) (by kernel_rfl) (fun _ _ _ h => h) (Or.inl ⟨rfl, fun _ _ => by first | (go_simp; done) | kernel_rfl⟩) (by repeat (first | exact Bz.refl _ | refine Bz.st ?_ hbE | refine Bz.st ?_ hbD | refine Bz.st ?_ hbC | refine Bz.st ?_ hbB | refine Bz.st ?_ hbA | refine Bz.al ?_ _ | refine Bz.dr ?_)) ?_
      try simp only [Act.put, List.getElem_toArray, List.getElem_cons_zero, List.getElem_cons_succ, List.setIfInBounds_toArray, List.set_cons_zero, List.set_cons_succ]
      refine K_take (i := 1) (v := Value.slice a len c) rfl (by kernel_rfl) (by kernel_rfl) (by kernel_rfl) (by kernel_rfl) (by kernel_rfl) (fun _ _ _ h => h) (Or.inl ⟨rfl, fun W hW => by have hc := (HC0.out.1.on hW.b).cell 0 _ rfl; go_simp⟩) (by repeat (first | exact Bz.refl _ | refine Bz.st ?_ hbE | refine Bz.st ?_ hbD | refine Bz.st ?_ hbC | refine Bz.st ?_ hbB | refine Bz.st ?_ hbA | refine Bz.al ?_ _ | refine Bz.dr ?_)) ?_
      try simp only [Act.put, List.getElem_toArray, List.getElem_cons_zero, List.getElem_cons_succ, List.setIfInBounds_toArray, List.set_cons_zero, List.set_cons_succ]
      refine K_ready (rs := [3]) (by kernel_rfl) (by decide) (ReadyK.cons rfl (fun K hK => ?_) ReadyK.nil)
      go_simp
      refine (of_any u _).mono ?_
      rintro e wA ⟨B1, rfl, hFA, hbA⟩
      refine hK _ _ (fun _ => (by repeat (first | exact Bz.refl _ | refine Bz.st ?_ hbE | refine Bz.st ?_ hbD | refine Bz.st ?_ hbC | refine Bz.st ?_ hbB | refine Bz.st ?_ hbA | refine Bz.al ?_ _ | refine Bz.dr ?_))) ?_
      clear hK K
      try simp only [Act.put, List.getElem_toArray, List.getElem_cons_zero, List.getElem_cons_succ, List.setIfInBounds_toArray, List.set_cons_zero, List.set_cons_succ]
      refine K_ready (rs := [5]) (by kernel_rfl) (by decide) (ReadyK.cons rfl (fun K hK => ?_) ReadyK.nil)
      go_simp
      refine (numbered_any id _).mono ?_
      rintro e wB ⟨B2, rfl, hFB, hbB⟩
      refine hK _ _ (fun _ => (by repeat (first | exact Bz.refl _ | refine Bz.st ?_ hbE | refine Bz.st ?_ hbD | refine Bz.st ?_ hbC | refine Bz.st ?_ hbB | refine Bz.st ?_ hbA | refine Bz.al ?_ _ | refine Bz.dr ?_))) ?_
      clear hK K
      try simp only [Act.put, List.getElem_toArray, List.getElem_cons_zero, List.getElem_cons_succ, List.setIfInBounds_toArray, List.set_cons_zero, List.set_cons_succ]
      refine K_ready (rs := [6]) (by kernel_rfl) (by decide) (ReadyK.cons rfl (fun K hK => ?_) ReadyK.nil)
      go_simp
      refine hK _ _ (fun _ => (by repeat (first | exact Bz.refl _ | refine Bz.st ?_ hbE | refine Bz.st ?_ hbD | refine Bz.st ?_ hbC | refine Bz.st ?_ hbB | refine Bz.st ?_ hbA | refine Bz.al ?_ _ | refine Bz.dr ?_))) ?_
      clear hK K
      try simp only [Act.put, List.getElem_toArray, List.getElem_cons_zero, List.getElem_cons_succ, List.setIfInBounds_toArray, List.set_cons_zero, List.set_cons_succ]
      refine K_ready (rs := [7]) (by kernel_rfl) (by decide) (ReadyK.cons rfl (fun K hK => ?_) ReadyK.nil)
      go_simp
      refine (but_any (some ⟨_, 0, none⟩) 2 [⟨102, B1, fun v _ => decide (v = u)⟩, ⟨103, B2, fun _ m => decide (m.id = id)⟩] _ (FS.two (IsF.on hFA (show Bz wA _ from (by repeat (first | exact Bz.refl _ | refine Bz.st ?_ hbE | refine Bz.st ?_ hbD | refine Bz.st ?_ hbC | refine Bz.st ?_ hbB | refine Bz.st ?_ hbA | refine Bz.al ?_ _ | refine Bz.dr ?_))).b) (IsF.on hFB (show Bz wB _ from (by repeat (first | exact Bz.refl _ | refine Bz.st ?_ hbE | refine Bz.st ?_ hbD | refine Bz.st ?_ hbC | refine Bz.st ?_ hbB | refine Bz.st ?_ hbA | refine Bz.al ?_ _ | refine Bz.dr ?_))).b) _ (by simp))).mono ?_
      rintro e wC ⟨B3, rfl, hFC, hbC⟩
      refine hK _ _ (fun _ => (by repeat (first | exact Bz.refl _ | refine Bz.st ?_ hbE | refine Bz.st ?_ hbD | refine Bz.st ?_ hbC | refine Bz.st ?_ hbB | refine Bz.st ?_ hbA | refine Bz.al ?_ _ | refine Bz.dr ?_))) ?_
      clear hK K
      try simp only [Act.put, List.getElem_toArray, List.getElem_cons_zero, List.getElem_cons_succ, List.setIfInBounds_toArray, List.set_cons_zero, List.set_cons_succ]
      refine K_ready (rs := [8]) (by kernel_rfl) (by decide) (ReadyK.cons rfl (fun K hK => ?_) ReadyK.nil)
      go_simp
      refine hK _ _ (fun _ => (by repeat (first | exact Bz.refl _ | refine Bz.st ?_ hbE | refine Bz.st ?_ hbD | refine Bz.st ?_ hbC | refine Bz.st ?_ hbB | refine Bz.st ?_ hbA | refine Bz.al ?_ _ | refine Bz.dr ?_))) ?_
      clear hK K
      try simp only [Act.put, List.getElem_toArray, List.getElem_cons_zero, List.getElem_cons_succ, List.setIfInBounds_toArray, List.set_cons_zero, List.set_cons_succ]
      refine K_ready (rs := [9]) (by kernel_rfl) (by decide) (ReadyK.cons rfl (fun K hK => ?_) ReadyK.nil)
      go_simp
      refine (HFi.out (some ⟨_, 0, none⟩) 1 [⟨104, B3, fun v m => !allP [⟨102, B1, fun v _ => decide (v = u)⟩, ⟨103, B2, fun _ m => decide (m.id = id)⟩] v m⟩] _ (HC0.out.2.2.1.on (show Bz wc _ from (by repeat (first | exact Bz.refl _ | refine Bz.st ?_ hbE | refine Bz.st ?_ hbD | refine Bz.st ?_ hbC | refine Bz.st ?_ hbB | refine Bz.st ?_ hbA | refine Bz.al ?_ _ | refine Bz.dr ?_))).b) (FS.oneN (IsF.on hFC (show Bz wC _ from (by repeat (first | exact Bz.refl _ | refine Bz.st ?_ hbE | refine Bz.st ?_ hbD | refine Bz.st ?_ hbC | refine Bz.st ?_ hbB | refine Bz.st ?_ hbA | refine Bz.al ?_ _ | refine Bz.dr ?_))).b) _ (by simp))).mono ?_
      rintro e wE ⟨vE, K1, rfl, hOE, hKE, hbE⟩
      obtain ⟨aE, cE, eE, -⟩ := hOE.sb
      subst eE
      rw [allP_one, allP_two] at hKE
      have hzE : Bz wc wE := (by repeat (first | exact Bz.refl _ | refine Bz.st ?_ hbE | refine Bz.st ?_ hbD | refine Bz.st ?_ hbC | refine Bz.st ?_ hbB | refine Bz.st ?_ hbA | refine Bz.al ?_ _ | refine Bz.dr ?_))
      have hsE := (HC0.out.1.on hzE.b).cell 0 _ rfl
      have fE := (HC0.out.1.on hzE.b).frozen 0
      have HKE := Lib.hid (hKE.trans HE1.out.2.2.2)
      have hleaf := fil_leaf HC0.out.1 HC0.out.2.1 HC0.out.2.2.2 hzE hOE
      have HLF := Lib.hid hleaf
      clear hleaf hOE hKE
      refine hK _ _ (fun _ => (by repeat (first | exact Bz.refl _ | refine Bz.st ?_ hbE | refine Bz.st ?_ hbD | refine Bz.st ?_ hbC | refine Bz.st ?_ hbB | refine Bz.st ?_ hbA | refine Bz.al ?_ _ | refine Bz.dr ?_))) ?_
      clear hK K
      try simp only [Act.put, List.getElem_toArray, List.getElem_cons_zero, List.getElem_cons_succ, List.setIfInBounds_toArray, List.set_cons_zero, List.set_cons_succ]
      refine K_pure (i := 10) (v := Value.pointer (some ⟨R, 0, none⟩)) rfl (by kernel_rfl) (by kernel_rfl) (by kernel_rfl) (by kernel_rfl) (fun _ _ _ h => h) (Or.inl ⟨rfl, fun _ _ => by first | (go_simp; done) | kernel_rfl⟩) (by repeat (first | exact Bz.refl _ | refine Bz.st ?_ hbE | refine Bz.st ?_ hbD | refine Bz.st ?_ hbC | refine Bz.st ?_ hbB | refine Bz.st ?_ hbA | refine Bz.al ?_ _ | refine Bz.dr ?_)) ?_
      try simp only [Act.put, List.getElem_toArray, List.getElem_cons_zero, List.getElem_cons_succ, List.setIfInBounds_toArray, List.set_cons_zero, List.set_cons_succ]
      refine K_ready (rs := [11]) (by kernel_rfl) (by decide) (ReadyK.cons rfl (fun K hK => ?_) ReadyK.nil)
      go_simp
      refine hK _ _ (fun hf => absurd (show true = false from hf) (by decide)) (K_of_any _ _ _ _ (by kernel_rfl) (wpAny_done (by kernel_rfl) ?_ _))
      clear hK K
      try simp only [Act.put, List.getElem_toArray, List.getElem_cons_zero, List.getElem_cons_succ, List.setIfInBounds_toArray, List.set_cons_zero, List.set_cons_succ]
      go_wp2_with fail
      go_meet
      exact ⟨aE, cE, K1, HLF.out.1, HLF.out.2.1, HKE.out, HLF.out.2.2.1, HLF.out.2.2.2⟩
    case rest =>
      obtain ⟨a', c', K, kR, hS, hK, hb, kZ⟩ := hcut
      have y0 := kR.cell 0 _ rfl
      have y1 := kR.cell 1 _ rfl
      have y2 := kR.cell 2 _ rfl
      have z0 := kZ.cell 0 _ rfl
      have z1 := kZ.cell 1 _ rfl
      have z2 := kZ.cell 2 _ rfl
      have g0 := kZ.frozen 0
      have g1 := kZ.frozen 1
      have g2 := kZ.frozen 2
      have HC := Lib.hid (And.intro kR (And.intro hS (And.intro hK (And.intro hb kZ))))
      clear kR hS hK hb kZ
      go_wp2_with fail
      have HF := HC.out.2.2.2.2.put3 (.slice a' K.length c') (.int .u64 (now : Int)) (.int .u64 (next : Int))
      have hbF := below_put3 HC.out.2.2.2.1 (R + 1) (by omega) (.slice a' K.length c') (.int .u64 (now : Int)) (.int .u64 (next : Int))
      have hfar := put3_far wc (R + 1) (.slice a' K.length c') (.int .u64 (now : Int)) (.int .u64 (next : Int))
      have hsz := put3_size wc (R + 1) (.slice a' K.length c') (.int .u64 (now : Int)) (.int .u64 (next : Int))
      generalize World.setCell _ _ _ = W9 at HF hbF hfar hsz ⊢
      refine bodyPost_ret (results_ctR (p := 6) (q := 7) (T := 56) (by kernel_rfl) _ _ (R + 1) rfl HF Try.underlying56 rfl (by kernel_rfl) _ rfl) rfl ?_
      have hS9 := HC.out.2.1 W9 (by rw [hsz]; exact Nat.le_refl _) (fun k h1 h2 => hfar k h2)
      rw [HN.out.1, HN.out.2]
      exact ⟨a', c', K, rfl, hS9, HC.out.2.2.1, by first | exact hbF | (rw [eR]; exact hbF)⟩
end Go.Proofs.Ytmmaimopombepaa
