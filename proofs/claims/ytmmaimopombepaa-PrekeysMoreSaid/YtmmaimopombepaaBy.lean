/- prekeys: changed with nothing told, where a shelf is there; More's closure. -/
import Derived.Test.YtmmaimopombepaaBx
import Derived.Test.YtmmaimopombepaaBw
namespace Go.Proofs.Ytmmaimopombepaa
open Go.RowKit
set_option maxRecDepth 100000

/-- what changed tells, where the user has a shelf -/
def ChangedPost (l : List Sh) (i : Nat) (_s : Sh) (E : Int) (F : Sh) (w : World) (e : Ending) (w' : World) : Prop :=
  Below w.heap.size w w' ∧ (E ≠ 0 ∧ e = .returned (.tuple #[.slice none 0 0, .agg #[], .int .i64 E]) ∨ E = 0 ∧ ∃ (a : Option Addr) (c : Nat) (K : List ShM), e = .returned (.tuple #[.slice a K.length c, .agg #[], .int .i64 0]) ∧ SSb w' w.heap.size a c K ∧ shs K = l.set i F)
set_option maxHeartbeats 8000000 in
theorem changedN_ok (a : Option Addr) (c : Nat) (L : List ShM) (u : Nat) (hl : L.length ≤ 1000) (N B : Nat) (E : Int) (F : Sh) (i : Nat) (hi : i < (shs L).length) (hr : rightSL (shs L)) (hpl : placeS (shs L) u = some i) (w : World) (h : SS w a c L)
    (hcf : ∀ (v p : Value) (W : World), (callFunc N #[v, p]).run Try.prog W = .ok (.enter N #[v, p]) W)
    (hcl : ∀ (g c' base : Nat) (K : List ShM) (_hk : i < K.length) (w3 : World), K[i].s = (shs L)[i] → OwnSS w3 base (.slice (some ⟨g, 0, none⟩) K.length c') K → w.heap.size ≤ base → base ≤ w3.heap.size → Below w.heap.size w w3 → Calls Try.prog N #[.pointer (some ⟨g, i * 5, none⟩), .pointer (some ⟨B, 0, none⟩)] w3 fun e w' => e = .returned (.tuple #[.agg #[], .int .i64 E]) ∧ Below base w3 w' ∧ (E = 0 → ChPost w3 base g c' K i F w')) :
    Calls Try.prog 52 #[.slice a L.length c, .int .u64 (u : Int), .func (.func N) #[] #[.pointer (some ⟨B, 0, none⟩)]] w fun e w' => ChangedPost (shs L) i (shs L)[i] E F w e w' := by
  obtain ⟨W0, eW0⟩ : ∃ W0, (w.alloc (.cells #[] 87)).alloc (.cells #[] 87) = W0 := ⟨_, rfl⟩
  have b0 : Below w.heap.size w W0 := by rw [← eW0]; exact ((Below.refl _ w).alloc (Nat.le_refl _) _).alloc (by simp) _
  obtain ⟨R, eR⟩ : ∃ R, w.heap.size = R := ⟨_, rfl⟩
  have kR : BlkV W0 R 87 [] := by rw [← eW0, ← eR]; exact (BlkV.fresh w _ _ _ rfl _ rfl).alloc _
  have kN : BlkV W0 (R + 1) 87 [] := by rw [← eW0, ← eR]; exact BlkV.fresh _ _ _ _ rfl _ (by simp)
  have HR := Lib.hid (right_any a c L W0 (h.on b0) hl)
  have H := Lib.hid (h.on b0)
  have HK := Lib.hid (And.intro b0 (And.intro kR (And.intro kN eR)))
  have HCL := Lib.hid hcl
  have hsl := shs_length L
  rw [decide_eq_true hr] at HR
  have HP := Lib.hid (fun W hW => place_any a c L u W hW hl hr.2.2)
  have HC := Lib.hid (fun W hW => allCopied_any a c L hl (FewP.of_right hr) W hW)
  have HRT := Lib.hid (And.intro hr hpl)
  clear h b0 kR kN hr hcl hpl
  go_enter Try.func52, Try.ntmps52
  go_upto_region 2 with fail
  clear eW0
  go_wp2_with fail
  refine HR.out.mono ?_
  rintro e w1 ⟨rfl, hb1⟩
  go_wp2_with fail
  refine (HP.out w1 (H.out.on hb1)).mono ?_
  rintro e w2 ⟨i', f, rfl, hpl, hb2⟩
  have hps := place_of_at HRT.out.1.2.2 hpl
  rw [HRT.out.2] at hps
  have hb12 := hb1.trans (hb2.mono hb1.size)
  have HB := Lib.hid hb12
  cases f
  · rw [if_neg (by decide)] at hps
    cases hps
  rw [if_pos rfl] at hps
  obtain rfl : i = i' := Option.some.inj hps
  clear hpl hps hb1 hb2 hb12
  go_wp2_with fail
  refine (HC.out w2 (H.out.on HB.out)).mono ?_
  rintro e w3 ⟨v, K, rfl, hO, hK, hb3⟩
  have hKl : K.length = L.length := by rw [← shs_length K, hK, hsl]
  obtain ⟨g, c3, rfl, hg, hKc⟩ := hO.some (by omega)
  have hiK : i < K.length := by omega
  have hKi : K[i].s = (shs L)[i] := by
    have h6 := shs_get K i hiK
    rw [← h6]
    congr 1
  have hw2 : w.heap.size ≤ w2.heap.size := by have := HB.out.size; have := HK.out.1.size; omega
  have hb03 := HB.out.trans (hb3.mono HB.out.size)
  have hbw3 := HK.out.1.trans (hb03.mono HK.out.1.size)
  have HF1 := Lib.hid (HCL.out g c3 w2.heap.size K hiK w3 hKi hO hw2 hb3.size hbw3)
  have hiz : (i : Int) < (K.length : Int) := by omega
  have HX := Lib.hid (And.intro hb03 (And.intro hKi (And.intro hK (And.intro hb3 (And.intro hKl (And.intro hw2 hbw3))))))
  clear hO hKi hb3 hb03 hK hKl hw2 hbw3 HCL HR HC HP
  go_wp2_with fail
  refine HF1.out.mono ?_
  rintro e w4 ⟨rfl, hbB, hch⟩
  have hRb : R < w2.heap.size := (HK.out.2.1.on HB.out).lt
  have kR4 := ((HK.out.2.1.on HB.out).on HX.out.2.2.2.1).lowU hbB hRb
  have kN4 := ((HK.out.2.2.1.on HB.out).on HX.out.2.2.2.1).lowU hbB (HK.out.2.2.1.on HB.out).lt
  obtain ⟨W5, eW5⟩ : ∃ W5, w4.alloc (.cells #[] 87) = W5 := ⟨_, rfl⟩
  have b5 : Below w4.heap.size w4 W5 := by rw [← eW5]; exact (Below.refl _ w4).alloc (Nat.le_refl _) _
  have b4 : Below w.heap.size w w4 := HX.out.2.2.2.2.2.2.trans (hbB.mono HX.out.2.2.2.2.2.1)
  have b9 := b4.trans (b5.mono b4.size)
  have HE := Lib.hid (And.intro hch (And.intro b9 (And.intro (kR4.on b5) (And.intro (kN4.on b5) b5))))
  clear hbB hch kR4 kN4 b5 b4 b9 HF1
  go_upto_region 9 with fail
  clear eW5
  by_cases hE : E = 0
  · have hEb : (E != 0) = false := by rw [hE]; rfl
    have HE0 := Lib.hid hE
    clear hE
    go_wp2_with fail
    go_region
    all_goals go_wp2_with fail
    have HF := HE.out.2.2.1.dr
    have hbF := HE.out.2.1.drew
    obtain ⟨m', hm', hSS, -⟩ := HE.out.1 HE0.out
    have hS9 : SSb W5.drew w2.heap.size (some ⟨g, 0, none⟩) c3 (K.set i m') := hSS.keep HE.out.2.2.2.2.size fun k _ h2 => HE.out.2.2.2.2.block k h2
    generalize World.drew _ = W9 at HF hbF hS9 ⊢
    refine bodyPost_ret (results_tctU (p := 7) (q := 6) (r := 8) (T := 87) (by kernel_rfl) _ _ R rfl HF Try.underlying87 rfl (by kernel_rfl) _ _ rfl rfl) rfl ?_
    have hlen : (K.set i m').length = K.length := List.length_set
    exact ⟨hbF, Or.inr ⟨HE0.out, some ⟨g, 0, none⟩, c3, K.set i m', by rw [hlen]; rfl, hS9.mono HX.out.2.2.2.2.2.1, by rw [shs_set, hm', HX.out.2.2.1]⟩⟩
  · have hEb : (E != 0) = true := by simpa using hE
    have HE0 := Lib.hid hE
    clear hE
    go_wp2_with fail
    go_region
    all_goals go_wp2_with fail
    have HF := HE.out.2.2.1.dr
    have hbF := HE.out.2.1.drew
    generalize World.drew _ = W9 at HF hbF ⊢
    refine bodyPost_ret (results_tctU (p := 7) (q := 6) (r := 8) (T := 87) (by kernel_rfl) _ _ R rfl HF Try.underlying87 rfl (by kernel_rfl) _ _ rfl rfl) rfl ?_
    exact ⟨hbF, Or.inl ⟨HE0.out, rfl⟩⟩
/-- why more points are refused -/
def moreE (o m : List Pn) : Int := if ¬ alonePs (o ++ m) then 7 else if 20 < (o ++ m).length then 6 else if ¬ okPs m then 1 else 0
theorem cf_more1 (v p : Value) (W : World) : (callFunc 64 #[v, p]).run Try.prog W = .ok (.enter 64 #[v, p]) W := by kernel_rfl
set_option maxHeartbeats 8000000 in
theorem more1_any (g c base i B : Nat) (K : List ShM) (hi : i < K.length) (a2 : Option Addr) (c2 : Nat) (m : List Pn) (hf : K[i].s.once.length ≤ 20) (hm : m.length ≤ 22) (w : World) (h : OwnSS w base (.slice (some ⟨g, 0, none⟩) K.length c) K) (hbs : base ≤ w.heap.size) (hB : w.cell? ⟨B, 0, none⟩ = some (.slice a2 m.length c2)) (hp : PP w a2 c2 m) :
    Calls Try.prog 64 #[.pointer (some ⟨g, i * 5, none⟩), .pointer (some ⟨B, 0, none⟩)] w fun e w' => e = .returned (.tuple #[.agg #[], .int .i64 (moreE K[i].s.once m)]) ∧ Below base w w' ∧ (moreE K[i].s.once m = 0 → ChPost w base g c K i { K[i].s with once := K[i].s.once ++ m } w') := by
  obtain ⟨cur, hcur, hg, -⟩ := h.row.block
  have hSS := SS_of_own h.row fun m hm => (h.pts m hm).at
  obtain ⟨g', off', e4, hgs, hall⟩ := hSS.sl.get i hi
  cases e4
  have c4 := (hall i hi).c4
  have hpt := (h.pts K[i] (List.getElem_mem hi)).at
  obtain ⟨x, ex⟩ : ∃ x, K[i] = x := ⟨_, rfl⟩
  rw [ex] at c4 hpt hf ⊢
  rw [Nat.zero_add] at c4
  obtain ⟨W0, eW0⟩ : ∃ W0, w.alloc (.cells #[] 87) = W0 := ⟨_, rfl⟩
  have b0 : Below w.heap.size w W0 := by rw [← eW0]; exact (Below.refl _ w).alloc (Nat.le_refl _) _
  obtain ⟨R, eR⟩ : ∃ R, w.heap.size = R := ⟨_, rfl⟩
  have kR : BlkV W0 R 87 [] := by rw [← eW0, ← eR]; exact BlkV.fresh w _ _ _ rfl _ rfl
  have d4 := (b0.cell (p := ⟨g, i * 5 + 4, none⟩) hgs).trans c4
  have dB := (b0.cell (p := ⟨B, 0, none⟩) (block_lt_of_cell hB)).trans hB
  have bA : Below W0.heap.size W0 ((W0.alloc (.cells #[.slice x.a x.s.once.length x.c, .slice a2 m.length c2] 26)).drew) := ((Below.refl _ _).alloc (Nat.le_refl _) _).drew
  have hA : ((W0.alloc (.cells #[.slice x.a x.s.once.length x.c, .slice a2 m.length c2] 26)).drew).heap[W0.heap.size]? = some (.cells #[.slice x.a x.s.once.length x.c, .slice a2 m.length c2] 26) := heap_alloc_new W0 _
  have hRw : RwsAt ePn ((W0.alloc (.cells #[.slice x.a x.s.once.length x.c, .slice a2 m.length c2] 26)).drew) W0.heap.size [⟨x.a, x.c, x.s.once⟩, ⟨a2, c2, m⟩] := by
    refine ⟨(Array.getElem?_eq_some_iff.1 hA).1, fun j hj => ?_, fun r hr => ?_⟩
    · rcases j with _ | _ | j
      · rw [cell_of_row _ _ _ _ _ _ hA]; rfl
      · rw [cell_of_row _ _ _ _ _ _ hA]; rfl
      · simp only [List.length_cons, List.length_nil] at hj; omega
    · have b2 := b0.trans (bA.mono b0.size)
      simp only [List.mem_cons, List.not_mem_nil, or_false] at hr
      rcases hr with rfl | rfl
      · exact ⟨(hpt.on b2).at_, fun e => ((hpt.on b2).none e).2⟩
      · exact ⟨(hp.on b2).at_, fun e => ((hp.on b2).nil e).2⟩
  have hj : joinR [(⟨x.a, x.c, x.s.once⟩ : Rw Pn), ⟨a2, c2, m⟩] = x.s.once ++ m := by unfold joinR; simp
  have HC := concatP_any [⟨x.a, x.c, x.s.once⟩, ⟨a2, c2, m⟩] (by simp) (by rw [hj, List.length_append]; omega) W0.heap.size _ hRw
  rw [hj] at HC
  obtain ⟨all, eall⟩ : ∃ all, x.s.once ++ m = all := ⟨_, rfl⟩
  have hal : all.length ≤ 42 := by rw [← eall, List.length_append]; omega
  rw [eall] at HC ⊢
  have HCC := Lib.hid HC
  have HH := Lib.hid (And.intro h (And.intro hcur (And.intro hg (And.intro ex (And.intro eall (And.intro hp (And.intro b0 (And.intro kR (And.intro bA (And.intro hgs (And.intro hB eR)))))))))))
  have hme : moreE x.s.once m = if ¬ alonePs all then 7 else if 20 < all.length then 6 else if ¬ okPs m then 1 else 0 := by unfold moreE; rw [eall]
  obtain ⟨E, eE⟩ : ∃ E, moreE x.s.once m = E := ⟨_, rfl⟩
  rw [eE] at hme ⊢
  have HE := Lib.hid hme
  clear eE
  clear h hSS hall hpt hp hcur b0 kR bA hA hRw hj HC c4 hB hme
  go_enter Try.func64, Try.ntmps64
  go_upto_region 1 with fail
  clear eW0
  go_cut [5] from 6 to 12 (fun v wx => ∃ (a : Option Addr) (c : Nat), v = .slice a all.length c ∧ PP wx a c all ∧ Ge W0.heap.size a ∧ Below W0.heap.size W0 wx)
  case first =>
    go_region_with (first | (go_at_call 65; refine HCC.out.mono ?_; rintro e w2 ⟨v, rfl, ho, hb⟩))
    all_goals
      go_wp2_with fail
      go_meet
      obtain ⟨a3, c3, rfl, h1, h2, h3, h4⟩ := ho.sl
      exact ⟨a3, c3, rfl, ⟨h2, h1, h3⟩, fun b off sp e => Nat.le_trans HH.out.2.2.2.2.2.2.2.2.1.size (h4 b off sp e), HH.out.2.2.2.2.2.2.2.2.1.trans (hb.mono HH.out.2.2.2.2.2.2.2.2.1.size)⟩
  case rest =>
    obtain ⟨a3, c3, rfl, hpa, hge, hb2⟩ := hcut
    have HD := Lib.hid (differ_any a3 c3 all (by omega) wc hpa)
    have hb02 := HH.out.2.2.2.2.2.2.1.trans (hb2.mono HH.out.2.2.2.2.2.2.1.size)
    have HP2 := Lib.hid (And.intro hpa (And.intro hge (And.intro hb2 hb02)))
    clear hpa hge hb2 hb02 d4 dB
    by_cases e1 : alonePs all
    · rw [decide_eq_true e1] at HD
      have HE1 := Lib.hid (HE.out.trans (if_neg (fun h => h e1)))
      clear HE
      go_wp2_with fail
      refine HD.out.mono ?_
      rintro e w3 ⟨rfl, hb3⟩
      have b3 := HP2.out.2.2.2.trans (hb3.mono HP2.out.2.2.2.size)
      have k3 := (HH.out.2.2.2.2.2.2.2.1.on HP2.out.2.2.1).on hb3
      have HB3 := Lib.hid (And.intro hb3 (And.intro b3 k3))
      clear hb3 b3 k3 HD e1
      by_cases e2 : 20 < all.length
      · have e2z : (all.length : Int) > 20 := by omega
        have HE2 := Lib.hid (HE1.out.trans (if_pos e2))
        clear e2
        go_wp2_with fail
        refine bodyPost_ret (results_ctU (p := 3) (q := 4) (T := 87) (by kernel_rfl) _ _ R rfl HB3.out.2.2 Try.underlying87 rfl (by kernel_rfl) _ rfl) rfl ?_
        rw [HE2.out]
        exact ⟨rfl, HB3.out.2.1.mono hbs, fun h => absurd h (by decide)⟩
      · have e2z : ¬ (all.length : Int) > 20 := by omega
        have HE2 := Lib.hid (HE1.out.trans (if_neg e2))
        clear HE1
        have dB3 := (HB3.out.2.1.cell (p := ⟨B, 0, none⟩) (block_lt_of_cell HH.out.2.2.2.2.2.2.2.2.2.2.1)).trans HH.out.2.2.2.2.2.2.2.2.2.2.1
        have HA := Lib.hid (areOnce_any a2 c2 m (by omega) w3 (HH.out.2.2.2.2.2.1.on HB3.out.2.1))
        by_cases e3 : okPs m
        · rw [decide_eq_true e3] at HA
          have HE3 := Lib.hid (HE2.out.trans (if_neg (fun h => h e3)))
          clear e2 e3
          go_wp2_with fail
          refine HA.out.mono ?_
          rintro e w4 ⟨rfl, hb4⟩
          have b4 := HB3.out.2.1.trans (hb4.mono HB3.out.2.1.size)
          have hc4 := (b4.block g hgs).trans HH.out.2.1
          have d4 : ∃ v, w4.cell? ⟨g, i * 5 + 4, none⟩ = some v := by
            have hh := (SS_of_own (HH.out.1.row.on b4) fun m hm => ((HH.out.1.pts m hm).on b4).at).sl.get i hi
            obtain ⟨g', off', e4, -, hall⟩ := hh
            cases e4
            exact ⟨_, by have := (hall i hi).c4; rw [Nat.zero_add] at this; exact this⟩
          obtain ⟨v4, d4⟩ := d4
          have f4 : w4.frozen? ⟨g, i * 5 + 4, none⟩ = false := frozen_of_row w4 g _ cur _ hc4
          have hpa4 := (HP2.out.1.on HB3.out.1).on hb4
          have hga : Ge base a3 := HP2.out.2.1.mono (Nat.le_trans hbs HH.out.2.2.2.2.2.2.1.size)
          have kR4 := (HB3.out.2.2.on hb4).far ⟨g, i * 5 + 4, none⟩ (by show R ≠ g; rw [← HH.out.2.2.2.2.2.2.2.2.2.2.2]; omega) (.slice a3 all.length c3)
          have HZ := Lib.hid (And.intro b4 (And.intro hpa4 (And.intro hga kR4)))
          clear hb4 b4 hc4 hpa4 hga kR4 dB3 HA
          go_wp2_with fail
          have hk5 : ∀ k, k ≠ g → (w4.setCell ⟨g, i * 5 + 4, none⟩ (.slice a3 all.length c3)).heap[k]? = w4.heap[k]? := fun k hk => heap_setCell_other w4 ⟨g, i * 5 + 4, none⟩ k _ hk
          have hs5 : (w4.setCell ⟨g, i * 5 + 4, none⟩ (.slice a3 all.length c3)).heap.size = w4.heap.size := World.size_setCell _ _ _
          have hB5 : Below base w (w4.setCell ⟨g, i * 5 + 4, none⟩ (.slice a3 all.length c3)) := (HZ.out.1.mono hbs).setCell (show base ≤ (⟨g, i * 5 + 4, none⟩ : Addr).block from HH.out.2.2.1) _
          refine bodyPost_ret (results_ctU (p := 3) (q := 4) (T := 87) (by kernel_rfl) _ _ R rfl HZ.out.2.2.2 Try.underlying87 rfl (by kernel_rfl) _ rfl) rfl ?_
          have hKi : K[i] = x := HH.out.2.2.2.1
          have hch := ch_once (w' := w4.setCell ⟨g, i * 5 + 4, none⟩ (.slice a3 all.length c3)) hi HH.out.1 HZ.out.1 a3 all c3 rfl (by rw [hs5]; exact HZ.out.1.size) (fun k h1 h2 => by rw [hk5 k h2, HZ.out.1.block k h1]) (fun y hy => ?_) HZ.out.2.2.1 hB5
          · rw [hKi] at hch
            rw [HE3.out]
            exact ⟨rfl, hB5, fun _ => hch⟩
          · subst hy
            have hne : ∀ b off sp, a3 = some ⟨b, off, sp⟩ → b ≠ g := fun b off sp e h2 => by
              have h3 := HP2.out.2.1 b off sp e
              have := HH.out.2.2.2.2.2.2.1.size
              omega
            exact ⟨Sl_far HZ.out.2.1.at_ (by rw [hs5]; exact Nat.le_refl _) hne hk5, HZ.out.2.1.cap, HZ.out.2.1.nil⟩
        · rw [decide_eq_false e3] at HA
          have HE3 := Lib.hid (HE2.out.trans (if_pos e3))
          clear e2 e3
          go_wp2_with fail
          refine HA.out.mono ?_
          rintro e w4 ⟨rfl, hb4⟩
          have HZ := Lib.hid (And.intro (HB3.out.2.1.trans (hb4.mono HB3.out.2.1.size)) (HB3.out.2.2.on hb4))
          clear hb4 HA dB3
          go_wp2_with fail
          refine bodyPost_ret (results_ctU (p := 3) (q := 4) (T := 87) (by kernel_rfl) _ _ R rfl HZ.out.2 Try.underlying87 rfl (by kernel_rfl) _ rfl) rfl ?_
          rw [HE3.out]
          exact ⟨rfl, HZ.out.1.mono hbs, fun h => absurd h (by decide)⟩
    · rw [decide_eq_false e1] at HD
      have HE1 := Lib.hid (HE.out.trans (if_pos e1))
      clear e1
      go_wp2_with fail
      refine HD.out.mono ?_
      rintro e w3 ⟨rfl, hb3⟩
      have HB3 := Lib.hid (And.intro (HP2.out.2.2.2.trans (hb3.mono HP2.out.2.2.2.size)) ((HH.out.2.2.2.2.2.2.2.1.on HP2.out.2.2.1).on hb3))
      clear hb3 HD
      go_wp2_with fail
      refine bodyPost_ret (results_ctU (p := 3) (q := 4) (T := 87) (by kernel_rfl) _ _ R rfl HB3.out.2 Try.underlying87 rfl (by kernel_rfl) _ rfl) rfl ?_
      rw [HE1.out]
      exact ⟨rfl, HB3.out.1.mono hbs, fun h => absurd h (by decide)⟩
end Go.Proofs.Ytmmaimopombepaa
