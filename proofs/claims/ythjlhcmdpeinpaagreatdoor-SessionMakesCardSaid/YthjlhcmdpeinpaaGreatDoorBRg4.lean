/- The texts Yu, Yv, one behind the other. -/
import Derived.Test.YthjlhcmdpeinpaaGreatDoorBRg3
/- The package session's atWork, at a text's sealing; its Seal. -/
namespace Go.Proofs.YthjlhcmdpeinpaaGreatDoor
open Go.RowKit Go.Sort
set_option maxRecDepth 100000
set_option maxHeartbeats 4000000 in
theorem atWork_y (s : Se) (a : Option Addr) (c : Nat) (b : Option Addr) (d : Nat) (hk : s.kept.length ≤ 1000) (hkc : s.kept.length ≤ c) (hu : s.used.length ≤ 1000) (_hud : s.used.length ≤ d)
    (f : Fr) (fa : Option Addr) (fc : Nat) (hl : f.keys.length ≤ maxLen) (hok : FrOk f) (x : ByteArray) (w : World) (hV : Vr w) (hs : SeAt w s a b) (hf : SSl w fa f.keys)
    (Fb Xb : Nat) (hF : BlkV w Fb 43 (frL f fa fc)) (hX : w.cell? ⟨Xb, 0, none⟩ = some (.string x)) :
    Calls Tryz.prog 37 #[seV s a c b d, .func (.func 38) #[] #[.pointer (some ⟨Fb, 0, none⟩), .pointer (some ⟨Xb, 0, none⟩)]] w (AtPost s f x w) := by
  have hmf : ∀ (fn : Fn) (first cap : Array Value) (w : World), (Instr.makeFunc fn first cap).run Tryz.prog w = .ok (.func fn first cap) w := fun _ _ _ _ => rfl
  obtain ⟨W0, eW0⟩ : ∃ W0, w.alloc (.cells (seL s a c b d).toArray 26) = W0 := ⟨_, rfl⟩
  obtain ⟨W1, eW1⟩ : ∃ W1, W0.alloc (.cells (seL se0 none 0 none 0).toArray 26) = W1 := ⟨_, rfl⟩
  obtain ⟨W2, eW2⟩ : ∃ W2, W1.alloc (.cells zeroY.toArray 43) = W2 := ⟨_, rfl⟩
  obtain ⟨W, eW⟩ : ∃ W, W2.alloc (.cells #[.int .i64 0] 29) = W := ⟨_, rfl⟩
  have z0 : W0.heap.size = w.heap.size + 1 := by rw [← eW0]; simp
  have z1 : W1.heap.size = w.heap.size + 2 := by rw [← eW1]; simp [z0]
  have z2 : W2.heap.size = w.heap.size + 3 := by rw [← eW2]; simp [z1]
  have hb0 : Below w.heap.size w W0 := by rw [← eW0]; exact (Below.refl _ _).alloc (Nat.le_refl _) _
  have hb1 : Below w.heap.size w W1 := by rw [← eW1]; exact hb0.alloc hb0.size _
  have hb2 : Below w.heap.size w W2 := by rw [← eW2]; exact hb1.alloc hb1.size _
  have hbW : Below w.heap.size w W := by rw [← eW]; exact hb2.alloc hb2.size _
  have h4 : At4 w (seL s a c b d) (seL se0 none 0 none 0) zeroY 0 W := ⟨hbW,
    by rw [← eW, ← eW2, ← eW1, ← eW0]; exact (((BlkV.fresh _ _ _ _ rfl _ rfl).alloc _).alloc _).alloc _,
    by rw [← eW, ← eW2, ← eW1]; exact ((BlkV.fresh _ _ _ _ rfl _ z0.symm).alloc _).alloc _,
    by rw [← eW, ← eW2]; exact (BlkV.fresh _ _ _ _ rfl _ z1.symm).alloc _,
    by rw [← eW]; exact BlkV.fresh _ _ _ _ rfl _ z2.symm⟩
  have hR := sRight_any s a c b d hk hkc hu W (hs.on hbW)
  have H4 := Lib.hid h4; have HR := Lib.hid hR; have HE := Lib.hid (And.intro eW0 (And.intro eW1 (And.intro eW2 eW)))
  have HS := Lib.hid hs; have HSF := Lib.hid hf; have HF := Lib.hid hF; have HX := Lib.hid hX; have HLN := Lib.hid (And.intro hk (And.intro hkc (And.intro hu hl))); have HV := Lib.hid hV; have HOK := Lib.hid hok
  clear h4 hR eW0 eW1 eW2 eW z0 z1 z2 hb0 hb1 hb2 hbW hs hf hF hX hk hkc hu hl hV hok
  unfold seV at HR ⊢
  go_enter_defers Tryz.func37, Tryz.ntmps37
  go_upto_region 2 with fail
  generalize hG : World.alloc (World.alloc (World.alloc (World.alloc w _) _) _) _ = G
  obtain rfl : W = G := by rw [← hG, ← HE.out.2.2.2, ← HE.out.2.2.1, ← HE.out.2.1, ← HE.out.1]; rfl
  clear hG HE hmf
  refine wp_region_lit ?_
  refine load_v rfl _ _ rfl w.heap.size rfl H4.out.b0 Tryz.underlying26 rfl (by kernel_rfl) ?_
  go_wp2_with fail
  refine HR.out.mono ?_
  rintro e w1 ⟨rfl, hb⟩
  have H41 := Lib.hid (H4.out.on hb)
  clear hb H4 HR
  by_cases hr : rightS s
  case neg =>
    rw [decide_eq_false hr]
    have hse : sealE s f x = 1 := by unfold sealE; rw [if_pos fun h => hr h.1]
    clear hr
    go_wp2_with fail
    refine (refuse_yes 1 w1).mono ?_
    rintro e w2 ⟨rfl, rfl⟩
    go_wp2_with fail
    exact door_bad s f x 1 (by rw [hse]; decide) hse w _ _ H41.out _ rfl rfl rfl
  case pos =>
    rw [decide_eq_true hr]
    go_wp2_with fail
    refine (refuse_not 1 w1).mono ?_
    rintro e w2 ⟨rfl, rfl⟩
    go_upto_region 3 with fail
    have hck := fun W (hW : Below w1.heap.size w1 W) => CloneK_any a c s.kept HLN.out.1 W ((HS.out.kept.on H41.out.below).on hW)
    have hcu := fun W (hW : Below w1.heap.size w1 W) => CloneS_any b d s.used HLN.out.2.2.1 W ((HS.out.used.on H41.out.below).on hW)
    have HCK := Lib.hid hck; have HCU := Lib.hid hcu
    clear hck hcu
    go_cut [] from 13 to 20 (ClonedAt w s)
    case first =>
      have hz : At4 w (seL s a c b d) (seL se0 none 0 none 0) zeroY 0 w1.drew := H41.out.on (Below.refl _ _).drew
      have hr0 : Below w1.heap.size w1 w1.drew := (Below.refl _ _).drew
      have hn3 : w.heap.size + 3 < w1.drew.heap.size := H41.out.b3.lt
      refine wp_region_noPanic ?_
      refine wp_region_any (by kernel_rfl) ?_
      -- orders begin
      refine wpAny_take (i := 0) (v := .pointer (some ⟨w.heap.size, 8, none⟩)) rfl (by kernel_rfl) (by kernel_rfl) (by kernel_rfl) (fun _ _ _ h => h) (.inl ⟨rfl, fun W => by first | kernel_rfl | go_simp⟩) ?_
      refine wpAny_take (i := 3) (v := .pointer (some ⟨w.heap.size, 9, none⟩)) rfl (by kernel_rfl) (by kernel_rfl) (by kernel_rfl) (fun _ _ _ h => h) (.inl ⟨rfl, fun W => by first | kernel_rfl | go_simp⟩) ?_
      refine wpAny_all (rs := [1, 4]) (by kernel_rfl) (by decide) (List.forall_mem_cons.2 ⟨?_, List.forall_mem_cons.2 ⟨?_, List.forall_mem_nil _⟩⟩)
      · refine val_any rfl rfl (w' := w1.drew) (v := .slice a s.kept.length c) (by have h8 := hz.b0.cell 8 _ rfl; go_simp) ?_
        refine wpAny_all (rs := [2, 4]) (by kernel_rfl) (by decide) (List.forall_mem_cons.2 ⟨?_, List.forall_mem_cons.2 ⟨?_, List.forall_mem_nil _⟩⟩)
        · refine callx_any (f := 66) (args := #[.slice a s.kept.length c]) rfl rfl (by kernel_rfl) (HCK.out _ hr0) ?_
          rintro v w3 ⟨hO, hbk⟩
          obtain ⟨a', c', rfl, hkc', hks⟩ := hO.ksl
          have h4k := hz.on hbk
          have hr3 := hr0.trans (hbk.mono hr0.size)
          refine wpAny_all (rs := [4]) (by kernel_rfl) (by decide) (List.forall_mem_cons.2 ⟨?_, List.forall_mem_nil _⟩)
          refine val_any rfl rfl (w' := w3) (v := .slice b s.used.length d) (by have h9 := h4k.b0.cell 9 _ rfl; go_simp) ?_
          refine wpAny_take (i := 6) (v := .pointer (some ⟨w.heap.size, 8, none⟩)) rfl (by kernel_rfl) (by kernel_rfl) (by kernel_rfl) (fun _ _ _ h => h) (.inl ⟨rfl, fun W => by first | kernel_rfl | go_simp⟩) ?_
          refine wpAny_all (rs := [5]) (by kernel_rfl) (by decide) (List.forall_mem_cons.2 ⟨?_, List.forall_mem_nil _⟩)
          refine callx_any (f := 67) (args := #[.slice b s.used.length d]) rfl rfl (by kernel_rfl) (HCU.out _ hr3) ?_
          rintro v w4 ⟨hO2, hbu⟩
          obtain ⟨b', d', rfl, hud', hus⟩ := hO2.read
          have h4u := h4k.on hbu
          have hks2 := hks.on hbu
          refine wpAny_all (rs := [7]) (by kernel_rfl) (by decide) (List.forall_mem_cons.2 ⟨?_, List.forall_mem_nil _⟩)
          refine skip_any rfl rfl (w' := w4.setCell ⟨w.heap.size, 8, none⟩ (.slice a' s.kept.length c')) (by have h8 := h4u.b0.cell 8 _ rfl; have y8 := h4u.b0.frozen 8; go_simp) ?_
          refine wpAny_take (i := 8) (v := .pointer (some ⟨w.heap.size, 9, none⟩)) rfl (by kernel_rfl) (by kernel_rfl) (by kernel_rfl) (fun _ _ _ h => h) (.inl ⟨rfl, fun W => by first | kernel_rfl | go_simp⟩) ?_
          refine wpAny_all (rs := [9]) (by kernel_rfl) (by decide) (List.forall_mem_cons.2 ⟨?_, List.forall_mem_nil _⟩)
          refine skip_any rfl rfl (w' := (w4.setCell ⟨w.heap.size, 8, none⟩ (.slice a' s.kept.length c')).setCell ⟨w.heap.size, 9, none⟩ (.slice b' s.used.length d')) (by have h9 := (h4u.b0.set 8 (.slice a' s.kept.length c')).cell 9 _ rfl; have y9 := (h4u.b0.set 8 (.slice a' s.kept.length c')).frozen 9; go_simp) ?_
          have hfin := cloned_at h4u a' c' b' d' hks2 hus hkc' hud' (ownK_lo hO hn3) (ownS_lo hO2 (Nat.lt_of_lt_of_le hn3 hbk.size))
          refine wpAny_done (by kernel_rfl) ?_ _
          refine NoPanic.normal ?_
          go_wp2_with fail
          go_meet
          exact hfin
        · refine val_any rfl rfl (w' := w1.drew) (v := .slice b s.used.length d) (by have h9 := hz.b0.cell 9 _ rfl; go_simp) ?_
          refine wpAny_all (rs := [2]) (by kernel_rfl) (by decide) (List.forall_mem_cons.2 ⟨?_, List.forall_mem_nil _⟩)
          refine callx_any (f := 66) (args := #[.slice a s.kept.length c]) rfl rfl (by kernel_rfl) (HCK.out _ hr0) ?_
          rintro v w3 ⟨hO, hbk⟩
          obtain ⟨a', c', rfl, hkc', hks⟩ := hO.ksl
          have h4k := hz.on hbk
          have hr3 := hr0.trans (hbk.mono hr0.size)
          refine wpAny_take (i := 6) (v := .pointer (some ⟨w.heap.size, 8, none⟩)) rfl (by kernel_rfl) (by kernel_rfl) (by kernel_rfl) (fun _ _ _ h => h) (.inl ⟨rfl, fun W => by first | kernel_rfl | go_simp⟩) ?_
          refine wpAny_all (rs := [5]) (by kernel_rfl) (by decide) (List.forall_mem_cons.2 ⟨?_, List.forall_mem_nil _⟩)
          refine callx_any (f := 67) (args := #[.slice b s.used.length d]) rfl rfl (by kernel_rfl) (HCU.out _ hr3) ?_
          rintro v w4 ⟨hO2, hbu⟩
          obtain ⟨b', d', rfl, hud', hus⟩ := hO2.read
          have h4u := h4k.on hbu
          have hks2 := hks.on hbu
          refine wpAny_all (rs := [7]) (by kernel_rfl) (by decide) (List.forall_mem_cons.2 ⟨?_, List.forall_mem_nil _⟩)
          refine skip_any rfl rfl (w' := w4.setCell ⟨w.heap.size, 8, none⟩ (.slice a' s.kept.length c')) (by have h8 := h4u.b0.cell 8 _ rfl; have y8 := h4u.b0.frozen 8; go_simp) ?_
          refine wpAny_take (i := 8) (v := .pointer (some ⟨w.heap.size, 9, none⟩)) rfl (by kernel_rfl) (by kernel_rfl) (by kernel_rfl) (fun _ _ _ h => h) (.inl ⟨rfl, fun W => by first | kernel_rfl | go_simp⟩) ?_
          refine wpAny_all (rs := [9]) (by kernel_rfl) (by decide) (List.forall_mem_cons.2 ⟨?_, List.forall_mem_nil _⟩)
          refine skip_any rfl rfl (w' := (w4.setCell ⟨w.heap.size, 8, none⟩ (.slice a' s.kept.length c')).setCell ⟨w.heap.size, 9, none⟩ (.slice b' s.used.length d')) (by have h9 := (h4u.b0.set 8 (.slice a' s.kept.length c')).cell 9 _ rfl; have y9 := (h4u.b0.set 8 (.slice a' s.kept.length c')).frozen 9; go_simp) ?_
          have hfin := cloned_at h4u a' c' b' d' hks2 hus hkc' hud' (ownK_lo hO hn3) (ownS_lo hO2 (Nat.lt_of_lt_of_le hn3 hbk.size))
          refine wpAny_done (by kernel_rfl) ?_ _
          refine NoPanic.normal ?_
          go_wp2_with fail
          go_meet
          exact hfin
      · refine val_any rfl rfl (w' := w1.drew) (v := .slice b s.used.length d) (by have h9 := hz.b0.cell 9 _ rfl; go_simp) ?_
        refine wpAny_all (rs := [1]) (by kernel_rfl) (by decide) (List.forall_mem_cons.2 ⟨?_, List.forall_mem_nil _⟩)
        refine val_any rfl rfl (w' := w1.drew) (v := .slice a s.kept.length c) (by have h8 := hz.b0.cell 8 _ rfl; go_simp) ?_
        refine wpAny_all (rs := [2]) (by kernel_rfl) (by decide) (List.forall_mem_cons.2 ⟨?_, List.forall_mem_nil _⟩)
        refine callx_any (f := 66) (args := #[.slice a s.kept.length c]) rfl rfl (by kernel_rfl) (HCK.out _ hr0) ?_
        rintro v w3 ⟨hO, hbk⟩
        obtain ⟨a', c', rfl, hkc', hks⟩ := hO.ksl
        have h4k := hz.on hbk
        have hr3 := hr0.trans (hbk.mono hr0.size)
        refine wpAny_take (i := 6) (v := .pointer (some ⟨w.heap.size, 8, none⟩)) rfl (by kernel_rfl) (by kernel_rfl) (by kernel_rfl) (fun _ _ _ h => h) (.inl ⟨rfl, fun W => by first | kernel_rfl | go_simp⟩) ?_
        refine wpAny_all (rs := [5]) (by kernel_rfl) (by decide) (List.forall_mem_cons.2 ⟨?_, List.forall_mem_nil _⟩)
        refine callx_any (f := 67) (args := #[.slice b s.used.length d]) rfl rfl (by kernel_rfl) (HCU.out _ hr3) ?_
        rintro v w4 ⟨hO2, hbu⟩
        obtain ⟨b', d', rfl, hud', hus⟩ := hO2.read
        have h4u := h4k.on hbu
        have hks2 := hks.on hbu
        refine wpAny_all (rs := [7]) (by kernel_rfl) (by decide) (List.forall_mem_cons.2 ⟨?_, List.forall_mem_nil _⟩)
        refine skip_any rfl rfl (w' := w4.setCell ⟨w.heap.size, 8, none⟩ (.slice a' s.kept.length c')) (by have h8 := h4u.b0.cell 8 _ rfl; have y8 := h4u.b0.frozen 8; go_simp) ?_
        refine wpAny_take (i := 8) (v := .pointer (some ⟨w.heap.size, 9, none⟩)) rfl (by kernel_rfl) (by kernel_rfl) (by kernel_rfl) (fun _ _ _ h => h) (.inl ⟨rfl, fun W => by first | kernel_rfl | go_simp⟩) ?_
        refine wpAny_all (rs := [9]) (by kernel_rfl) (by decide) (List.forall_mem_cons.2 ⟨?_, List.forall_mem_nil _⟩)
        refine skip_any rfl rfl (w' := (w4.setCell ⟨w.heap.size, 8, none⟩ (.slice a' s.kept.length c')).setCell ⟨w.heap.size, 9, none⟩ (.slice b' s.used.length d')) (by have h9 := (h4u.b0.set 8 (.slice a' s.kept.length c')).cell 9 _ rfl; have y9 := (h4u.b0.set 8 (.slice a' s.kept.length c')).frozen 9; go_simp) ?_
        have hfin := cloned_at h4u a' c' b' d' hks2 hus hkc' hud' (ownK_lo hO hn3) (ownS_lo hO2 (Nat.lt_of_lt_of_le hn3 hbk.size))
        refine wpAny_done (by kernel_rfl) ?_ _
        refine NoPanic.normal ?_
        go_wp2_with fail
        go_meet
        exact hfin
      -- orders end
    case rest =>
      obtain ⟨a', c', b', d', h4, hs', hkc', hud'⟩ := hcut
      have H5 := Lib.hid h4; have HS5 := Lib.hid hs'; have HC5 := Lib.hid (And.intro hkc' hud')
      clear h4 hs' hkc' hud' HCK HCU H41 HS
      go_upto_region 4 with fail
      refine wp_region_lit ?_
      refine load_v rfl _ _ rfl w.heap.size rfl H5.out.b0 Tryz.underlying26 rfl (by kernel_rfl) ?_
      simp only [seL]
      iterate 2 (refine wpList_step (fun K hK => ?_); go_simp; refine hK _ _ ?_; clear hK K)
      have hT : BlkV (wc.alloc (.cells (seL se0 none 0 none 0).toArray 70)) wc.heap.size 70 (seL se0 none 0 none 0) := BlkV.fresh _ _ _ _ rfl _ rfl
      have hTB : Below wc.heap.size wc (wc.alloc (.cells (seL se0 none 0 none 0).toArray 70)) := (Below.refl _ _).alloc (Nat.le_refl _) _
      obtain ⟨V, eV⟩ : ∃ V, wc.alloc (.cells (seL se0 none 0 none 0).toArray 70) = V := ⟨_, rfl⟩
      rw [eV] at hT hTB
      generalize hG : World.alloc wc _ = G
      obtain rfl : V = G := by rw [← hG, ← eV]; rfl
      clear hG eV
      have hn4 : w.heap.size + 3 < wc.heap.size := H5.out.b3.lt
      refine store_v rfl rfl _ _ _ rfl wc.heap.size rfl (l' := seL s a' c' b' d') rfl hT rfl (seL_one _ _ _ _ _) (by kernel_rfl) ?_
      have hW := hT.stored (seL s a' c' b' d') rfl
      have hWB := below_setCells (Nat.le_refl wc.heap.size) (seL s a' c' b' d') 0 _ hTB
      generalize World.setCells V _ _ _ = V2 at hW hWB ⊢
      have h6 := H5.out.on hWB
      have hs6 := HS5.out.on hWB
      have hr' := hr
      unfold rightS at hr'
      obtain ⟨⟨ho, -, -, hse, -, -⟩, -, -, -, hst, -, hpv⟩ := hr'
      have hfn := sealFn_y s a' c' b' d' ho hse hst hpv f fa fc HLN.out.2.2.2 HOK.out x w HV.out wc.heap.size (by omega) 70 V2 h6.below hW (HSF.out.on h6.below) Fb Xb (HF.out.on h6.below) (by rw [h6.below.cell (World.block_lt_of_cell? w _ HX.out)]; exact HX.out)
      have hEE : sealE s f x = sealE2 s f x := by
        unfold sealE sealE2
        by_cases hp : rightF (probeF f) = true
        · rw [if_neg (fun h => h ⟨hr, hp⟩), if_neg (show ¬ rightF (probeF f) = false by rw [hp]; decide)]
        · rw [if_pos (fun h => hp h.2), if_pos (show rightF (probeF f) = false by simpa using hp)]
      have H6 := Lib.hid h6; have HS6 := Lib.hid hs6; have HFN := Lib.hid hfn; have HEE := Lib.hid hEE; have HN4 := Lib.hid hn4
      have HWB := Lib.hid hWB
      clear hT hTB hW hWB h6 hs6 hfn hEE hn4 H5 hr ho hse hst hpv HSF HF HX HV HOK HLN
      refine wpList_nil ?_
      rename_i K hK
      refine hK _ _ ?_
      clear hK K
      go_wp2_with fail
      refine HFN.out.mono ?_
      rintro e w3 (⟨h0, rfl, hb, hw3, -⟩ | ⟨h0, rfl, hb⟩)
      case inr =>
        have H7 := Lib.hid (H6.out.low hb HN4.out)
        have HNE := Lib.hid (show sealE s f x ≠ 0 by rw [HEE.out]; exact h0)
        clear h0 hb H6 HS6 HFN HS5
        go_wp2_with fail
        exact door_bad s f x (sealE2 s f x) HNE.out HEE.out w _ _ H7.out _ rfl rfl rfl
      case inl =>
        have h7 := H6.out.low hb HN4.out
        have hs7 := HS5.out.on (HWB.out.trans hb)
        have h00 : sealE s f x = 0 := by rw [HEE.out]; exact h0
        have hlo := HN4.out
        have HW3 := Lib.hid hw3; have H7 := Lib.hid h7; have HS7 := Lib.hid hs7; have H0 := Lib.hid h00
        clear hb hw3 h7 hs7 h0 h00 hlo HFN H6 HS6 HS5 HWB
        rename_i K hK
        refine hK _ _ ?_
        clear hK K
        refine store_v rfl rfl _ _ _ rfl (w.heap.size + 2) rfl (l' := frL (sealF s f x) none 0) rfl H7.out.b2 rfl (frL_oneY _ _ _) (by kernel_rfl) ?_
        have k7 := H7.out.put2 (frL (sealF s f x) none 0) rfl
        have hb7 := HW3.out.farS (show wc.heap.size ≠ w.heap.size + 2 by have := HN4.out; omega) (frL (sealF s f x) none 0)
        have s7 := HS7.out.put (w.heap.size + 2) (by omega) (frL (sealF s f x) none 0)
        generalize World.setCells w3 _ _ _ = w4 at k7 hb7 s7 ⊢
        refine wpList_nil ?_
        rename_i K hK
        refine hK _ _ ?_
        clear hK K
        have K7 := Lib.hid k7; have B7 := Lib.hid hb7; have S7 := Lib.hid s7
        clear k7 hb7 s7
        go_upto_region 6 with fail
        have hk7 := K7.out.on (Below.refl _ _).drew
        have hb7 := B7.out.on (Below.refl _ _).drew
        have hsd := S7.out.on (Below.refl _ _).drew
        refine wp_region_noPanic ?_
        refine wp_region_any (by kernel_rfl) ?_
        refine wpAny_take (i := 0) (v := .pointer (some ⟨wc.heap.size, 0, none⟩)) rfl (by kernel_rfl) (by kernel_rfl) (by kernel_rfl) (fun _ _ _ h => h) (.inl ⟨rfl, fun W => by first | kernel_rfl | go_simp⟩) ?_
        refine wpAny_all (rs := [1, 2]) (by kernel_rfl) (by decide) (List.forall_mem_cons.2 ⟨?_, List.forall_mem_cons.2 ⟨?_, List.forall_mem_nil _⟩⟩)
        · refine load_anyY rfl rfl 26 _ rfl wc.heap.size rfl hb7 Tryz.underlying26 rfl (by kernel_rfl) ?_
          refine wpAny_all (rs := [2, 3]) (by kernel_rfl) (by decide) (List.forall_mem_cons.2 ⟨?_, List.forall_mem_cons.2 ⟨?_, List.forall_mem_nil _⟩⟩)
          · refine load_anyY rfl rfl 43 _ rfl (w.heap.size + 2) rfl hk7.b2 Tryz.underlying43 rfl (by kernel_rfl) ?_
            refine wpAny_all (rs := [3]) (by kernel_rfl) (by decide) (List.forall_mem_cons.2 ⟨?_, List.forall_mem_nil _⟩)
            refine store_anyY rfl rfl rfl 26 _ _ rfl (w.heap.size + 1) rfl (l' := seL (sealS s) a' c' b' d') rfl hk7.b1 rfl (seL_one _ _ _ _ _) (by kernel_rfl) ?_
            have k8 := hk7.put1 (seL (sealS s) a' c' b' d') rfl
            refine wpAny_all (rs := [4]) (by kernel_rfl) (by decide) (List.forall_mem_cons.2 ⟨?_, List.forall_mem_nil _⟩)
            refine store_anyY rfl rfl rfl 43 _ _ rfl (w.heap.size + 2) rfl (l' := frL (sealF s f x) none 0) rfl k8.b2 rfl (frL_oneY _ _ _) (by kernel_rfl) ?_
            have k9 := k8.put2 (frL (sealF s f x) none 0) rfl
            refine wpAny_all (rs := [5]) (by kernel_rfl) (by decide) (List.forall_mem_cons.2 ⟨?_, List.forall_mem_nil _⟩)
            refine skip_any rfl rfl (w' := ((w4.drew.setCells (w.heap.size + 1) 0 (seL (sealS s) a' c' b' d')).setCells (w.heap.size + 2) 0 (frL (sealF s f x) none 0)).setCell ⟨w.heap.size + 3, 0, none⟩ (.int .i64 0)) (by have h3 := k9.b3.cell 0 _ rfl; have y3 := k9.b3.frozen 0; go_simp) ?_
            have k10 := k9.put3 0
            refine wpAny_done (by kernel_rfl) ?_ _
            refine NoPanic.normal ?_
            have K10 := Lib.hid k10
            have S10 := Lib.hid (((hsd.put (w.heap.size + 1) (by omega) (seL (sealS s) a' c' b' d')).put (w.heap.size + 2) (by omega) (frL (sealF s f x) none 0)).put1 ⟨w.heap.size + 3, 0, none⟩ (Nat.le_refl _) (.int .i64 0))
            clear k10 k9 k8 hk7 hb7 hsd
            go_wp2_with fail
            exact door_good s f x H0.out w _ a' c' b' d' _ K10.out S10.out HC5.out.1 HC5.out.2 _ rfl rfl rfl
          · refine store_anyY rfl rfl rfl 26 _ _ rfl (w.heap.size + 1) rfl (l' := seL (sealS s) a' c' b' d') rfl hk7.b1 rfl (seL_one _ _ _ _ _) (by kernel_rfl) ?_
            have k8 := hk7.put1 (seL (sealS s) a' c' b' d') rfl
            refine wpAny_all (rs := [2]) (by kernel_rfl) (by decide) (List.forall_mem_cons.2 ⟨?_, List.forall_mem_nil _⟩)
            refine load_anyY rfl rfl 43 _ rfl (w.heap.size + 2) rfl k8.b2 Tryz.underlying43 rfl (by kernel_rfl) ?_
            refine wpAny_all (rs := [4]) (by kernel_rfl) (by decide) (List.forall_mem_cons.2 ⟨?_, List.forall_mem_nil _⟩)
            refine store_anyY rfl rfl rfl 43 _ _ rfl (w.heap.size + 2) rfl (l' := frL (sealF s f x) none 0) rfl k8.b2 rfl (frL_oneY _ _ _) (by kernel_rfl) ?_
            have k9 := k8.put2 (frL (sealF s f x) none 0) rfl
            refine wpAny_all (rs := [5]) (by kernel_rfl) (by decide) (List.forall_mem_cons.2 ⟨?_, List.forall_mem_nil _⟩)
            refine skip_any rfl rfl (w' := ((w4.drew.setCells (w.heap.size + 1) 0 (seL (sealS s) a' c' b' d')).setCells (w.heap.size + 2) 0 (frL (sealF s f x) none 0)).setCell ⟨w.heap.size + 3, 0, none⟩ (.int .i64 0)) (by have h3 := k9.b3.cell 0 _ rfl; have y3 := k9.b3.frozen 0; go_simp) ?_
            have k10 := k9.put3 0
            refine wpAny_done (by kernel_rfl) ?_ _
            refine NoPanic.normal ?_
            have K10 := Lib.hid k10
            have S10 := Lib.hid (((hsd.put (w.heap.size + 1) (by omega) (seL (sealS s) a' c' b' d')).put (w.heap.size + 2) (by omega) (frL (sealF s f x) none 0)).put1 ⟨w.heap.size + 3, 0, none⟩ (Nat.le_refl _) (.int .i64 0))
            clear k10 k9 k8 hk7 hb7 hsd
            go_wp2_with fail
            exact door_good s f x H0.out w _ a' c' b' d' _ K10.out S10.out HC5.out.1 HC5.out.2 _ rfl rfl rfl
        · refine load_anyY rfl rfl 43 _ rfl (w.heap.size + 2) rfl hk7.b2 Tryz.underlying43 rfl (by kernel_rfl) ?_
          refine wpAny_all (rs := [1]) (by kernel_rfl) (by decide) (List.forall_mem_cons.2 ⟨?_, List.forall_mem_nil _⟩)
          refine load_anyY rfl rfl 26 _ rfl wc.heap.size rfl hb7 Tryz.underlying26 rfl (by kernel_rfl) ?_
          refine wpAny_all (rs := [3]) (by kernel_rfl) (by decide) (List.forall_mem_cons.2 ⟨?_, List.forall_mem_nil _⟩)
          refine store_anyY rfl rfl rfl 26 _ _ rfl (w.heap.size + 1) rfl (l' := seL (sealS s) a' c' b' d') rfl hk7.b1 rfl (seL_one _ _ _ _ _) (by kernel_rfl) ?_
          have k8 := hk7.put1 (seL (sealS s) a' c' b' d') rfl
          refine wpAny_all (rs := [4]) (by kernel_rfl) (by decide) (List.forall_mem_cons.2 ⟨?_, List.forall_mem_nil _⟩)
          refine store_anyY rfl rfl rfl 43 _ _ rfl (w.heap.size + 2) rfl (l' := frL (sealF s f x) none 0) rfl k8.b2 rfl (frL_oneY _ _ _) (by kernel_rfl) ?_
          have k9 := k8.put2 (frL (sealF s f x) none 0) rfl
          refine wpAny_all (rs := [5]) (by kernel_rfl) (by decide) (List.forall_mem_cons.2 ⟨?_, List.forall_mem_nil _⟩)
          refine skip_any rfl rfl (w' := ((w4.drew.setCells (w.heap.size + 1) 0 (seL (sealS s) a' c' b' d')).setCells (w.heap.size + 2) 0 (frL (sealF s f x) none 0)).setCell ⟨w.heap.size + 3, 0, none⟩ (.int .i64 0)) (by have h3 := k9.b3.cell 0 _ rfl; have y3 := k9.b3.frozen 0; go_simp) ?_
          have k10 := k9.put3 0
          refine wpAny_done (by kernel_rfl) ?_ _
          refine NoPanic.normal ?_
          have K10 := Lib.hid k10
          have S10 := Lib.hid (((hsd.put (w.heap.size + 1) (by omega) (seL (sealS s) a' c' b' d')).put (w.heap.size + 2) (by omega) (frL (sealF s f x) none 0)).put1 ⟨w.heap.size + 3, 0, none⟩ (Nat.le_refl _) (.int .i64 0))
          clear k10 k9 k8 hk7 hb7 hsd
          go_wp2_with fail
          exact door_good s f x H0.out w _ a' c' b' d' _ K10.out S10.out HC5.out.1 HC5.out.2 _ rfl rfl rfl
end Go.Proofs.YthjlhcmdpeinpaaGreatDoor

/- The package session's Seal: the session behind a text, and its frame. -/
namespace Go.Proofs.YthjlhcmdpeinpaaGreatDoor
open Go.RowKit Go.Sort
set_option maxRecDepth 100000
/-- a session's, a frame's cells and a number are what is told -/
theorem results_vvt {P : Program} {fn : Func} {p q u : Tmp} {T U : TypeId} (h : fn.results = #[.cell p T, .cell q U, .tmp u]) (tmps : Array Value) (w : World) (ap aq : Addr) {v1 v2 : Value}
    (hp : tmps.getD p undef = .pointer (some ap)) (hq : tmps.getD q undef = .pointer (some aq)) 
    (e1 : (loadVar T ap).run P w = .ok v1 w) (e2 : (loadVar U aq).run P w = .ok v2 w) : (results fn tmps).run P w = .ok (.tuple #[v1, v2, tmps.getD u undef]) w := by
  rw [Array.getD_eq_getD_getElem?] at hp hq
  simp only [results, h]
  simp [Sem.run_bind, Result.andThen, asAddr, hp, hq, e1, e2]
set_option maxHeartbeats 4000000 in
theorem Seal_any (s : Se) (a : Option Addr) (c : Nat) (b : Option Addr) (d : Nat) (hk : s.kept.length ≤ 1000) (hkc : s.kept.length ≤ c) (hu : s.used.length ≤ 1000) (hud : s.used.length ≤ d)
    (f : Fr) (fa : Option Addr) (fc : Nat) (hl : f.keys.length ≤ maxLen) (hok : FrOk f) (x : ByteArray) (w : World) (hV : Vr w) (hs : SeAt w s a b) (hf : SSl w fa f.keys) :
    Calls Tryz.prog 18 #[seV s a c b d, frV f fa fc, .string x] w (AtPost s f x w) := by
  have hmf : ∀ (fn : Fn) (first cap : Array Value) (w : World), (Instr.makeFunc fn first cap).run Tryz.prog w = .ok (.func fn first cap) w := fun _ _ _ _ => rfl
  obtain ⟨W0, eW0⟩ : ∃ W0, w.alloc (.cells (seL s a c b d).toArray 26) = W0 := ⟨_, rfl⟩
  obtain ⟨W1, eW1⟩ : ∃ W1, W0.alloc (.cells (frL f fa fc).toArray 43) = W1 := ⟨_, rfl⟩
  obtain ⟨W2, eW2⟩ : ∃ W2, W1.alloc (.cells #[.string x] 9) = W2 := ⟨_, rfl⟩
  obtain ⟨W3, eW3⟩ : ∃ W3, W2.alloc (.cells (seL se0 none 0 none 0).toArray 26) = W3 := ⟨_, rfl⟩
  obtain ⟨W, eW⟩ : ∃ W, W3.alloc (.cells zeroY.toArray 43) = W := ⟨_, rfl⟩
  have z0 : W0.heap.size = w.heap.size + 1 := by rw [← eW0]; simp
  have z1 : W1.heap.size = w.heap.size + 2 := by rw [← eW1]; simp [z0]
  have z2 : W2.heap.size = w.heap.size + 3 := by rw [← eW2]; simp [z1]
  have z3 : W3.heap.size = w.heap.size + 4 := by rw [← eW3]; simp [z2]
  have hb0 : Below w.heap.size w W0 := by rw [← eW0]; exact (Below.refl _ _).alloc (Nat.le_refl _) _
  have hb1 : Below w.heap.size w W1 := by rw [← eW1]; exact hb0.alloc hb0.size _
  have hb2 : Below w.heap.size w W2 := by rw [← eW2]; exact hb1.alloc hb1.size _
  have hb3 : Below w.heap.size w W3 := by rw [← eW3]; exact hb2.alloc hb2.size _
  have hbW : Below w.heap.size w W := by rw [← eW]; exact hb3.alloc hb3.size _
  have h0 : BlkV W w.heap.size 26 (seL s a c b d) := by rw [← eW, ← eW3, ← eW2, ← eW1, ← eW0]; exact ((((BlkV.fresh _ _ _ _ rfl _ rfl).alloc _).alloc _).alloc _).alloc _
  have h1 : BlkV W (w.heap.size + 1) 43 (frL f fa fc) := by rw [← eW, ← eW3, ← eW2, ← eW1]; exact (((BlkV.fresh _ _ _ _ rfl _ z0.symm).alloc _).alloc _).alloc _
  have h2 : BlkV W (w.heap.size + 2) 9 [.string x] := by rw [← eW, ← eW3, ← eW2]; exact ((BlkV.fresh _ _ _ _ rfl _ z1.symm).alloc _).alloc _
  have h3 : BlkV W (w.heap.size + 3) 26 (seL se0 none 0 none 0) := by rw [← eW, ← eW3]; exact (BlkV.fresh _ _ _ _ rfl _ z2.symm).alloc _
  have h4 : BlkV W (w.heap.size + 4) 43 zeroY := by rw [← eW]; exact BlkV.fresh _ _ _ _ rfl _ z3.symm
  have hat := atWork_y s a c b d hk hkc hu hud f fa fc hl hok x W (hV.on hbW) (hs.on hbW) (hf.on hbW) (w.heap.size + 1) (w.heap.size + 2) h1 (h2.cell 0 _ rfl)
  have HAT := Lib.hid hat; have H0 := Lib.hid h0; have H3 := Lib.hid h3; have H4 := Lib.hid h4; have HB := Lib.hid hbW; have HE := Lib.hid (And.intro eW0 (And.intro eW1 (And.intro eW2 (And.intro eW3 eW))))
  clear hat h0 h1 h2 h3 h4 hbW eW0 eW1 eW2 eW3 eW z0 z1 z2 z3 hb0 hb1 hb2 hb3 hV hs hf hk hkc hu hud hl hok
  have ef : frV f fa fc = .agg (frL f fa fc).toArray := rfl
  rw [ef]
  unfold seV at HAT ⊢
  clear ef
  go_enter Tryz.func18, Tryz.ntmps18
  go_upto_region 1 with fail
  generalize hG : World.alloc (World.alloc (World.alloc (World.alloc (World.alloc w _) _) _) _) _ = G
  obtain rfl : W = G := by rw [← hG, ← HE.out.2.2.2.2, ← HE.out.2.2.2.1, ← HE.out.2.2.1, ← HE.out.2.1, ← HE.out.1]; rfl
  clear hG HE
  refine wp_region_lit ?_
  refine load_v rfl _ _ rfl w.heap.size rfl H0.out Tryz.underlying26 rfl (by kernel_rfl) ?_
  go_wp2_with fail
  refine HAT.out.mono ?_
  rintro e w1 h
  obtain ⟨l1, l2, k, rfl, hl1, hl2, o1, o2, hb, hpost⟩ : ∃ (l1 l2 : List Value) (k : Int), e = .returned (.tuple #[.agg l1.toArray, .agg l2.toArray, .int .i64 k]) ∧ l1.length = 10 ∧ l2.length = 13 ∧ (∀ v ∈ l1, v.oneCell' = true) ∧ (∀ v ∈ l2, v.oneCell' = true) ∧ Below W.heap.size W w1 ∧
      ∀ w', Below w.heap.size w w' → w1.heap.size ≤ w'.heap.size → (∀ g, W.heap.size ≤ g → w'.heap[g]? = w1.heap[g]?) → AtPost s f x w (.returned (.tuple #[.agg l1.toArray, .agg l2.toArray, .int .i64 k])) w' := by
    rcases h with ⟨h0, a', c', b', d', rfl, hs1, hc1, hd1, hb, hka, hua⟩ | ⟨h0, rfl, hb⟩
    · refine ⟨seL (sealS s) a' c' b' d', frL (sealF s f x) none 0, 0, rfl, rfl, rfl, seL_one _ _ _ _ _, frL_oneY _ _ _, hb, fun w' hB hsz hh => Or.inl ⟨h0, a', c', b', d', rfl, ?_, hc1, hd1, hB, fun g off sp e => Nat.le_trans HB.out.size (hka g off sp e), fun g off sp e => Nat.le_trans HB.out.size (hua g off sp e)⟩⟩
      exact ⟨hs1.kept.via hsz fun g off sp e => hh g (hka g off sp e), hs1.used.via hsz fun g off sp e => hh g (hua g off sp e)⟩
    · exact ⟨seL se0 none 0 none 0, frL fr0 none 0, sealE s f x, rfl, rfl, rfl, seL_one _ _ _ _ _, frL_oneY _ _ _, hb, fun w' hB hsz hh => Or.inr ⟨h0, rfl, hB⟩⟩
  have hlt := H4.out.lt
  have h31 := H3.out.on hb
  have h41 := H4.out.on hb
  have hBw := HB.out.trans (hb.mono HB.out.size)
  have HP := Lib.hid hpost; have HLT := Lib.hid hlt
  clear hpost h hlt H0 H3 H4 HAT HB hmf
  rename_i K hK
  refine hK _ _ ?_
  clear hK K
  iterate 3 (refine wpList_step (fun K hK => ?_); go_simp; refine hK _ _ ?_; clear hK K)
  refine store_v rfl rfl _ _ _ rfl (w.heap.size + 3) rfl (l' := l1) rfl h31 hl1 o1 (by kernel_rfl) ?_
  have h32 := h31.stored l1 hl1
  have h42 := h41.farS (show w.heap.size + 4 ≠ w.heap.size + 3 by omega) l1
  refine store_v rfl rfl _ _ _ rfl (w.heap.size + 4) rfl (l' := l2) rfl h42 hl2 o2 (by kernel_rfl) ?_
  have h33 := h32.farS (show w.heap.size + 3 ≠ w.heap.size + 4 by omega) l2
  have h43 := h42.stored l2 hl2
  have hB2 := below_setCells (show w.heap.size ≤ w.heap.size + 4 by omega) l2 0 _ (below_setCells (show w.heap.size ≤ w.heap.size + 3 by omega) l1 0 _ hBw)
  have hsz := ((below_setCells (Nat.zero_le (w.heap.size + 3)) l1 0 w1 (Below.refl 0 w1)).trans (below_setCells (Nat.zero_le (w.heap.size + 4)) l2 0 _ (Below.refl 0 _))).size
  have hh : ∀ g, W.heap.size ≤ g → ((w1.setCells (w.heap.size + 3) 0 l1).setCells (w.heap.size + 4) 0 l2).heap[g]? = w1.heap[g]? := fun g hg => by
    have := HLT.out
    rw [heap_setCells_other _ g (by omega), heap_setCells_other _ g (by omega)]
  have hfin := HP.out _ hB2 hsz hh
  clear hB2 hsz hh h31 h32 h41 h42 hBw HP HLT
  generalize World.setCells (World.setCells w1 _ _ _) _ _ _ = W9 at h33 h43 hfin ⊢
  iterate 1 (refine wpList_step (fun K hK => ?_); go_simp; refine hK _ _ ?_; clear hK K)
  refine wpList_nil ?_
  rename_i K hK
  refine hK _ _ ?_
  refine wp_ret ?_
  exact bodyPost_ret (results_vvt (p := 6) (q := 7) (u := 8) (T := 26) (U := 43) (by kernel_rfl) _ _ _ _ rfl rfl (run_loadVar_mid W9 (w.heap.size + 3) 0 _ l1 _ h33.range Tryz.underlying26 rfl (by rw [hl1]; kernel_rfl)) (run_loadVar_mid W9 (w.heap.size + 4) 0 _ l2 _ h43.range Tryz.underlying43 rfl (by rw [hl2]; kernel_rfl))) rfl hfin
end Go.Proofs.YthjlhcmdpeinpaaGreatDoor
