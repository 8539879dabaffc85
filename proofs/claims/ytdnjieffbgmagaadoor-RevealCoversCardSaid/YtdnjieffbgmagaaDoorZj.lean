/- The package reveal's Change: a frame with another text. -/
import Derived.Test.YtdnjieffbgmagaaDoorZi
import Derived.BigQuiet
namespace Go.Proofs.YtdnjieffbgmagaaDoor
open Go.RowKit Go.Sort
set_option maxRecDepth 100000

/-- what Change tells, as a frame's cells -/
def changeL (f : Fr) (l : List ByteArray) (o t : ByteArray) : List Value := if changeE f l o t = 0 then frL (changeF (keyF f l) f o t) none 0 else zeroZ
structure B4 (w : World) (L : List Value) (o t : ByteArray) (wx : World) : Prop where
  below : Below w.heap.size w wx
  b0 : BlkV wx w.heap.size 32 L
  b1 : BlkV wx (w.heap.size + 1) 9 [.string o]
  b2 : BlkV wx (w.heap.size + 2) 9 [.string t]
  b3 : BlkV wx (w.heap.size + 3) 32 zeroZ
theorem B4.on {w wx wy : World} {L : List Value} {o t : ByteArray} (h : B4 w L o t wx) (hb : Below wx.heap.size wx wy) : B4 w L o t wy := ⟨h.below.trans (hb.mono h.below.size), h.b0.on hb, h.b1.on hb, h.b2.on hb, h.b3.on hb⟩
theorem B4.set {w wx : World} {L : List Value} {o t : ByteArray} (h : B4 w L o t wx) (i : Nat) (v : Value) : B4 w (L.set i v) o t (wx.setCell ⟨w.heap.size, i, none⟩ v) :=
  ⟨h.below.setCell (p := ⟨w.heap.size, i, none⟩) (Nat.le_refl _) v, h.b0.set i v, h.b1.far ⟨w.heap.size, i, none⟩ (show w.heap.size + 1 ≠ w.heap.size by omega) v, h.b2.far ⟨w.heap.size, i, none⟩ (show w.heap.size + 2 ≠ w.heap.size by omega) v, h.b3.far ⟨w.heap.size, i, none⟩ (show w.heap.size + 3 ≠ w.heap.size by omega) v⟩
set_option maxHeartbeats 8000000 in
theorem ChangeR_any (f : Fr) (a : Option Addr) (c : Nat) (la : Option Addr) (lc : Nat) (l : List ByteArray) (hl : l.length ≤ 1000) (o t : ByteArray) (w : World) (hf : FrZ w f a) (hV : Vq w) (hp : SSl w la l) :
    Calls Tryd.prog 16 #[.slice la l.length lc, .agg (frL f a c).toArray, .string o, .string t] w fun e w' => e = .returned (.tuple #[.agg (changeL f l o t).toArray, .int .i64 (changeE f l o t)]) ∧ Below w.heap.size w w' := by
  obtain ⟨W0, e0⟩ : ∃ W0, w.alloc (.cells (frL f a c).toArray 32) = W0 := ⟨_, rfl⟩
  obtain ⟨W1, e1⟩ : ∃ W1, W0.alloc (.cells #[.string o] 9) = W1 := ⟨_, rfl⟩
  obtain ⟨W2, e2⟩ : ∃ W2, W1.alloc (.cells #[.string t] 9) = W2 := ⟨_, rfl⟩
  obtain ⟨W, eW⟩ : ∃ W, W2.alloc (.cells zeroZ.toArray 32) = W := ⟨_, rfl⟩
  have z0 : W0.heap.size = w.heap.size + 1 := by rw [← e0]; simp
  have z1 : W1.heap.size = w.heap.size + 2 := by rw [← e1]; simp [z0]
  have z2 : W2.heap.size = w.heap.size + 3 := by rw [← e2]; simp [z1]
  have hb0 : Below w.heap.size w W0 := by rw [← e0]; exact (Below.refl _ _).alloc (Nat.le_refl _) _
  have hb1 : Below w.heap.size w W1 := by rw [← e1]; exact hb0.alloc hb0.size _
  have hb2 : Below w.heap.size w W2 := by rw [← e2]; exact hb1.alloc hb1.size _
  have hbW : Below w.heap.size w W := by rw [← eW]; exact hb2.alloc hb2.size _
  have h4 : B4 w (frL f a c) o t W := ⟨hbW, by rw [← eW, ← e2, ← e1, ← e0]; exact (((BlkV.fresh _ _ _ _ rfl _ rfl).alloc _).alloc _).alloc _, by rw [← eW, ← e2, ← e1]; exact ((BlkV.fresh _ _ [.string o] _ rfl _ z0.symm).alloc _).alloc _, by rw [← eW, ← e2]; exact (BlkV.fresh _ _ [.string t] _ rfl _ z1.symm).alloc _, by rw [← eW]; exact BlkV.fresh _ _ _ _ rfl _ z2.symm⟩
  have hs := sealedQ f a c W (hf.on hbW) (hV.on hbW)
  have hcv := fun (h0 : whyF f = 0) (V : World) (hb : Below w.heap.size w V) => coveredQ f h0 hf.ok la lc l hl V (hV.on hb) (hp.on hb)
  have hcg := fun (h0 : whyF f = 0) (hk : ¬ (keyF f l).size = 0) (h1 : o.size = (hidB f).size) (h2 : t.size = (hidB f).size) (V : World) (hb : Below w.heap.size w V) (c1 : V.cell? ⟨w.heap.size + 1, 0, none⟩ = some (.string o)) (c2 : V.cell? ⟨w.heap.size + 2, 0, none⟩ = some (.string t)) =>
    changed_any (strL (headF f)) (hidB f) f.body (keyF f l) o t (able_of (whyF_zero h0).1 (whyF_zero h0).2.1 hf.ok).head (by rw [hidB_size f (whyF_zero h0).2.2]; have := (able_of (whyF_zero h0).1 (whyF_zero h0).2.1 hf.ok).body; omega) (by rcases firstK_or (strL (headF f)) (hidB f) f.body l with h | h; exact absurd h hk; exact h.1) h1 h2 (w.heap.size + 1) (w.heap.size + 2) V (hV.on hb).first (hV.on hb).keys c1 c2
  have hSl := whySeal_len f
  have hSo := whySeal_one f
  have hSz := fun (h0 : whyF f = 0) => whySeal_zero h0
  have hE1 : ∀ (h : ¬ whyF f = 0), changeE f l o t = whyF f ∧ changeL f l o t = zeroZ := fun h => by
    have e : changeE f l o t = whyF f := by unfold changeE; rw [if_pos h]
    exact ⟨e, by unfold changeL; rw [e, if_neg h]⟩
  have hE2 : ∀ (h : whyF f = 0) (hk : (keyF f l).size = 0), changeE f l o t = 5 ∧ changeL f l o t = zeroZ := fun h hk => by
    have e : changeE f l o t = 5 := by unfold changeE; rw [if_neg (not_not_intro h), if_pos hk]
    exact ⟨e, by unfold changeL; rw [e]; rfl⟩
  have hsz : ∀ (h : whyF f = 0), (hidB f).size = f.body.size - 32 := fun h => hidB_size f (whyF_zero h).2.2
  have hE3 : ∀ (h : whyF f = 0) (hk : ¬ (keyF f l).size = 0) (hs : ¬ (o.size = (hidB f).size ∧ t.size = (hidB f).size)), changeE f l o t = 2 ∧ changeL f l o t = zeroZ := fun h hk hs => by
    have e : changeE f l o t = 2 := by unfold changeE; rw [if_neg (not_not_intro h), if_neg hk, if_pos (by rw [hsz h] at hs; exact hs)]
    exact ⟨e, by unfold changeL; rw [e]; rfl⟩
  have hE4 : ∀ (h : whyF f = 0) (hk : ¬ (keyF f l).size = 0) (hs : o.size = (hidB f).size ∧ t.size = (hidB f).size), changeE f l o t = 0 ∧ changeL f l o t = ((frL f a c).set 11 (.string (againS (keyF f l) (strL (headF f)) (strL (xor3 (bl (hidB f)) (bl o) (bl t)))))).set 12 (.slice none 0 0) := fun h hk hs => by
    have e : changeE f l o t = 0 := by unfold changeE; rw [if_neg (not_not_intro h), if_neg hk, if_neg (not_not_intro (by rw [hsz h] at hs; exact hs))]
    have hn := (able_of (whyF_zero h).1 (whyF_zero h).2.1 hf.ok).none
    refine ⟨e, ?_⟩
    unfold changeL
    rw [e, if_pos rfl]
    unfold changeF frL
    simp only [hn, List.length_nil, List.set_cons_succ, List.set_cons_zero]
  obtain ⟨S, eS⟩ : ∃ S, whySeal f = S := ⟨_, rfl⟩
  obtain ⟨y, ey⟩ : ∃ y, whyF f = y := ⟨_, rfl⟩
  obtain ⟨Q, eQ⟩ : ∃ Q, keyF f l = Q := ⟨_, rfl⟩
  obtain ⟨H, eH⟩ : ∃ H, hidB f = H := ⟨_, rfl⟩
  obtain ⟨D, eD⟩ : ∃ D, strL (headF f) = D := ⟨_, rfl⟩
  obtain ⟨R, eR⟩ : ∃ R, againS Q D (strL (xor3 (bl H) (bl o) (bl t))) = R := ⟨_, rfl⟩
  have hLo := frL_oneZ f a c
  obtain ⟨L, eL⟩ : ∃ L, frL f a c = L := ⟨_, rfl⟩
  have hLl : L.length = 13 := by rw [← eL]; rfl
  have hL11 : ∃ u, L[11]? = some u := by rw [← eL]; exact ⟨_, rfl⟩
  have hL12 : ∃ u, L[12]? = some u := by rw [← eL]; exact ⟨_, rfl⟩
  rw [eS] at hs hSl hSo hSz
  rw [ey] at hs hcv hSz hcg hE1 hE2 hE3 hE4
  rw [eQ, eH, eD] at hcv hcg
  rw [eH, eD] at hSz
  rw [eQ] at hE2 hE3 hE4
  rw [eH] at hE3 hE4
  rw [eD] at hE4
  rw [eR] at hcg hE4
  rw [eL] at h4 hs hE4 hLo ⊢
  obtain ⟨E, eE⟩ : ∃ E, changeE f l o t = E := ⟨_, rfl⟩
  obtain ⟨M, eM⟩ : ∃ M, changeL f l o t = M := ⟨_, rfl⟩
  rw [eE, eM] at hE1 hE2 hE3 hE4 ⊢
  have H4 := Lib.hid h4; have HE := Lib.hid (And.intro e0 (And.intro e1 (And.intro e2 (And.intro eW eL)))); have HS := Lib.hid hs; have HC := Lib.hid hcv; have HG := Lib.hid hcg; have HSS := Lib.hid (And.intro hSl (And.intro hSo hSz))
  have HEE := Lib.hid (And.intro hE1 (And.intro hE2 (And.intro hE3 hE4))); have HLL := Lib.hid (And.intro hLl (And.intro hLo (And.intro hL11 hL12)))
  clear h4 e0 e1 e2 eW z0 z1 z2 hb0 hb1 hb2 hbW hs hcv hcg hSl hSo hSz hE1 hE2 hE3 hE4 hsz eS ey eQ eH eD eR eE eM eL hLo hLl hL11 hL12 hl hf hV hp
  go_enter Tryd.func16, Tryd.ntmps16
  go_upto_region 1 with fail
  generalize hG : World.alloc (World.alloc (World.alloc (World.alloc w _) _) _) _ = G
  obtain rfl : W = G := by rw [← hG, ← HE.out.2.2.2.1, ← HE.out.2.2.1, ← HE.out.2.1, ← HE.out.1, ← HE.out.2.2.2.2]; rfl
  clear hG HE
  refine wp_region_lit ?_
  refine load_v rfl _ _ rfl w.heap.size rfl H4.out.b0 Tryd.underlying32 rfl (by rw [HLL.out.1]; kernel_rfl) ?_
  go_wp2_with fail
  refine HS.out.mono ?_
  rintro e w1 ⟨rfl, hb⟩
  have H41 := Lib.hid (H4.out.on hb)
  clear hb HS H4
  rename_i K hK
  refine hK _ _ ?_
  clear hK K
  iterate 4 (refine wpList_step (fun K hK => ?_); go_simp; refine hK _ _ ?_; clear hK K)
  obtain ⟨g0, g1, g2⟩ := newBlk w1 64 zeroSl S HSS.out.1
  obtain ⟨V, eV⟩ : ∃ V, w1.alloc (.cells zeroSl.toArray 64) = V := ⟨_, rfl⟩
  rw [eV] at g0 g1 g2
  generalize hG : World.alloc w1 _ = G
  obtain rfl : V = G := by rw [← hG, ← eV]; rfl
  clear hG eV
  refine store_v rfl rfl _ _ _ rfl w1.heap.size rfl (l' := S) rfl g0 HSS.out.1 HSS.out.2.1 (by kernel_rfl) ?_
  generalize World.setCells V _ _ _ = V2 at g1 g2 ⊢
  have H42 := Lib.hid (H41.out.on g2)
  have G1 := Lib.hid g1
  have hn3 := Lib.hid (show w.heap.size + 3 < w1.heap.size from H41.out.b3.lt)
  clear g0 g1 g2 H41
  by_cases h0 : y = 0
  case neg =>
    have hne : (y != 0) = true := by rw [bne_iff_ne]; exact h0
    obtain ⟨x1, x2⟩ := HEE.out.1 h0
    have HN := Lib.hid (And.intro x1 x2)
    clear h0 x1 x2
    go_upto_region 3 with fail
    refine wp_region_lit ?_
    iterate 2 (refine wpList_step (fun K hK => ?_); go_simp; refine hK _ _ ?_; clear hK K)
    refine store_v rfl rfl _ _ _ rfl (w.heap.size + 3) rfl (l' := zeroZ) rfl H42.out.b3 rfl (frL_oneZ _ _ _) (by kernel_rfl) ?_
    have hF := (H42.out.b3).stored zeroZ rfl
    have hBF := below_setCells (show w.heap.size ≤ w.heap.size + 3 by omega) zeroZ 0 _ (H42.out.below)
    generalize World.setCells _ _ _ _ = W9 at hF hBF ⊢
    have HF := Lib.hid hF; have HBF := Lib.hid hBF
    clear hF hBF
    go_wp2_with fail
    refine bodyPost_ret (results_zt (p := 8) (q := 9) (T := 32) (by kernel_rfl) _ _ (w.heap.size + 3) rfl HF.out Tryd.underlying32 rfl (by kernel_rfl) _ rfl) rfl ?_
    exact ⟨by rw [HN.out.1, HN.out.2]; rfl, HBF.out⟩
  case pos =>
    subst h0
    have hS := HSS.out.2.2 rfl
    have HEF := Lib.hid (And.intro (HEE.out.2.1 rfl) (And.intro (HEE.out.2.2.1 rfl) (HEE.out.2.2.2 rfl)))
    have HG0 := Lib.hid (HG.out rfl)
    have HC0 := Lib.hid (HC.out rfl)
    clear HEE HG HC HSS
    subst hS
    go_upto_region 4 with fail
    refine wp_region_lit ?_
    refine load_v rfl _ _ rfl w1.heap.size rfl G1.out Tryd.underlying64 rfl (by kernel_rfl) ?_
    go_wp2_with fail
    refine (HC0.out _ H42.out.below).mono ?_
    rintro e w3 ⟨rfl, hb⟩
    have H43 := Lib.hid (H42.out.on hb)
    have G3 := Lib.hid (G1.out.on hb)
    clear hb HC0 H42 G1
    by_cases hk : Q.size = 0
    case pos =>
      rw [decide_eq_true hk]
      obtain ⟨x1, x2⟩ := HEF.out.1 hk
      have HN := Lib.hid (And.intro x1 x2)
      clear x1 x2 hk
      go_upto_region 6 with fail
      refine wp_region_lit ?_
      iterate 1 (refine wpList_step (fun K hK => ?_); go_simp; refine hK _ _ ?_; clear hK K)
      refine store_v rfl rfl _ _ _ rfl (w.heap.size + 3) rfl (l' := zeroZ) rfl H43.out.b3 rfl (frL_oneZ _ _ _) (by kernel_rfl) ?_
      have hF := (H43.out.b3).stored zeroZ rfl
      have hBF := below_setCells (show w.heap.size ≤ w.heap.size + 3 by omega) zeroZ 0 _ (H43.out.below)
      generalize World.setCells _ _ _ _ = W9 at hF hBF ⊢
      have HF := Lib.hid hF; have HBF := Lib.hid hBF
      clear hF hBF
      go_wp2_with fail
      refine bodyPost_ret (results_zt (p := 8) (q := 9) (T := 32) (by kernel_rfl) _ _ (w.heap.size + 3) rfl HF.out Tryd.underlying32 rfl (by kernel_rfl) _ rfl) rfl ?_
      exact ⟨by rw [HN.out.1, HN.out.2]; rfl, HBF.out⟩
    case neg =>
      rw [decide_eq_false hk]
      have c6 : w3.cell? ⟨w.heap.size + 1, 0, none⟩ = some (.string o) := H43.out.b1.cell 0 _ rfl
      have c7 : w3.cell? ⟨w.heap.size + 1 + 1, 0, none⟩ = some (.string t) := H43.out.b2.cell 0 _ rfl
      have ch : w3.cell? ⟨w1.heap.size, 1, none⟩ = some (.string H) := G3.out.cell 1 _ rfl
      by_cases h1 : o.size = H.size
      case neg =>
        have b1 : ((o.size : Int) != (H.size : Int)) = true := by rw [bne_iff_ne]; omega
        obtain ⟨x1, x2⟩ := HEF.out.2.1 hk (fun h => h1 h.1)
        have HN := Lib.hid (And.intro x1 x2)
        clear x1 x2 hk h1
        go_upto_region 8 with fail
        refine wp_region_lit ?_
        iterate 1 (refine wpList_step (fun K hK => ?_); go_simp; refine hK _ _ ?_; clear hK K)
        refine store_v rfl rfl _ _ _ rfl (w.heap.size + 3) rfl (l' := zeroZ) rfl H43.out.b3 rfl (frL_oneZ _ _ _) (by kernel_rfl) ?_
        have hF := (H43.out.b3).stored zeroZ rfl
        have hBF := below_setCells (show w.heap.size ≤ w.heap.size + 3 by omega) zeroZ 0 _ (H43.out.below)
        generalize World.setCells _ _ _ _ = W9 at hF hBF ⊢
        have HF := Lib.hid hF; have HBF := Lib.hid hBF
        clear hF hBF
        go_wp2_with fail
        refine bodyPost_ret (results_zt (p := 8) (q := 9) (T := 32) (by kernel_rfl) _ _ (w.heap.size + 3) rfl HF.out Tryd.underlying32 rfl (by kernel_rfl) _ rfl) rfl ?_
        exact ⟨by rw [HN.out.1, HN.out.2]; rfl, HBF.out⟩
      case pos =>
        have b1 : ((o.size : Int) != (H.size : Int)) = false := by rw [h1, bne_self_eq_false]
        by_cases h2 : t.size = H.size
        case neg =>
          have b2 : ((t.size : Int) != (H.size : Int)) = true := by rw [bne_iff_ne]; omega
          obtain ⟨x1, x2⟩ := HEF.out.2.1 hk (fun h => h2 h.2)
          have HN := Lib.hid (And.intro x1 x2)
          clear x1 x2 hk h1 h2
          go_upto_region 8 with fail
          refine wp_region_lit ?_
          iterate 1 (refine wpList_step (fun K hK => ?_); go_simp; refine hK _ _ ?_; clear hK K)
          refine store_v rfl rfl _ _ _ rfl (w.heap.size + 3) rfl (l' := zeroZ) rfl H43.out.b3 rfl (frL_oneZ _ _ _) (by kernel_rfl) ?_
          have hF := (H43.out.b3).stored zeroZ rfl
          have hBF := below_setCells (show w.heap.size ≤ w.heap.size + 3 by omega) zeroZ 0 _ (H43.out.below)
          generalize World.setCells _ _ _ _ = W9 at hF hBF ⊢
          have HF := Lib.hid hF; have HBF := Lib.hid hBF
          clear hF hBF
          go_wp2_with fail
          refine bodyPost_ret (results_zt (p := 8) (q := 9) (T := 32) (by kernel_rfl) _ _ (w.heap.size + 3) rfl HF.out Tryd.underlying32 rfl (by kernel_rfl) _ rfl) rfl ?_
          exact ⟨by rw [HN.out.1, HN.out.2]; rfl, HBF.out⟩
        case pos =>
          have b2 : ((t.size : Int) != (H.size : Int)) = false := by rw [h2, bne_self_eq_false]
          obtain ⟨x1, x2⟩ := HEF.out.2.2 hk ⟨h1, h2⟩
          have HN := Lib.hid (And.intro x1 x2)
          have HG1 := Lib.hid (HG0.out hk h1 h2 w3 H43.out.below c6 c7)
          clear x1 x2 hk h1 h2 HG0 HEF
          go_upto_region 9 with fail
          clear b1 b2 c6 c7 ch
          refine wp_region_lit ?_
          refine load_v rfl _ _ rfl w1.heap.size rfl G3.out Tryd.underlying64 rfl (by kernel_rfl) ?_
          go_upto_region 10 with (go_at_call 32; refine HG1.out.mono ?_; rintro e w4 ⟨rfl, hb⟩; obtain ⟨u11, hu11⟩ := HLL.out.2.2.1; have d11 := (H43.out.on hb).b0.cell 11 _ hu11; have y11 := (H43.out.on hb).b0.frozen 11)
          have h5 := (H43.out.on hb).set 11 (.string R)
          have H5 := Lib.hid h5
          clear h5 hb d11 y11 H43 HG1 G3
          generalize World.setCell w4 _ _ = V5 at H5 ⊢
          obtain ⟨u12, hu12⟩ := HLL.out.2.2.2
          have d12 := H5.out.b0.cell 12 u12 (by rw [List.getElem?_set_ne (by omega)]; exact hu12)
          have y12 := H5.out.b0.frozen 12
          go_upto_region 11 with fail
          have h6 := H5.out.set 12 (.slice none 0 0)
          rw [← HN.out.2] at h6
          have hMl : M.length = 13 := by rw [HN.out.2, List.length_set, List.length_set]; exact HLL.out.1
          have hMo : ∀ v ∈ M, v.oneCell' = true := fun v hv => by
            rw [HN.out.2] at hv
            rcases List.mem_or_eq_of_mem_set hv with h | rfl
            · rcases List.mem_or_eq_of_mem_set h with h | rfl
              · exact HLL.out.2.1 v h
              · rfl
            · rfl
          have H6 := Lib.hid h6; have HM := Lib.hid (And.intro hMl hMo)
          clear h6 hMl hMo d12 y12 hu12 H5
          generalize World.setCell V5 _ _ = V6 at H6 ⊢
          refine wp_region_lit ?_
          refine load_v rfl _ _ rfl w.heap.size rfl H6.out.b0 Tryd.underlying32 rfl (by rw [HM.out.1]; kernel_rfl) ?_
          refine store_v rfl rfl _ _ _ rfl (w.heap.size + 3) rfl (l' := M) rfl H6.out.b3 HM.out.1 HM.out.2 (by kernel_rfl) ?_
          have hF := H6.out.b3.stored M HM.out.1
          have hBF := below_setCells (show w.heap.size ≤ w.heap.size + 3 by omega) M 0 _ H6.out.below
          generalize World.setCells _ _ _ _ = W9 at hF hBF ⊢
          have HF := Lib.hid hF; have HBF := Lib.hid hBF
          clear hF hBF H6
          go_wp2_with fail
          refine bodyPost_ret (results_zt (p := 8) (q := 9) (T := 32) (by kernel_rfl) _ _ (w.heap.size + 3) rfl HF.out Tryd.underlying32 rfl (by rw [HM.out.1]; kernel_rfl) _ rfl) rfl ?_
          exact ⟨by rw [HN.out.1]; rfl, HBF.out⟩
end Go.Proofs.YtdnjieffbgmagaaDoor
