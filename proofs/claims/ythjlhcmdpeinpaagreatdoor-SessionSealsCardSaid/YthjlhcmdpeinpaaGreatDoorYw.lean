/- The reference's Head of a session's frame, and its Seal. -/
import Derived.Test.YthjlhcmdpeinpaaGreatDoorBRg5
import Derived.Test.YthjlhcmdpeinpaaGreatDoorYd
import Derived.Test.YthjlhcmdpeinpaaGreatDoorBRg3
import Derived.Test.YthjlhcmdpeinpaaGreatDoorMbase
import Derived.Test.YthjlhcmdpeinpaaGreatDoorBg19
import Derived.Test.YthjlhcmdpeinpaaGreatDoorBSg2
namespace Go.Proofs.YthjlhcmdpeinpaaGreatDoor
open Go.RowKit Go.Sort
set_option maxRecDepth 100000
set_option maxHeartbeats 1000000 in
theorem rHead_any (f : Fr) (a : Option Addr) (c : Nat) (hf : FrSz f) (hok : FrOk f) (w : World) :
    Calls Tryz.prog 44 #[frV f a c] w fun e w' => e = .returned (.string (strL (headF f))) ∧ Below w.heap.size w w' := by
  obtain ⟨W, eW⟩ : ∃ W, w.alloc (.cells (frL f a c).toArray 43) = W := ⟨_, rfl⟩
  have hbW : Below w.heap.size w W := by rw [← eW]; exact (Below.refl _ _).alloc (Nat.le_refl _) _
  have hX : BlkV W w.heap.size 43 (frL f a c) := by rw [← eW]; exact BlkV.fresh _ _ _ _ rfl _ rfl
  have f11 := hX.cell 11 _ rfl
  have y11 := hX.frozen 11
  have hS := hX.set 11 (.string ⟨#[]⟩)
  have hB := hbW.setCell (p := ⟨w.heap.size, 11, none⟩) (Nat.le_refl _) (.string ⟨#[]⟩)
  have hh := fun V => r8Head_any { f with body := ⟨#[]⟩ } a c ⟨hf.kind, hf.ident, hf.base, hf.ratchet, Nat.zero_le _, hf.klen, hf.kall⟩ ⟨hok.frm, hok.dst, hok.id, hok.signed, hok.once, hok.prev, hok.num⟩ V
  have e1 : headF { f with body := ⟨#[]⟩ } = headF f := rfl
  have e2 : frV { f with body := ⟨#[]⟩ } a c = .agg ((frL f a c).set 11 (.string ⟨#[]⟩)).toArray := rfl
  rw [e1, e2] at hh
  have ef : frV f a c = .agg (frL f a c).toArray := rfl
  rw [ef]
  have HF := Lib.hid (And.intro hS hB); have HH := Lib.hid hh; have HE := Lib.hid eW
  clear hX hS hB hh e1 e2 ef eW hbW hf hok
  go_enter Tryz.func44, Tryz.ntmps44
  go_upto_region 1 with fail
  generalize hG : World.alloc w _ = G
  obtain rfl : W = G := by rw [← hG, ← HE.out]
  clear hG HE
  go_upto_region 2 with fail
  generalize World.setCell W _ _ = V at HF ⊢
  clear f11 y11
  refine wp_region_lit ?_
  refine load_v rfl _ _ rfl w.heap.size rfl HF.out.1 Tryz.underlying43 rfl (by kernel_rfl) ?_
  go_wp2_with fail
  refine (HH.out _).mono ?_
  rintro e w1 ⟨rfl, hb⟩
  have HB := Lib.hid (HF.out.2.trans (hb.mono HF.out.2.size))
  clear hb HH HF
  go_wp2_with fail
  go_ret
  exact ⟨rfl, HB.out⟩
/-- what the reference tells, as cells -/
def dL (s : Se) (a : Option Addr) (c : Nat) (b : Option Addr) (d : Nat) (f : Fr) (fa : Option Addr) (fc : Nat) (k : Int) : List Value := seL s a c b d ++ frL f fa fc ++ [.string ⟨#[]⟩, .int .i64 k]
theorem dL_one (s : Se) (a : Option Addr) (c : Nat) (b : Option Addr) (d : Nat) (f : Fr) (fa : Option Addr) (fc : Nat) (k : Int) : ∀ v ∈ dL s a c b d f fa fc k, v.oneCell' = true := by
  intro v hv
  simp only [dL, List.mem_append] at hv
  rcases hv with (h | h) | h
  · exact seL_one _ _ _ _ _ v h
  · exact frL_oneY _ _ _ v h
  · simp only [List.mem_cons, List.not_mem_nil, or_false] at h
    rcases h with rfl | rfl <;> rfl
def RPost (s : Se) (f : Fr) (x : ByteArray) (a : Option Addr) (c : Nat) (b : Option Addr) (d : Nat) (fa : Option Addr) (fc : Nat) (w : World) (e : Ending) (w' : World) : Prop :=
  (sealE s f x = 0 ∧ e = .returned (.agg (dL (sealS s) a c b d (sealF s f x) fa fc 0).toArray) ∧ Below w.heap.size w w') ∨ (sealE s f x ≠ 0 ∧ e = .returned (.agg (dL se0 none 0 none 0 fr0 none 0 (sealE s f x)).toArray) ∧ Below w.heap.size w w')
set_option maxHeartbeats 8000000 in
theorem rSeal_any (kv : Value) (s : Se) (a : Option Addr) (c : Nat) (b : Option Addr) (d : Nat) (hk : s.kept.length ≤ 1000) (hkc : s.kept.length ≤ c) (hu : s.used.length ≤ 1000)
    (f : Fr) (fa : Option Addr) (fc : Nat) (hl : f.keys.length ≤ maxLen) (hok : FrOk f) (x : ByteArray) (w : World) (hK : KAt w kv) (hs : SeAt w s a b) (hf : SSl w fa f.keys) :
    Calls Tryz.prog 19 #[kv, seV s a c b d, frV f fa fc, .string x] w (RPost s f x a c b d fa fc w) := by
  have hKA := id hK
  obtain ⟨k0, k1, rfl, hK0, hK1⟩ := hK
  obtain ⟨g0, o0, c0, rfl, hg0, -⟩ := hK0
  obtain ⟨g1, o1, c1, rfl, hg1, -⟩ := hK1
  simp only [S8.l_length, keysL_length] at hKA ⊢
  obtain ⟨W0, eW0⟩ : ∃ W0, w.alloc (.cells #[.slice (some ⟨g0, o0, none⟩) 64 c0, .slice (some ⟨g1, o1, none⟩) 8 c1] 39) = W0 := ⟨_, rfl⟩
  obtain ⟨W1, eW1⟩ : ∃ W1, W0.alloc (.cells (seL s a c b d).toArray 26) = W1 := ⟨_, rfl⟩
  obtain ⟨W2, eW2⟩ : ∃ W2, W1.alloc (.cells (frL f fa fc).toArray 43) = W2 := ⟨_, rfl⟩
  obtain ⟨W, eW⟩ : ∃ W, W2.alloc (.cells (dL se0 none 0 none 0 fr0 none 0 0).toArray 48) = W := ⟨_, rfl⟩
  have z0 : W0.heap.size = w.heap.size + 1 := by rw [← eW0]; simp
  have z1 : W1.heap.size = w.heap.size + 2 := by rw [← eW1]; simp [z0]
  have z2 : W2.heap.size = w.heap.size + 3 := by rw [← eW2]; simp [z1]
  have hb0 : Below w.heap.size w W0 := by rw [← eW0]; exact (Below.refl _ _).alloc (Nat.le_refl _) _
  have hb1 : Below w.heap.size w W1 := by rw [← eW1]; exact hb0.alloc hb0.size _
  have hb2 : Below w.heap.size w W2 := by rw [← eW2]; exact hb1.alloc hb1.size _
  have hbW : Below w.heap.size w W := by rw [← eW]; exact hb2.alloc hb2.size _
  have h4 : R4 w [.slice (some ⟨g0, o0, none⟩) 64 c0, .slice (some ⟨g1, o1, none⟩) 8 c1] (seL s a c b d) (frL f fa fc) (dL se0 none 0 none 0 fr0 none 0 0) W := ⟨hbW,
    by rw [← eW, ← eW2, ← eW1, ← eW0]; exact (((BlkV.fresh _ _ _ _ rfl _ rfl).alloc _).alloc _).alloc _,
    by rw [← eW, ← eW2, ← eW1]; exact ((BlkV.fresh _ _ _ _ rfl _ z0.symm).alloc _).alloc _,
    by rw [← eW, ← eW2]; exact (BlkV.fresh _ _ _ _ rfl _ z1.symm).alloc _,
    by rw [← eW]; exact BlkV.fresh _ _ _ _ rfl _ z2.symm⟩
  have f9 := h4.rf.cell 9 _ rfl; have f10 := h4.rf.cell 10 _ rfl; have f11 := h4.rf.cell 11 _ rfl; have f8 := h4.rf.cell 8 _ rfl
  have y9 := h4.rf.frozen 9; have y10 := h4.rf.frozen 10; have y11 := h4.rf.frozen 11; have y8 := h4.rf.frozen 8
  have h5 := (((h4.setF 9 (.int .u64 0)).setF 10 (.int .u64 0)).setF 11 (.string ⟨#[]⟩)).setF 8 (.string tenW)
  have ep : ((((frL f fa fc).set 9 (.int .u64 0)).set 10 (.int .u64 0)).set 11 (.string ⟨#[]⟩)).set 8 (.string tenW) = frL (probeF f) fa fc := rfl
  rw [ep] at h5
  have H5 := Lib.hid h5; have HE := Lib.hid (And.intro eW0 (And.intro eW1 (And.intro eW2 eW)))
  have HKA := Lib.hid hKA; have HS := Lib.hid hs; have HSF := Lib.hid hf; have HLN := Lib.hid (And.intro hk (And.intro hkc (And.intro hu hl))); have HOK := Lib.hid hok
  clear h4 h5 ep eW0 eW1 eW2 eW z0 z1 z2 hb0 hb1 hb2 hbW hKA hs hf hk hkc hu hl hok
  have ef : frV f fa fc = .agg (frL f fa fc).toArray := rfl
  have es : seV s a c b d = .agg (seL s a c b d).toArray := rfl
  rw [ef, es]
  clear ef es
  go_enter Tryz.func19, Tryz.ntmps19
  go_upto_region 1 with fail
  generalize hG : World.alloc (World.alloc (World.alloc (World.alloc w _) _) _) _ = G
  obtain rfl : W = G := by rw [← hG, ← HE.out.2.2.2, ← HE.out.2.2.1, ← HE.out.2.1, ← HE.out.1]; rfl
  clear hG HE
  go_upto_region 5 with fail
  generalize hG : World.setCell (World.setCell (World.setCell (World.setCell W _ _) _ _) _ _) _ _ = V
  have h5 : R4 w [.slice (some ⟨g0, o0, none⟩) 64 c0, .slice (some ⟨g1, o1, none⟩) 8 c1] (seL s a c b d) (frL (probeF f) fa fc) (dL se0 none 0 none 0 fr0 none 0 0) V := by rw [← hG]; exact H5.out
  clear H5 hG f8 f9 f10 f11 y8 y9 y10 y11
  have H5 := Lib.hid h5
  have HR := Lib.hid (rRight_any s a c b d HLN.out.1 HLN.out.2.1 HLN.out.2.2.1 V (HS.out.on h5.below))
  clear h5
  refine wp_region_lit ?_
  refine load_v rfl _ _ rfl (w.heap.size + 1) rfl H5.out.rs Tryz.underlying26 rfl (by kernel_rfl) ?_
  go_wp2_with fail
  refine HR.out.mono ?_
  rintro e w1 ⟨rfl, hb⟩
  have H6 := Lib.hid (H5.out.on hb)
  clear hb HR H5
  by_cases hr : rightS s
  case neg =>
    rw [decide_eq_false hr]
    have HE1 := Lib.hid (show sealE s f x = 1 by unfold sealE; rw [if_pos fun h => hr h.1])
    clear hr
    go_upto_region 6 with fail
    refine wp_region_lit ?_
    iterate 1 (refine wpList_step (fun K hK => ?_); go_simp; refine hK _ _ ?_; clear hK K)
    refine store_v rfl rfl _ _ _ rfl (w.heap.size + 3) rfl (l' := dL se0 none 0 none 0 fr0 none 0 1) rfl H6.out.rd rfl (dL_one _ _ _ _ _ _ _ _ _) (by kernel_rfl) ?_
    have hF := H6.out.rd.stored (dL se0 none 0 none 0 fr0 none 0 1) rfl
    have hBF := below_setCells (show w.heap.size ≤ w.heap.size + 3 by omega) (dL se0 none 0 none 0 fr0 none 0 1) 0 _ H6.out.below
    generalize World.setCells _ _ _ _ = W9 at hF hBF ⊢
    refine wpList_nil ?_
    rename_i K hK
    refine hK _ _ ?_
    refine wp_ret ?_
    exact bodyPost_ret (results_v (p := 8) (T := 48) (by kernel_rfl) _ _ (w.heap.size + 3) rfl hF Tryz.underlying48 rfl (by kernel_rfl)) rfl (Or.inr ⟨by rw [HE1.out]; decide, by rw [HE1.out], hBF⟩)
  case pos =>
    rw [decide_eq_true hr]
    have k0 := H6.out.rf.cell 0 _ rfl
    by_cases hk2 : f.kind = 2
    case pos =>
      have HE1 := Lib.hid (show sealE s f x = 1 by
        unfold sealE
        rw [if_pos fun h => ?_]
        rcases probe_kind h.2 with h | h <;> omega)
      have hq : (f.kind == 2) = true := by rw [hk2]; rfl
      have k0' : w1.cell? ⟨w.heap.size + 2, 0, none⟩ = some (.int .i64 f.kind) := k0
      clear k0 hr hk2
      go_upto_region 6 with fail
      refine wp_region_lit ?_
      iterate 1 (refine wpList_step (fun K hK => ?_); go_simp; refine hK _ _ ?_; clear hK K)
      refine store_v rfl rfl _ _ _ rfl (w.heap.size + 3) rfl (l' := dL se0 none 0 none 0 fr0 none 0 1) rfl H6.out.rd rfl (dL_one _ _ _ _ _ _ _ _ _) (by kernel_rfl) ?_
      have hF := H6.out.rd.stored (dL se0 none 0 none 0 fr0 none 0 1) rfl
      have hBF := below_setCells (show w.heap.size ≤ w.heap.size + 3 by omega) (dL se0 none 0 none 0 fr0 none 0 1) 0 _ H6.out.below
      generalize World.setCells _ _ _ _ = W9 at hF hBF ⊢
      refine wpList_nil ?_
      rename_i K hK
      refine hK _ _ ?_
      refine wp_ret ?_
      exact bodyPost_ret (results_v (p := 8) (T := 48) (by kernel_rfl) _ _ (w.heap.size + 3) rfl hF Tryz.underlying48 rfl (by kernel_rfl)) rfl (Or.inr ⟨by rw [HE1.out]; decide, by rw [HE1.out], hBF⟩)
    case neg =>
      have k0' : w1.cell? ⟨w.heap.size + 2, 0, none⟩ = some (.int .i64 f.kind) := k0
      have hq : (f.kind == 2) = false := by rw [beq_eq_false_iff_ne]; exact hk2
      clear k0 hk2
      have HRF := Lib.hid (r8Right_any (probeF f) fa fc HLN.out.2.2.2 w1 (HSF.out.on H6.out.below))
      have ep : frV (probeF f) fa fc = .agg (frL (probeF f) fa fc).toArray := rfl
      rw [ep] at HRF
      clear ep
      rename_i K hK
      refine hK _ _ ?_
      clear hK K
      iterate 7 (refine wpList_step (fun K hK => ?_); go_simp; refine hK _ _ ?_; clear hK K)
      refine load_gY (by rfl) _ _ rfl (w.heap.size + 2) rfl H6.out.rf Tryz.underlying43 rfl (by kernel_rfl) ?_
      clear k0' hq
      go_wp2_with fail
      refine HRF.out.mono ?_
      rintro e w2 ⟨rfl, hb⟩
      have H7 := Lib.hid (H6.out.on hb)
      clear hb HRF H6
      cases hp : rightF (probeF f)
      case false =>
        have HE1 := Lib.hid (show sealE s f x = 1 by unfold sealE; rw [if_pos fun h => by rw [hp] at h; cases h.2])
        clear hp hr
        go_upto_region 6 with fail
        refine wp_region_lit ?_
        iterate 1 (refine wpList_step (fun K hK => ?_); go_simp; refine hK _ _ ?_; clear hK K)
        refine store_v rfl rfl _ _ _ rfl (w.heap.size + 3) rfl (l' := dL se0 none 0 none 0 fr0 none 0 1) rfl H7.out.rd rfl (dL_one _ _ _ _ _ _ _ _ _) (by kernel_rfl) ?_
        have hF := H7.out.rd.stored (dL se0 none 0 none 0 fr0 none 0 1) rfl
        have hBF := below_setCells (show w.heap.size ≤ w.heap.size + 3 by omega) (dL se0 none 0 none 0 fr0 none 0 1) 0 _ H7.out.below
        generalize World.setCells _ _ _ _ = W9 at hF hBF ⊢
        refine wpList_nil ?_
        rename_i K hK
        refine hK _ _ ?_
        refine wp_ret ?_
        exact bodyPost_ret (results_v (p := 8) (T := 48) (by kernel_rfl) _ _ (w.heap.size + 3) rfl hF Tryz.underlying48 rfl (by kernel_rfl)) rfl (Or.inr ⟨by rw [HE1.out]; decide, by rw [HE1.out], hBF⟩)
      case true =>
        have he1 : sealE s f x = if 992 < x.size then 2 else if s.send.size = 0 then 9 else 0 := by unfold sealE; rw [if_neg (fun h => h ⟨hr, hp⟩)]
        by_cases hx : 992 < x.size
        case pos =>
          have h1 : (992 : Int) < (x.size : Int) := by omega
          have HE1 := Lib.hid (he1.trans (if_pos hx))
          clear hx he1 hp hr
          go_upto_region 8 with fail
          refine wp_region_lit ?_
          iterate 1 (refine wpList_step (fun K hK => ?_); go_simp; refine hK _ _ ?_; clear hK K)
          refine store_v rfl rfl _ _ _ rfl (w.heap.size + 3) rfl (l' := dL se0 none 0 none 0 fr0 none 0 2) rfl H7.out.rd rfl (dL_one _ _ _ _ _ _ _ _ _) (by kernel_rfl) ?_
          have hF := H7.out.rd.stored (dL se0 none 0 none 0 fr0 none 0 2) rfl
          have hBF := below_setCells (show w.heap.size ≤ w.heap.size + 3 by omega) (dL se0 none 0 none 0 fr0 none 0 2) 0 _ H7.out.below
          generalize World.setCells _ _ _ _ = W9 at hF hBF ⊢
          refine wpList_nil ?_
          rename_i K hK
          refine hK _ _ ?_
          refine wp_ret ?_
          exact bodyPost_ret (results_v (p := 8) (T := 48) (by kernel_rfl) _ _ (w.heap.size + 3) rfl hF Tryz.underlying48 rfl (by kernel_rfl)) rfl (Or.inr ⟨by rw [HE1.out]; decide, by rw [HE1.out], hBF⟩)
        case neg =>
          have h1 : decide ((992 : Int) < (x.size : Int)) = false := decide_eq_false (by omega)
          have he2 := he1.trans (if_neg hx)
          have d3 := H7.out.rs.cell 3 _ rfl
          have s3 := str_nilY s.send
          by_cases hz : s.send.size = 0
          case pos =>
            rw [decide_eq_true hz] at s3
            have HE1 := Lib.hid (he2.trans (if_pos hz))
            clear hx hz he1 he2 hp hr
            go_upto_region 10 with fail
            refine wp_region_lit ?_
            iterate 1 (refine wpList_step (fun K hK => ?_); go_simp; refine hK _ _ ?_; clear hK K)
            refine store_v rfl rfl _ _ _ rfl (w.heap.size + 3) rfl (l' := dL se0 none 0 none 0 fr0 none 0 9) rfl H7.out.rd rfl (dL_one _ _ _ _ _ _ _ _ _) (by kernel_rfl) ?_
            have hF := H7.out.rd.stored (dL se0 none 0 none 0 fr0 none 0 9) rfl
            have hBF := below_setCells (show w.heap.size ≤ w.heap.size + 3 by omega) (dL se0 none 0 none 0 fr0 none 0 9) 0 _ H7.out.below
            generalize World.setCells _ _ _ _ = W9 at hF hBF ⊢
            refine wpList_nil ?_
            rename_i K hK
            refine hK _ _ ?_
            refine wp_ret ?_
            exact bodyPost_ret (results_v (p := 8) (T := 48) (by kernel_rfl) _ _ (w.heap.size + 3) rfl hF Tryz.underlying48 rfl (by kernel_rfl)) rfl (Or.inr ⟨by rw [HE1.out]; decide, by rw [HE1.out], hBF⟩)
          case neg =>
            rw [decide_eq_false hz] at s3
            have HE1 := Lib.hid (he2.trans (if_neg hz))
            have hr' := hr
            unfold rightS at hr'
            obtain ⟨⟨ho, -, -, hse, -, -⟩, -, -, -, hst, -, hpv⟩ := hr'
            have hs32 : s.send.size = 32 := by unfold openT at hse; omega
            have hsz : FrSz (sealH s f) := right_sz (sealH s f) (by rw [right_seal]; exact hp)
            have hln := head_len f hp HOK.out s hst hpv
            have hok2 := seal_ok f HOK.out s hst hpv
            have hba := fun V => refBase_any s.own ho V
            change ∀ V, Calls _ _ _ V (fun e w' => e = .returned (.string (bptY s.own)) ∧ _) at hba
            have HBA := Lib.hid hba
            have HX := Lib.hid (And.intro hs32 (And.intro hsz (And.intro hln (And.intro hok2 (And.intro hx hst)))))
            clear hx hz he1 he2 hp hr hse hba ho hsz hln hok2 hpv hs32 hst
            go_upto_region 11 with fail
            clear h1 d3 s3
            have d0 := H7.out.rs.cell 0 _ rfl
            go_wp2_with fail
            refine (HBA.out _).mono ?_
            rintro e w3 ⟨rfl, hb⟩
            have h8 := H7.out.on hb
            have f8 := h8.rf.cell 8 _ rfl
            have y8 := h8.rf.frozen 8
            have H8 := Lib.hid (h8.setF 8 (.string (bptY s.own)))
            clear hb h8 H7 d0 HBA
            go_upto_region 12 with fail
            clear f8 y8
            generalize World.setCell w3 _ _ = w4 at H8 ⊢
            have d7 := H8.out.rs.cell 7 _ rfl
            have f9 := H8.out.rf.cell 9 _ rfl
            have y9 := H8.out.rf.frozen 9
            have H9 := Lib.hid (H8.out.setF 9 (.int .u64 (s.prev : Int)))
            clear H8
            go_upto_region 13 with fail
            clear d7 f9 y9
            generalize World.setCell w4 _ _ = w5 at H9 ⊢
            have d5 := H9.out.rs.cell 5 _ rfl
            have f10 := H9.out.rf.cell 10 _ rfl
            have y10 := H9.out.rf.frozen 10
            have h10 := H9.out.setF 10 (.int .u64 (s.sent : Int))
            have ep : (((frL (probeF f) fa fc).set 8 (.string (bptY s.own))).set 9 (.int .u64 (s.prev : Int))).set 10 (.int .u64 (s.sent : Int)) = frL (sealH s f) fa fc := rfl
            rw [ep] at h10
            have H10 := Lib.hid h10
            clear H9 h10 ep
            go_upto_region 14 with fail
            clear d5 f10 y10
            generalize World.setCell w5 _ _ = w6 at H10 ⊢
            have d3 := H10.out.rs.cell 3 _ rfl
            have e0 := H10.out.rk.cell 0 _ rfl
            have e1 := H10.out.rk.cell 1 _ rfl
            have hst := refstepC_any _ s.send (by have := HX.out.1; omega) w6 (HKA.out.on H10.out.below)
            have HST := Lib.hid hst
            clear hst
            go_wp2_with fail
            refine HST.out.mono ?_
            rintro e w7 ⟨rfl, hb⟩
            have H11 := Lib.hid (H10.out.on hb)
            clear hb d3 e0 e1 HST H10
            go_upto_region 15 with fail
            have hP : BlkV (w7.alloc (.cells #[.string (spA s.send stWord), .string (spB s.send stWord)] 84)) w7.heap.size 84 [.string (spA s.send stWord), .string (spB s.send stWord)] := BlkV.fresh _ _ _ _ rfl _ rfl
            have h12 := H11.out.on ((Below.refl w7.heap.size w7).alloc (Nat.le_refl _) (.cells #[.string (spA s.send stWord), .string (spB s.send stWord)] 84))
            have hn7 := H11.out.rd.lt
            obtain ⟨R, eR⟩ : ∃ R, w7.heap.size = R := ⟨_, rfl⟩
            rw [eR] at hP hn7 ⊢
            clear eR H11
            generalize World.alloc w7 _ = V3 at hP h12 ⊢
            have q0 := cell_regrown (h12.rk.cell 0 _ rfl)
            have q1 := cell_regrown (h12.rk.cell 1 _ rfl)
            have q2 := cell_regrown (hP.cell 1 _ rfl)
            have hhd := fun (dd : Nat) (os : Array Obj) => rHead_any (sealH s f) fa fc HX.out.2.1 HX.out.2.2.2.1 (grow (redrawn V3 dd) os)
            have ef2 : frV (sealH s f) fa fc = .agg (frL (sealH s f) fa fc).toArray := rfl
            rw [ef2] at hhd
            have hlk := fun (dd : Nat) (os : Array Obj) => reflock_any _ (spB s.send stWord) (strL (headF (sealH s f))) x (spB_sizeY _ _) HX.out.2.2.1 (by have := HX.out.2.2.2.2.1; omega) (grow (redrawn V3 dd) os) (HKA.out.on (h12.below.trans ((below_regrown V3 dd os).mono h12.below.size)))
            have esb : strL (lockL (bl (spB s.send stWord)) (bl (strL (headF (sealH s f)))) (bl x)) = sealB s f x := rfl
            rw [esb] at hlk
            have HHD := Lib.hid hhd; have HLK := Lib.hid hlk; have HP := Lib.hid hP; have H12 := Lib.hid h12; have HN7 := Lib.hid hn7
            clear hhd hlk hP h12 hn7 ef2 esb HKA
            refine wp_region_last_below 8 _ (by kernel_rfl) rfl rfl rfl rfl (by kernel_rfl) (by kernel_rfl) ?_
            simp only [List.take_succ_cons, List.take_zero]
            iterate 3 (quiet_step (fail))
            refine load_qY (by rfl) _ _ rfl (w.heap.size + 2) rfl (l := frL (sealH s f) fa fc) (by rintro _ ⟨⟨dd, os⟩, rfl⟩; exact H12.out.rf.on (below_regrown V3 dd os)) Tryz.underlying43 rfl (by kernel_rfl) ?_
            iterate 4 (quiet_step (first | (go_at_call 44; with_reducible exact Calls.regrown_of (HHD.out _ _)) | (go_at_call 43; with_reducible exact Calls.regrown_of (HLK.out _ _))))
            refine wpQuiet_nil ?_
            intro _ hw'
            obtain ⟨⟨dq, osq⟩, hw''⟩ := hw'
            subst hw''
            have hrg := below_regrown V3 dq osq
            have h13 := H12.out.on hrg
            have hp13 := HP.out.on hrg
            clear hrg q0 q1 q2 HHD HLK HP H12
            generalize grow (redrawn V3 dq) osq = V4 at h13 hp13 ⊢
            have f11 := h13.rf.cell 11 _ rfl
            have y11 := h13.rf.frozen 11
            refine wpList_step (fun K hK => ?_)
            go_simp
            refine hK _ _ ?_
            clear hK K f11 y11
            have h14 := h13.setF 11 (.string (sealB s f x))
            have hp14 := hp13.far ⟨w.heap.size + 2, 11, none⟩ (show R ≠ w.heap.size + 2 by have := HN7.out; omega) (.string (sealB s f x))
            have ep : (frL (sealH s f) fa fc).set 11 (.string (sealB s f x)) = frL (sealF s f x) fa fc := rfl
            rw [ep] at h14
            generalize World.setCell V4 _ _ = V5 at h14 hp14 ⊢
            refine wpList_nil ?_
            rename_i K hK
            refine hK _ _ ?_
            clear hK K h13 hp13 ep
            have r0 := hp14.cell 0 _ rfl
            have d3 := h14.rs.cell 3 _ rfl
            have y3 := h14.rs.frozen 3
            have H15 := Lib.hid (h14.setS 3 (.string (spA s.send stWord)))
            clear h14 hp14
            go_upto_region 17 with fail
            clear r0 d3 y3
            generalize World.setCell V5 _ _ = V6 at H15 ⊢
            have d5 := H15.out.rs.cell 5 _ rfl
            have y5 := H15.out.rs.frozen 5
            have hwr := sent_more s.sent HX.out.2.2.2.2.2
            have h16 := H15.out.setS 5 (.int .u64 ((s.sent + 1 : Nat) : Int))
            have es : ((seL s a c b d).set 3 (.string (spA s.send stWord))).set 5 (.int .u64 ((s.sent + 1 : Nat) : Int)) = seL (sealS s) a c b d := rfl
            rw [es] at h16
            have H16 := Lib.hid h16
            clear h16 es H15
            go_upto_region 18 with fail
            clear d5 y5 hwr
            generalize hG : World.setCell V6 _ _ = V7
            have h17 : R4 w [.slice (some ⟨g0, o0, none⟩) 64 c0, .slice (some ⟨g1, o1, none⟩) 8 c1] (seL (sealS s) a c b d) (frL (sealF s f x) fa fc) (dL se0 none 0 none 0 fr0 none 0 0) V7 := by rw [← hG]; exact H16.out
            clear hG H16
            refine wp_region_lit ?_
            refine load_v rfl _ _ rfl (w.heap.size + 1) rfl h17.rs Tryz.underlying26 rfl (by kernel_rfl) ?_
            refine load_v rfl _ _ rfl (w.heap.size + 2) rfl h17.rf Tryz.underlying43 rfl (by kernel_rfl) ?_
            have H17 := Lib.hid h17
            clear h17
            simp only [seL, frL]
            iterate 1 (refine wpList_step (fun K hK => ?_); go_simp; refine hK _ _ ?_; clear hK K)
            refine store_v rfl rfl _ _ _ rfl (w.heap.size + 3) rfl (l' := dL (sealS s) a c b d (sealF s f x) fa fc 0) rfl H17.out.rd rfl (dL_one _ _ _ _ _ _ _ _ _) (by kernel_rfl) ?_
            have hF := H17.out.rd.stored (dL (sealS s) a c b d (sealF s f x) fa fc 0) rfl
            have hBF := below_setCells (show w.heap.size ≤ w.heap.size + 3 by omega) (dL (sealS s) a c b d (sealF s f x) fa fc 0) 0 _ H17.out.below
            generalize World.setCells _ _ _ _ = W9 at hF hBF ⊢
            refine wpList_nil ?_
            rename_i K hK
            refine hK _ _ ?_
            refine wp_ret ?_
            exact bodyPost_ret (results_v (p := 8) (T := 48) (by kernel_rfl) _ _ (w.heap.size + 3) rfl hF Tryz.underlying48 rfl (by kernel_rfl)) rfl (Or.inl ⟨HE1.out, rfl, hBF⟩)
end Go.Proofs.YthjlhcmdpeinpaaGreatDoor