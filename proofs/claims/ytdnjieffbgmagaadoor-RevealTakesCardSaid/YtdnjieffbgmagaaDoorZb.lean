/- The package reveal's sealedIn and coveredBy. -/
import Derived.Test.YtdnjieffbgmagaaDoorZa
import Derived.Test.YtdnjieffbgmagaaDoorBg10
import Derived.BigQuiet
namespace Go.Proofs.YtdnjieffbgmagaaDoor
open Go.RowKit Go.Sort
set_option maxRecDepth 100000

set_option maxHeartbeats 4000000 in
theorem sealedIn_any (f : Fr) (a : Option Addr) (c : Nat) (hl : f.keys.length ≤ maxLen) (ho : FrOk f) (hbs : f.body.size ≤ 2000) (w : World) (hp : SSl w a f.keys) (hF : FmtAt w) :
    Calls Tryd.prog 30 #[frV f a c] w fun e w' => e = .returned (.tuple #[.agg (whySeal f).toArray, .int .i64 (whyF f)]) ∧ Below w.heap.size w w' := by
  obtain ⟨W0, eW0⟩ : ∃ W0, w.alloc (.cells (frL f a c).toArray 32) = W0 := ⟨_, rfl⟩
  obtain ⟨W, eW⟩ : ∃ W, W0.alloc (.cells #[.string ⟨#[]⟩, .string ⟨#[]⟩, .string ⟨#[]⟩] 64) = W := ⟨_, rfl⟩
  have z0 : W0.heap.size = w.heap.size + 1 := by rw [← eW0]; simp
  have hb0 : Below w.heap.size w W0 := by rw [← eW0]; exact (Below.refl _ _).alloc (Nat.le_refl _) _
  have hbW : Below w.heap.size w W := by rw [← eW]; exact hb0.alloc hb0.size _
  have h0 : BlkV W w.heap.size 32 (frL f a c) := by rw [← eW, ← eW0]; exact (BlkV.fresh _ _ _ _ rfl _ rfl).alloc _
  have h1 : BlkV W (w.heap.size + 1) 64 [.string ⟨#[]⟩, .string ⟨#[]⟩, .string ⟨#[]⟩] := by rw [← eW]; exact BlkV.fresh _ _ _ _ rfl _ z0.symm
  have hh := fHead_any f a c hl ho W (hp.on hbW) (hF.on hbW)
  have ef : frV f a c = .agg (frL f a c).toArray := rfl
  rw [ef] at hh ⊢
  have HH := Lib.hid hh; have H0 := Lib.hid h0; have H1 := Lib.hid h1; have HB := Lib.hid hbW; have HE := Lib.hid (And.intro eW0 eW); have HO := Lib.hid ho
  clear hh h0 h1 hbW eW0 eW z0 hb0 ef hl hp hF ho
  go_enter Tryd.func30, Tryd.ntmps30
  go_upto_region 1 with fail
  generalize hG : World.alloc (World.alloc w _) _ = G
  obtain rfl : W = G := by rw [← hG, ← HE.out.2, ← HE.out.1]
  clear hG HE
  refine wp_region_lit ?_
  refine load_v rfl _ _ rfl w.heap.size rfl H0.out Tryd.underlying32 rfl (by kernel_rfl) ?_
  go_wp2_with fail
  refine HH.out.mono ?_
  rintro e w1 ⟨rfl, hb⟩
  have HB1 := Lib.hid (HB.out.trans (hb.mono HB.out.size))
  have g0 := H0.out.on hb
  have g1 := H1.out.on hb
  clear hb HB HH H0 H1
  have f0 : w1.cell? ⟨w.heap.size, 0, none⟩ = some (.int .i64 f.kind) := g0.cell 0 _ rfl
  have fb : w1.cell? ⟨w.heap.size, 11, none⟩ = some (.string f.body) := g0.cell 11 _ rfl
  have c0 := g1.cell 0 _ rfl; have c1 := g1.cell 1 _ rfl; have c2 := g1.cell 2 _ rfl
  have y0 := g1.frozen 0; have y1 := g1.frozen 1; have y2 := g1.frozen 2
  have G1 := Lib.hid g1
  have hw : IntKind.i64.wrap ((f.body.size : Int) - 32) = (f.body.size : Int) - 32 := by rw [IntKind.wrap_i64]; omega
  by_cases hr : rightF f = true
  case neg =>
    have hrf : rightF f = false := by simpa using hr
    have w1' : whyF f = 1 := by unfold whyF; rw [if_pos (fun h => hr h.1)]
    have w2' : whySeal f = [.string ⟨#[]⟩, .string ⟨#[]⟩, .string ⟨#[]⟩] := by unfold whySeal; rw [w1']; rfl
    obtain ⟨e1, e2⟩ := head_err hrf
    rw [e1, e2]
    have HW := Lib.hid (And.intro w1' w2')
    clear e1 e2 hr hrf w1' w2'
    go_upto_region 4 with fail
    clear c0 c1 c2 y0 y1 y2 f0 fb
    refine wp_region_lit ?_
    iterate 1 (refine wpList_step (fun K hK => ?_); go_simp; refine hK _ _ ?_; clear hK K)
    refine store_v rfl rfl _ _ _ rfl (w.heap.size + 1) rfl (l' := ([.string ⟨#[]⟩, .string ⟨#[]⟩, .string ⟨#[]⟩] : List Value)) rfl G1.out rfl (by simp [Value.oneCell']) (by kernel_rfl) ?_
    have hF := G1.out.stored ([.string ⟨#[]⟩, .string ⟨#[]⟩, .string ⟨#[]⟩] : List Value) rfl
    have hBF := below_setCells (show w.heap.size ≤ w.heap.size + 1 by omega) ([.string ⟨#[]⟩, .string ⟨#[]⟩, .string ⟨#[]⟩] : List Value) 0 _ HB1.out
    generalize World.setCells _ _ _ _ = W9 at hF hBF ⊢
    go_wp2_with fail
    refine bodyPost_ret (results_zt (p := 2) (q := 3) (T := 64) (by kernel_rfl) _ _ (w.heap.size + 1) rfl hF Tryd.underlying64 rfl (by kernel_rfl) _ rfl) rfl ?_
    exact ⟨by rw [HW.out.1, HW.out.2]; rfl, hBF⟩
  case pos =>
    have e1 : headS f = strL (headF f) := by unfold headS; rw [hr]; rfl
    have e2 : putE f = 0 := by unfold putE; rw [hr]; rfl
    rw [e1, e2]
    obtain ⟨HD, eHD⟩ : ∃ HD, strL (headF f) = HD := ⟨_, rfl⟩
    rw [eHD]
    by_cases hk : f.kind = 2
    case pos =>
      have w1' : whyF f = 1 := by unfold whyF; rw [if_pos (fun h => h.2 hk)]
      have w2' : whySeal f = [.string ⟨#[]⟩, .string ⟨#[]⟩, .string ⟨#[]⟩] := by unfold whySeal; rw [w1']; rfl
      rw [hk] at f0
      have HW := Lib.hid (And.intro w1' w2')
      clear e1 e2 eHD hr hk w1' w2'
      go_upto_region 4 with fail
      clear c0 c1 c2 y0 y1 y2 f0 fb
      refine wp_region_lit ?_
      iterate 1 (refine wpList_step (fun K hK => ?_); go_simp; refine hK _ _ ?_; clear hK K)
      refine store_v rfl rfl _ _ _ rfl (w.heap.size + 1) rfl (l' := ([.string ⟨#[]⟩, .string ⟨#[]⟩, .string ⟨#[]⟩] : List Value)) rfl G1.out rfl (by simp [Value.oneCell']) (by kernel_rfl) ?_
      have hF := G1.out.stored ([.string ⟨#[]⟩, .string ⟨#[]⟩, .string ⟨#[]⟩] : List Value) rfl
      have hBF := below_setCells (show w.heap.size ≤ w.heap.size + 1 by omega) ([.string ⟨#[]⟩, .string ⟨#[]⟩, .string ⟨#[]⟩] : List Value) 0 _ HB1.out
      generalize World.setCells _ _ _ _ = W9 at hF hBF ⊢
      go_wp2_with fail
      refine bodyPost_ret (results_zt (p := 2) (q := 3) (T := 64) (by kernel_rfl) _ _ (w.heap.size + 1) rfl hF Tryd.underlying64 rfl (by kernel_rfl) _ rfl) rfl ?_
      exact ⟨by rw [HW.out.1, HW.out.2]; rfl, hBF⟩
    case neg =>
      have hkd : (f.kind == 2) = false := by rw [beq_eq_false_iff_ne]; exact hk
      obtain ⟨kd, ekd⟩ : ∃ kd, f.kind = kd := ⟨_, rfl⟩
      have e3 : ¬ ¬ (rightF f = true ∧ f.kind ≠ 2) := fun h => h ⟨hr, hk⟩
      rw [ekd] at f0 hkd
      by_cases hs : f.body.size < 32
      case pos =>
        have w1' : whyF f = 2 := by unfold whyF; rw [if_neg e3, if_pos hs]
        have w2' : whySeal f = [.string ⟨#[]⟩, .string ⟨#[]⟩, .string ⟨#[]⟩] := by unfold whySeal; rw [w1']; rfl
        have hlt : (f.body.size : Int) - 32 < 0 := by omega
        have HW := Lib.hid (And.intro w1' w2')
        clear e1 e2 e3 eHD hr hk ekd w1' w2' hs
        go_upto_region 6 with fail
        clear c0 c1 c2 y0 y1 y2 f0 fb
        refine wp_region_lit ?_
        iterate 1 (refine wpList_step (fun K hK => ?_); go_simp; refine hK _ _ ?_; clear hK K)
        refine store_v rfl rfl _ _ _ rfl (w.heap.size + 1) rfl (l' := ([.string ⟨#[]⟩, .string ⟨#[]⟩, .string ⟨#[]⟩] : List Value)) rfl G1.out rfl (by simp [Value.oneCell']) (by kernel_rfl) ?_
        have hF := G1.out.stored ([.string ⟨#[]⟩, .string ⟨#[]⟩, .string ⟨#[]⟩] : List Value) rfl
        have hBF := below_setCells (show w.heap.size ≤ w.heap.size + 1 by omega) ([.string ⟨#[]⟩, .string ⟨#[]⟩, .string ⟨#[]⟩] : List Value) 0 _ HB1.out
        generalize World.setCells _ _ _ _ = W9 at hF hBF ⊢
        go_wp2_with fail
        refine bodyPost_ret (results_zt (p := 2) (q := 3) (T := 64) (by kernel_rfl) _ _ (w.heap.size + 1) rfl hF Tryd.underlying64 rfl (by kernel_rfl) _ rfl) rfl ?_
        exact ⟨by rw [HW.out.1, HW.out.2]; rfl, hBF⟩
      case neg =>
        have w1' : whyF f = 0 := by unfold whyF; rw [if_neg e3, if_neg hs]
        have w2' : whySeal f = [.string HD, .string (hidB f), .string f.body] := by unfold whySeal; rw [w1', if_pos rfl, eHD]
        have hlt : ¬ (f.body.size : Int) - 32 < 0 := by omega
        obtain ⟨m, em⟩ : ∃ m : Nat, (f.body.size : Int) - 32 = (m : Int) := ⟨f.body.size - 32, by omega⟩
        have hmb : (m : Int) ≤ (f.body.size : Int) := by omega
        have hhid : f.body.extract 0 m = hidB f := by unfold hidB; congr 1; omega
        have HW := Lib.hid (And.intro w1' (And.intro w2' hhid))
        clear e1 e2 e3 eHD hr hk ekd w1' w2' hs hhid hw
        go_upto_region 7 with fail
        go_region
        go_wp2_with fail
        have hF := (((G1.out.set 0 (.string HD)).set 1 (.string (f.body.extract 0 m))).set 2 (.string f.body)).on (Below.refl _ _).drew
        have hBF := (((HB1.out.setCell (p := ⟨w.heap.size + 1, 0, none⟩) (Nat.le_succ _) (.string HD)).setCell (p := ⟨w.heap.size + 1, 1, none⟩) (Nat.le_succ _) (.string (f.body.extract 0 m))).setCell (p := ⟨w.heap.size + 1, 2, none⟩) (Nat.le_succ _) (.string f.body)).drew
        refine bodyPost_ret (results_zt (p := 2) (q := 3) (T := 64) (by kernel_rfl) _ _ (w.heap.size + 1) rfl hF Tryd.underlying64 rfl (by kernel_rfl) _ rfl) rfl ?_
        exact ⟨by rw [HW.out.1, HW.out.2.1, ← HW.out.2.2]; rfl, hBF⟩
end Go.Proofs.YtdnjieffbgmagaaDoor
