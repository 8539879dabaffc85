/- The reference's root and Start. -/
import Derived.Test.YthjlhcmdpeinpaaGreatDoorYf
import Derived.Test.YthjlhcmdpeinpaaGreatDoorRg2
import Derived.Test.YthjlhcmdpeinpaaGreatDoorBg19
import Derived.Deep.RegionHeld3
namespace Go.Proofs.YthjlhcmdpeinpaaGreatDoor
open Go.RowKit Go.Sort
set_option maxRecDepth 100000
/-- a block for two texts that the region has made: kept over a call -/
structure Zp (w : World) (B : Nat) : Prop where
  blk : w.heap[B]? = some (.cells #[.string ⟨#[]⟩, .string ⟨#[]⟩] 84)
theorem Zp.first {w w' : World} {o : Obj} (hb : Below (w.alloc o).heap.size (w.alloc o) w') (ho : o = .cells #[.string ⟨#[]⟩, .string ⟨#[]⟩] 84) : Zp w' w.heap.size := by
  subst ho
  exact ⟨by rw [hb.block _ (by simp)]; exact heap_alloc_new _ _⟩
theorem Zp.firstd {w w' : World} {o : Obj} (hb : Below (w.alloc o).drew.heap.size (w.alloc o).drew w') (ho : o = .cells #[.string ⟨#[]⟩, .string ⟨#[]⟩] 84) : Zp w' w.heap.size := by
  subst ho
  refine ⟨?_⟩
  rw [hb.block w.heap.size (by show w.heap.size < (w.alloc _).heap.size; simp)]
  exact heap_alloc_new _ _
theorem Zp.on {w w' : World} {B : Nat} (h : Zp w B) (hb : Below w.heap.size w w') : Zp w' B := ⟨by rw [hb.block _ (Array.getElem?_eq_some_iff.1 h.blk).1]; exact h.blk⟩
theorem Zp.open {w : World} {B : Nat} (h : Zp w B) : (w.cell? ⟨B, 0, none⟩ = some (.string ⟨#[]⟩) ∧ w.cell? ⟨B, 1, none⟩ = some (.string ⟨#[]⟩)) ∧ (w.frozen? ⟨B, 0, none⟩ = false ∧ w.frozen? ⟨B, 1, none⟩ = false) ∧ B < w.heap.size :=
  ⟨⟨by rw [cell_of_row _ _ _ _ _ _ h.blk]; rfl, by rw [cell_of_row _ _ _ _ _ _ h.blk]; rfl⟩, ⟨frozen_of_row _ _ _ _ _ h.blk, frozen_of_row _ _ _ _ _ h.blk⟩, (Array.getElem?_eq_some_iff.1 h.blk).1⟩
theorem Zp.put {w : World} {B : Nat} (z : Zp w B) (x y : ByteArray) : BlkV ((w.setCell ⟨B, 0, none⟩ (.string x)).setCell ⟨B, 1, none⟩ (.string y)) B 84 [.string x, .string y] :=
  ((show BlkV w B 84 [.string ⟨#[]⟩, .string ⟨#[]⟩] from z.blk).set 0 _).set 1 _
/-- what the region leaves: a pair in a block of its own -/
def PairRel (W : World) (x y : ByteArray) (v : Value) (wx : World) : Prop := ∃ R : Nat, v = .pointer (some ⟨R, 0, none⟩) ∧ BlkV wx R 84 [.string x, .string y] ∧ Bel W wx
theorem bel_five {w0 w : World} {p0 p1 p2 p3 p4 : Addr} {v0 v1 v2 v3 v4 : Value} (h : w0.cell? p0 = some v0 ∧ w0.cell? p1 = some v1 ∧ w0.cell? p2 = some v2 ∧ w0.cell? p3 = some v3 ∧ w0.cell? p4 = some v4) (hb : Bel w0 w) : (w.cell? p0 = some v0 ∧ w.cell? p1 = some v1 ∧ w.cell? p2 = some v2 ∧ w.cell? p3 = some v3 ∧ w.cell? p4 = some v4) ∧ Bel w0 w := by
  have f : ∀ p v, w0.cell? p = some v → w.cell? p = some v := fun p v h => by rw [hb.b.cell (World.block_lt_of_cell? w0 _ h)]; exact h
  obtain ⟨h0, h1, h2, h3, h4⟩ := h
  exact ⟨⟨f _ _ h0, f _ _ h1, f _ _ h2, f _ _ h3, f _ _ h4⟩, hb⟩
set_option maxHeartbeats 4000000 in
theorem rroot_any (kv : Value) (s : Se) (a : Option Addr) (c : Nat) (b : Option Addr) (d : Nat) (ho : s.own.size = 32) (hp : s.peer.size = 32) (hr : s.root.size = 32) (w : World) (hk : KAt w kv) :
    Calls Tryz.prog 35 #[kv, seV s a c b d] w fun e w' => e = .returned (seV (stepRS s) a c b d) ∧ Below w.heap.size w w' := by
  have hKA := id hk
  obtain ⟨k0, k1, rfl, hK0, hK1⟩ := hk
  obtain ⟨g0, o0, c0, rfl, hg0, -⟩ := hK0
  obtain ⟨g1, o1, c1, rfl, hg1, -⟩ := hK1
  simp only [S8.l_length, keysL_length] at hKA ⊢
  obtain ⟨kl, ekl⟩ : ∃ kl : List Value, [.slice (some ⟨g0, o0, none⟩) 64 c0, .slice (some ⟨g1, o1, none⟩) 8 c1] = kl := ⟨_, rfl⟩
  obtain ⟨W0, eW0⟩ : ∃ W0, w.alloc (.cells #[.slice (some ⟨g0, o0, none⟩) 64 c0, .slice (some ⟨g1, o1, none⟩) 8 c1] 39) = W0 := ⟨_, rfl⟩
  obtain ⟨W1, eW1⟩ : ∃ W1, W0.alloc (.cells (seL s a c b d).toArray 26) = W1 := ⟨_, rfl⟩
  obtain ⟨W, eW⟩ : ∃ W, W1.alloc (.cells (seL se0 none 0 none 0).toArray 26) = W := ⟨_, rfl⟩
  have hb0 : Below w.heap.size w W0 := by rw [← eW0]; exact (Below.refl _ _).alloc (Nat.le_refl _) _
  have hb1 : Below w.heap.size w W1 := by rw [← eW1]; exact hb0.alloc hb0.size _
  have hbW : Below w.heap.size w W := by rw [← eW]; exact hb1.alloc hb1.size _
  have z0 : W0.heap.size = w.heap.size + 1 := by rw [← eW0]; simp
  have z1 : W1.heap.size = w.heap.size + 2 := by rw [← eW1]; simp [z0]
  have hK : BlkV W w.heap.size 39 kl := by rw [← eW, ← eW1, ← eW0, ← ekl]; exact ((BlkV.fresh _ _ _ _ rfl _ rfl).alloc _).alloc _
  have hS : BlkV W (w.heap.size + 1) 26 (seL s a c b d) := by rw [← eW, ← eW1]; exact (BlkV.fresh _ _ _ _ rfl _ z0.symm).alloc _
  have hF : BlkV W (w.heap.size + 2) 26 (seL se0 none 0 none 0) := by rw [← eW]; exact BlkV.fresh _ _ _ _ rfl _ z1.symm
  have hKA2 := hKA.on hbW
  obtain ⟨kk, ekk⟩ : ∃ kk, Value.agg #[.slice (some ⟨g0, o0, none⟩) 64 c0, .slice (some ⟨g1, o1, none⟩) 8 c1] = kk := ⟨_, rfl⟩
  have hm := fun V => refMult_any s.own s.peer ho hp V
  change ∀ V, Calls _ _ _ V (fun e w' => e = .returned (.string (ptY s.own s.peer)) ∧ _) at hm
  have hrt := fun V h => refrootC_any kk s.root (ptY s.own s.peer) (by omega) (by rw [ptY_size]; omega) V h
  rw [ekk] at hKA2
  have hst : (((seL s a c b d).set 2 (.string (rootA s.root (ptY s.own s.peer)))).set 3 (.string (rootB s.root (ptY s.own s.peer)))) = seL (stepRS s) a c b d := rfl
  generalize ptY s.own s.peer = S at hm hrt hst
  generalize rootA s.root S = X at hrt hst
  generalize rootB s.root S = Y at hrt hst
  subst ekk
  have e0 : W.cell? ⟨w.heap.size, 0, none⟩ = some (.slice (some ⟨g0, o0, none⟩) 64 c0) := hK.cell 0 _ (by rw [← ekl]; rfl)
  have e1 : W.cell? ⟨w.heap.size, 1, none⟩ = some (.slice (some ⟨g1, o1, none⟩) 8 c1) := hK.cell 1 _ (by rw [← ekl]; rfl)
  have e2 := hS.cell 0 _ rfl; have e3 := hS.cell 1 _ rfl; have e4 := hS.cell 2 _ rfl
  have HC := Lib.hid (And.intro e0 (And.intro e1 (And.intro e2 (And.intro e3 e4))))
  have HM := Lib.hid hm; have HR := Lib.hid hrt; have HKA := Lib.hid hKA2; have HBW := Lib.hid hbW; have HS := Lib.hid hS; have HF := Lib.hid hF; have HST := Lib.hid hst
  have HE := Lib.hid (And.intro eW0 (And.intro eW1 eW))
  clear eW0 eW1 eW
  clear e0 e1 e2 e3 e4 hm hrt hKA hKA2 hbW hS hF hK hb0 hb1 z0 z1 hst ekl ho hp hr
  unfold seV
  go_enter Tryz.func35, Tryz.ntmps35
  go_upto_region 1 with fail
  generalize hG : World.alloc (World.alloc (World.alloc w _) _) _ = G
  obtain rfl : W = G := by rw [← hG, ← HE.out.2.2, ← HE.out.2.1, ← HE.out.1]; rfl
  clear hG HE
  go_cut [5] (PairRel W X Y)
  case first =>
    have HB2 := Lib.hid (fun (w' : World) (h : (w'.cell? ⟨w.heap.size, 0, none⟩ = some (.slice (some ⟨g0, o0, none⟩) 64 c0) ∧ w'.cell? ⟨w.heap.size, 1, none⟩ = some (.slice (some ⟨g1, o1, none⟩) 8 c1) ∧ w'.cell? ⟨w.heap.size + 1, 0, none⟩ = some (.string s.own) ∧ w'.cell? ⟨w.heap.size + 1, 1, none⟩ = some (.string s.peer) ∧ w'.cell? ⟨w.heap.size + 1, 2, none⟩ = some (.string s.root)) ∧ Bel W w') => h.2)
    have hS : (fun w' : World => (w'.cell? ⟨w.heap.size, 0, none⟩ = some (.slice (some ⟨g0, o0, none⟩) 64 c0) ∧ w'.cell? ⟨w.heap.size, 1, none⟩ = some (.slice (some ⟨g1, o1, none⟩) 8 c1) ∧ w'.cell? ⟨w.heap.size + 1, 0, none⟩ = some (.string s.own) ∧ w'.cell? ⟨w.heap.size + 1, 1, none⟩ = some (.string s.peer) ∧ w'.cell? ⟨w.heap.size + 1, 2, none⟩ = some (.string s.root)) ∧ Bel W w') W := ⟨HC.out, Bel.refl W⟩
    go_region_held3 (fun w' : World => (w'.cell? ⟨w.heap.size, 0, none⟩ = some (.slice (some ⟨g0, o0, none⟩) 64 c0) ∧ w'.cell? ⟨w.heap.size, 1, none⟩ = some (.slice (some ⟨g1, o1, none⟩) 8 c1) ∧ w'.cell? ⟨w.heap.size + 1, 0, none⟩ = some (.string s.own) ∧ w'.cell? ⟨w.heap.size + 1, 1, none⟩ = some (.string s.peer) ∧ w'.cell? ⟨w.heap.size + 1, 2, none⟩ = some (.string s.root)) ∧ Bel W w')
      ((refine bel_five HC.out ?_; (repeat ((with_reducible refine Bel.far ?_ ?far _); (case far => first | exact Nat.le_refl _ | assumption | (simp; done) | (simp; omega) | omega))); first | with_reducible assumption | exact HB2.out _ (by with_reducible assumption) | ((with_reducible refine Bel.drew ?_); with_reducible assumption) | ((with_reducible refine Bel.drew ?_); exact HB2.out _ (by with_reducible assumption)) | ((with_reducible refine Bel.drew ?_); (with_reducible refine Bel.alloc ?_ _); with_reducible assumption) | ((with_reducible refine Bel.drew ?_); (with_reducible refine Bel.alloc ?_ _); exact HB2.out _ (by with_reducible assumption)) | ((with_reducible refine Bel.on ?_ hb); exact HB2.out _ (by with_reducible assumption)) | ((with_reducible refine Bel.alloc ?_ _); exact HB2.out _ (by with_reducible assumption)) | exact Bel.swap (HB2.out _ (by with_reducible assumption)) hle1 _))
      (first
        | (go_at_call 61; refine (HM.out _).mono ?_; rintro e w' ⟨rfl, hb⟩; have hle1 := (Bel.b (Bel.on (w0 := W) (HB2.out _ (by with_reducible assumption)) hb)).size; (first | have zh := Zp.first (by with_reducible exact hb) (by rfl) | have zh := Zp.firstd (by with_reducible exact hb) (by rfl) | have zh := Zp.on (by with_reducible assumption) hb | skip))
        | (go_at_call 60; refine (HR.out _ (HKA.out.bel (by exact (HB2.out _ (by with_reducible assumption))))).mono ?_; rintro e w' ⟨rfl, hb⟩; have hle1 := (Bel.b (Bel.on (w0 := W) (HB2.out _ (by with_reducible assumption)) hb)).size; (first | (have zh := Zp.first (by with_reducible exact hb) (by rfl); obtain ⟨⟨z0, z1⟩, ⟨f0, f1⟩, zlt⟩ := zh.open) | (have zh := Zp.firstd (by with_reducible exact hb) (by rfl); obtain ⟨⟨z0, z1⟩, ⟨f0, f1⟩, zlt⟩ := zh.open) | (have zh := Zp.on (by with_reducible assumption) hb; obtain ⟨⟨z0, z1⟩, ⟨f0, f1⟩, zlt⟩ := zh.open) | skip)))
    · have hh : BlkV (w'.alloc (.cells #[.string X, .string Y] 84)) w'.heap.size 84 [.string X, .string Y] := BlkV.fresh _ _ _ _ rfl _ rfl
      go_wp2_with fail
      go_meet
      exact ⟨_, rfl, hh, HB2.out _ (by with_reducible assumption)⟩
    all_goals
      have hh := zh.put X Y
      go_wp2_with fail
      go_meet
      exact ⟨_, rfl, hh, HB2.out _ (by with_reducible assumption)⟩
  case rest =>
    obtain ⟨R, rfl, hP, hbel⟩ := hcut
    have hSc := HS.out.on hbel.b
    have hFc := HF.out.on hbel.b
    have hne : R ≠ w.heap.size + 1 := by
      rintro rfl
      have h1 := hP; have h2 := hSc
      unfold BlkV at h1 h2
      rw [h1] at h2
      have := congrArg (fun o => match o with | some (Obj.cells cs _ _) => cs.size | _ => 0) h2
      simp [seL] at this
    have r0 := hP.cell 0 _ rfl
    have x2 := hSc.cell 2 _ rfl
    have y2 := hSc.frozen 2
    have hS1 := hSc.set 2 (.string X)
    have hF1 := hFc.far ⟨w.heap.size + 1, 2, none⟩ (by simp) (.string X)
    have hP1 := hP.far ⟨w.heap.size + 1, 2, none⟩ hne (.string X)
    have hB1 := (HBW.out.trans (hbel.b.mono HBW.out.size)).setCell (p := ⟨w.heap.size + 1, 2, none⟩) (by simp) (.string X)
    have HF1 := Lib.hid (And.intro hS1 (And.intro hF1 (And.intro hP1 hB1)))
    clear hP hbel hSc hFc hS1 hF1 hP1 hB1 HM HR HKA HBW HS HF HC
    go_upto_region 3 with fail
    clear r0 x2 y2
    generalize World.setCell wc _ _ = V1 at HF1 ⊢
    obtain ⟨hS1, hF1, hP1, hB1⟩ := HF1.out
    have r1 := hP1.cell 1 _ rfl
    have x3 := hS1.cell 3 _ rfl
    have y3 := hS1.frozen 3
    have hS2 := hS1.set 3 (.string Y)
    rw [HST.out] at hS2
    have hF2 := hF1.far ⟨w.heap.size + 1, 3, none⟩ (by simp) (.string Y)
    have hB2 := hB1.setCell (p := ⟨w.heap.size + 1, 3, none⟩) (by simp) (.string Y)
    have HF2 := Lib.hid (And.intro hS2 (And.intro hF2 hB2))
    clear hS1 hF1 hP1 hB1 hS2 hF2 hB2 HF1 HST
    go_upto_region 4 with fail
    clear r1 x3 y3
    generalize World.setCell V1 _ _ = V2 at HF2 ⊢
    refine wp_region_lit ?_
    refine load_v rfl _ _ rfl (w.heap.size + 1) rfl HF2.out.1 Tryz.underlying26 rfl (by kernel_rfl) ?_
    refine store_v rfl rfl _ _ _ rfl (w.heap.size + 2) rfl (l' := seL (stepRS s) a c b d) rfl HF2.out.2.1 rfl (seL_one _ _ _ _ _) (by kernel_rfl) ?_
    have hF := HF2.out.2.1.stored (seL (stepRS s) a c b d) rfl
    have hBF := below_setCells (show w.heap.size ≤ w.heap.size + 2 by omega) (seL (stepRS s) a c b d) 0 _ HF2.out.2.2
    generalize World.setCells V2 _ _ _ = W9 at hF hBF ⊢
    refine wpList_nil ?_
    rename_i K hK
    refine hK _ _ ?_
    refine wp_ret ?_
    exact bodyPost_ret (results_v (p := 4) (T := 26) (by kernel_rfl) _ _ (w.heap.size + 2) rfl hF Tryz.underlying26 rfl (by kernel_rfl)) rfl ⟨rfl, hBF⟩
set_option maxHeartbeats 4000000 in
theorem rStart_any (kv : Value) (s p f : ByteArray) (hs : s.size = 32) (hp : p.size = 32) (hf : f.size = 32) (w : World) (hk : KAt w kv) :
    Calls Tryz.prog 15 #[kv, .string s, .string p, .string f] w fun e w' => e = .returned (seV (startS s p f) none 0 none 0) ∧ Below w.heap.size w w' := by
  have hKA := id hk
  obtain ⟨k0, k1, rfl, hK0, hK1⟩ := hk
  obtain ⟨g0, o0, c0, rfl, hg0, -⟩ := hK0
  obtain ⟨g1, o1, c1, rfl, hg1, -⟩ := hK1
  simp only [S8.l_length, keysL_length] at hKA ⊢
  obtain ⟨W0, eW0⟩ : ∃ W0, w.alloc (.cells #[.slice (some ⟨g0, o0, none⟩) 64 c0, .slice (some ⟨g1, o1, none⟩) 8 c1] 39) = W0 := ⟨_, rfl⟩
  obtain ⟨W, eW⟩ : ∃ W, W0.alloc (.cells (seL se0 none 0 none 0).toArray 26) = W := ⟨_, rfl⟩
  have hb0 : Below w.heap.size w W0 := by rw [← eW0]; exact (Below.refl _ _).alloc (Nat.le_refl _) _
  have hbW : Below w.heap.size w W := by rw [← eW]; exact hb0.alloc hb0.size _
  have z0 : W0.heap.size = w.heap.size + 1 := by rw [← eW0]; simp
  have hK : BlkV W w.heap.size 39 [.slice (some ⟨g0, o0, none⟩) 64 c0, .slice (some ⟨g1, o1, none⟩) 8 c1] := by rw [← eW, ← eW0]; exact (BlkV.fresh _ _ _ _ rfl _ rfl).alloc _
  have hF : BlkV W (w.heap.size + 1) 26 (seL se0 none 0 none 0) := by rw [← eW]; exact BlkV.fresh _ _ _ _ rfl _ z0.symm
  have hrt := rroot_any _ (beginS s p f) none 0 none 0 hf hp hs W (hKA.on hbW)
  have e0 := hK.cell 0 _ rfl
  have e1 := hK.cell 1 _ rfl
  have HR := Lib.hid hrt; have HBW := Lib.hid hbW; have HF := Lib.hid hF; have HE := Lib.hid (And.intro eW0 eW)
  clear hrt hbW hF hK hb0 z0 eW0 eW hKA hs hp hf
  go_enter Tryz.func15, Tryz.ntmps15
  go_upto_region 1 with fail
  generalize hG : World.alloc (World.alloc w _) _ = G
  obtain rfl : W = G := by rw [← hG, ← HE.out.2, ← HE.out.1]; rfl
  clear hG HE
  go_wp2_with fail
  refine HR.out.mono ?_
  rintro e w1 ⟨rfl, hb⟩
  have hF1 := HF.out.on hb
  have hB1 := HBW.out.trans (hb.mono HBW.out.size)
  clear hb HR HF HBW e0 e1
  rename_i K hK
  refine hK _ _ ?_
  refine store_v rfl rfl _ _ _ rfl (w.heap.size + 1) rfl (l' := seL (startS s p f) none 0 none 0) rfl hF1 rfl (seL_one _ _ _ _ _) (by kernel_rfl) ?_
  have hF := hF1.stored (seL (startS s p f) none 0 none 0) rfl
  have hBF := below_setCells (show w.heap.size ≤ w.heap.size + 1 by omega) (seL (startS s p f) none 0 none 0) 0 _ hB1
  generalize World.setCells w1 _ _ _ = W9 at hF hBF ⊢
  clear hK K
  refine wpList_nil ?_
  rename_i K hK
  refine hK _ _ ?_
  refine wp_ret ?_
  exact bodyPost_ret (results_v (p := 8) (T := 26) (by kernel_rfl) _ _ (w.heap.size + 1) rfl hF Tryz.underlying26 rfl (by kernel_rfl)) rfl ⟨rfl, hBF⟩
end Go.Proofs.YthjlhcmdpeinpaaGreatDoor