/- The contract of stream's mix: four of a block's words mixed. -/
import Derived.Test.YtikgefcbmoomjaaDoorHb
import Derived.Test.YtikgefcbmoomjaaDoorQs
namespace Go.Proofs.YtikgefcbmoomjaaDoor
open Go.RowKit
set_option maxRecDepth 100000
def schMix : List (Nat × Nat) := [(0, 0), (1, 0), (2, 0), (3, 0), (4, 0), (5, 0), (6, 0), (7, 0), (8, 0), (9, 0), (10, 0), (11, 0), (13, 0), (14, 0), (15, 0), (16, 0), (18, 0), (19, 0), (20, 0), (21, 0), (23, 0), (24, 0), (25, 0), (26, 0), (34, 0), (37, 0), (40, 0), (43, 0),
  (12, 1), (17, 1), (22, 1), (27, 1), (28, 2), (29, 2), (30, 0), (31, 0), (32, 0), (33, 0), (35, 2), (36, 2), (38, 2), (39, 2), (41, 2), (42, 2), (44, 2), (45, 2)]
def noOp : Oper := { dst := none, op := .move (.tmp 0), type := 0, pos := "", after := #[], guard := none }
theorem agg_u32 (w : World) : (isAgg 61).run Tryd.prog w = .ok false w := run_isAgg_plain Tryd.underlying61 rfl w
set_option maxHeartbeats 4000000 in
theorem sMix_any (B : Nat) (l : List (BitVec 32)) (a b c d : Nat) (hl : l.length = 16) (ha : a < 16) (hb : b < 16) (hc : c < 16) (hd : d < 16) (hab : a ≠ b) (hac : a ≠ c) (had : a ≠ d) (hbc : b ≠ c) (hbd : b ≠ d) (hcd : c ≠ d) (w : World) (hB : BlkW w B 86 l) :
    Calls Tryd.prog 74 #[.pointer (some ⟨B, 0, none⟩), .int .i64 (a : Int), .int .i64 (b : Int), .int .i64 (c : Int), .int .i64 (d : Int)] w fun e w' => e = .returned (.tuple #[]) ∧ BlkW w' B 86 (mixC l a b c d) ∧ Below B w w' := by
  obtain ⟨q, hq⟩ : ∃ q, qtr ⟨l.getD a 0, l.getD b 0, l.getD c 0, l.getD d 0⟩ = q := ⟨_, rfl⟩
  have HQ := quarter_any (l.getD a 0) (l.getD b 0) (l.getD c 0) (l.getD d 0)
  rw [hq] at HQ
  have hmix : mixC l a b c d = (((l.set a q.a).set b q.b).set c q.c).set d q.d := by unfold mixC; rw [hq]
  rw [hmix]
  clear hq hmix
  have x1 := hB.cell a (by omega)
  have x2 := hB.cell b (by omega)
  have x3 := hB.cell c (by omega)
  have x4 := hB.cell d (by omega)
  generalize l.getD a 0 = la at HQ x1
  generalize l.getD b 0 = lb at HQ x2
  generalize l.getD c 0 = lc at HQ x3
  generalize l.getD d 0 = ld at HQ x4
  replace HQ := Lib.hid HQ
  have i1 : (a : Int) < 16 := by omega
  have i2 : (b : Int) < 16 := by omega
  have i3 : (c : Int) < 16 := by omega
  have i4 : (d : Int) < 16 := by omega
  have HB := Lib.hid hB
  clear hB
  go_enter Tryd.func74, Tryd.ntmps74
  go_wp2_with fail
  refine wp_region_sch 61 schMix noOp (by kernel_rfl) agg_u32 (by kernel_rfl) (by kernel_rfl) (by kernel_rfl) (by kernel_rfl) ?_
  simp only [pickS, schMix, List.map_cons, List.map_nil, List.getD_cons_succ, List.getD_cons_zero]
  iterate 32 (refine wpS_step (fun K hK => ?_); simp only [schStep]; go_simp; refine hK _ _ ?_; clear hK K)
  refine wpS_step (fun K hK => ?_)
  simp only [schStep]
  go_simp
  refine (HQ.out _).mono ?_
  rintro e w' ⟨rfl, rfl⟩
  refine hK _ _ ?_
  clear hK K
  simp only [Q4.v]
  iterate 5 (refine wpS_step (fun K hK => ?_); simp only [schStep]; go_simp; refine hK _ _ ?_; clear hK K)
  have hW0 : BlkW w.drew B 86 l := HB.out
  have hb0 : Below B w w.drew := (Below.refl _ _).drew
  clear HB HQ x1 x2 x3 x4
  generalize w.drew = W at hW0 hb0 ⊢
  have z1 := hW0.cell a (by omega)
  have f1 := hW0.frozen a
  have hW1 := hW0.set a q.a
  have hb1 := hb0.setCell (p := ⟨B, a, none⟩) (Nat.le_refl B) (.int .u32 (q.a.toNat : Int))
  obtain ⟨W1, e1⟩ : ∃ W1, W.setCell ⟨B, a, none⟩ (.int .u32 (q.a.toNat : Int)) = W1 := ⟨_, rfl⟩
  rw [e1] at hW1 hb1
  have z2 := hW1.cell b (by simp; omega)
  have f2 := hW1.frozen b
  have hW2 := hW1.set b q.b
  have hb2 := hb1.setCell (p := ⟨B, b, none⟩) (Nat.le_refl B) (.int .u32 (q.b.toNat : Int))
  obtain ⟨W2, e2⟩ : ∃ W2, W1.setCell ⟨B, b, none⟩ (.int .u32 (q.b.toNat : Int)) = W2 := ⟨_, rfl⟩
  rw [e2] at hW2 hb2
  have z3 := hW2.cell c (by simp; omega)
  have f3 := hW2.frozen c
  have hW3 := hW2.set c q.c
  have hb3 := hb2.setCell (p := ⟨B, c, none⟩) (Nat.le_refl B) (.int .u32 (q.c.toNat : Int))
  obtain ⟨W3, e3⟩ : ∃ W3, W2.setCell ⟨B, c, none⟩ (.int .u32 (q.c.toNat : Int)) = W3 := ⟨_, rfl⟩
  rw [e3] at hW3 hb3
  have z4 := hW3.cell d (by simp; omega)
  have f4 := hW3.frozen d
  have hW4 := hW3.set d q.d
  have hb4 := hb3.setCell (p := ⟨B, d, none⟩) (Nat.le_refl B) (.int .u32 (q.d.toNat : Int))
  have H4 := Lib.hid hW4
  clear hW0 hb0 hW1 hb1 hW2 hb2 hW3 hb3 hW4
  iterate 8 (refine wpS_step (fun K hK => ?_); simp only [schStep]; go_simp; refine hK _ _ ?_; clear hK K)
  refine ⟨rfl, ?_⟩
  go_end0
  exact ⟨rfl, H4.out, hb4⟩
end Go.Proofs.YtikgefcbmoomjaaDoor