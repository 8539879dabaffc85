/- The contract of the reference's mix: the walk. -/
import Derived.Test.YtikgefcbmoomjaaDoorZh
import Derived.Deep.DeepCutAuto
namespace Go.Proofs.YtikgefcbmoomjaaDoor
open Go.RowKit
set_option maxRecDepth 100000
set_option maxHeartbeats 4000000 in
theorem mix5_any (gv ov cv : Nat) (l : List (BitVec 32)) (a b c d : Nat) (hl : l.length = 16) (ha : a < 16) (hb : b < 16) (hc : c < 16) (hd : d < 16) (w : World) (hv : WsAt w (.slice (some ⟨gv, ov, none⟩) 16 cv) l) :
    Calls Tryd.prog 56 #[.slice (some ⟨gv, ov, none⟩) 16 cv, .int .i64 (a : Int), .int .i64 (b : Int), .int .i64 (c : Int), .int .i64 (d : Int)] w fun e w' => ∃ g cap, e = .returned (.slice (some ⟨g, 0, none⟩) 16 cap) ∧ OwnW w' w.heap.size (.slice (some ⟨g, 0, none⟩) 16 cap) (mixC l a b c d) ∧ Below w.heap.size w w' := by
  obtain ⟨q, hq⟩ : ∃ q, qtr ⟨l.getD a 0, l.getD b 0, l.getD c 0, l.getD d 0⟩ = q := ⟨_, rfl⟩
  have HQ := quarter5_any (l.getD a 0) (l.getD b 0) (l.getD c 0) (l.getD d 0)
  rw [hq] at HQ
  have hmix : mixC l a b c d = (((l.set a q.a).set b q.b).set c q.c).set d q.d := by unfold mixC; rw [hq]
  rw [hmix]
  clear hq hmix
  have HV := Lib.hid hv
  obtain ⟨gv', ov', cv', e, hgv, hcv⟩ := hv
  obtain ⟨rfl, rfl⟩ : gv = gv' ∧ ov = ov' := by simp at e; exact e.1
  clear e
  have x1 := hcv a (by omega)
  have x2 := hcv b (by omega)
  have x3 := hcv c (by omega)
  have x4 := hcv d (by omega)
  generalize l.getD a 0 = la at HQ x1
  generalize l.getD b 0 = lb at HQ x2
  generalize l.getD c 0 = lc at HQ x3
  generalize l.getD d 0 = ld at HQ x4
  replace HQ := Lib.hid HQ
  have i1 : (a : Int) < 16 := by omega
  have i2 : (b : Int) < 16 := by omega
  have i3 : (c : Int) < 16 := by omega
  have i4 : (d : Int) < 16 := by omega
  clear hcv
  have H4 : Hid (w.cell? ⟨gv, ov + a, none⟩ = some (.int .u32 (la.toNat : Int)) ∧ w.cell? ⟨gv, ov + b, none⟩ = some (.int .u32 (lb.toNat : Int)) ∧ w.cell? ⟨gv, ov + c, none⟩ = some (.int .u32 (lc.toNat : Int)) ∧ w.cell? ⟨gv, ov + d, none⟩ = some (.int .u32 (ld.toNat : Int))) := Lib.hid ⟨x1, x2, x3, x4⟩
  obtain ⟨V, hV⟩ : ∃ V : World, V = w := ⟨_, rfl⟩
  go_enter Tryd.func56, Tryd.ntmps56
  go_upto_region 1 with fail
  go_cut [11] (QRel w q)
  case first =>
    have hb0 := Bel.refl w
    go_region_held3 (fun w' => (w'.cell? ⟨gv, ov + a, none⟩ = some (.int .u32 (la.toNat : Int)) ∧ w'.cell? ⟨gv, ov + b, none⟩ = some (.int .u32 (lb.toNat : Int)) ∧ w'.cell? ⟨gv, ov + c, none⟩ = some (.int .u32 (lc.toNat : Int)) ∧ w'.cell? ⟨gv, ov + d, none⟩ = some (.int .u32 (ld.toNat : Int))) ∧ Bel w w')
      ((refine bel_four H4.out ?_; (repeat ((with_reducible refine Bel.far ?_ ?far _); (case far => first | exact Nat.le_refl _ | assumption | (simp; done) | (simp; omega) | omega))); first | with_reducible assumption | exact bel_of4 (by with_reducible assumption) | ((with_reducible refine Bel.drew ?_); with_reducible assumption) | ((with_reducible refine Bel.drew ?_); (with_reducible refine Bel.alloc ?_ _); with_reducible assumption) | ((with_reducible refine Bel.on ?_ hb); exact bel_of4 (by with_reducible assumption)) | ((with_reducible refine Bel.alloc ?_ _); exact bel_of4 (by with_reducible assumption)) | exact Bel.swap (bel_of4 (by with_reducible assumption)) hle1 _))
      (first | (go_at_call 65; refine (HQ.out _).mono ?_; rintro e w' ⟨rfl, hb⟩; simp only [Q4.s]; have hle1 := (Bel.b (Bel.on (w0 := w) (bel_of4 (by with_reducible assumption)) hb)).size; (first | (have zh := Zq.first (by with_reducible exact hb) (by rfl); obtain ⟨⟨z0, z1, z2, z3⟩, ⟨f0, f1, f2, f3⟩, zlt⟩ := zh.open) | (have zh := Zq.firstd (by with_reducible exact hb) (by rfl); obtain ⟨⟨z0, z1, z2, z3⟩, ⟨f0, f1, f2, f3⟩, zlt⟩ := zh.open) | (have zh := Zq.on (by with_reducible assumption) hb; obtain ⟨⟨z0, z1, z2, z3⟩, ⟨f0, f1, f2, f3⟩, zlt⟩ := zh.open) | skip)))
    · have hh := QAt.laid w' q 99
      go_wp2_with fail
      go_meet
      exact ⟨_, rfl, hh, bel_of4 (by with_reducible assumption)⟩
    · have hh := zh.put q
      go_wp2_with fail
      go_meet
      exact ⟨_, rfl, hh, bel_of4 (by with_reducible assumption)⟩
  case rest =>
    obtain ⟨B, rfl, hQ, hbel⟩ := hcut
    have HB := Lib.hid hbel.b
    have HW := Lib.hid (HV.out.on hbel.b)
    have HQA := Lib.hid hQ
    have hsz := hbel.b.size
    clear hQ hbel HV H4 HQ x1 x2 x3 x4 hgv hV
    go_upto_region 3 with fail
    have hO := OwnW.empty wc wc.heap.size (Nat.le_refl _)
    have hb1 : Below wc.heap.size wc (wc.alloc (.cells #[] 61)) := by go_grown
    have hQ := HQA.out.on hb1
    have hW := HW.out.on hb1
    have hlt := HQA.out.lt
    have hB := HB.out.trans (hb1.mono hsz)
    have hs1 : wc.heap.size ≤ (wc.alloc (.cells #[] 61)).heap.size := hb1.size
    clear HB HW HQA hb1
    generalize World.alloc wc _ = W at hO hQ hW hB hs1 ⊢
    generalize wc.heap.size = n at hO hlt hs1 hsz ⊢
    have HO := Lib.hid hO; have HQA := Lib.hid hQ; have HW := Lib.hid hW; have HB := Lib.hid hB
    clear hO hQ hW hB
    refine wp_region_lit ?_
    iterate 2 (refine wpList_step (fun K hK => ?_); go_simp; refine hK _ _ ?_; clear hK K)
    refine append_ws rfl _ _ rfl n (.slice (some ⟨n, 0, none⟩) 0 0) [] l gv ov cv 16 rfl HO.out rfl hl.symm (by omega) HW.out (by simp) hs1 ?_
    intro g cap W5 hO5 hgr
    have hQ5 := HQA.out.grown hgr (by simp [Value.ownBlock]; omega)
    have hB5 : Below w.heap.size w W5 := HB.out.grown hgr (by omega) (fun i hi => by have := (World.ownsRow.lt HO.out i hi).1; omega)
    simp only [List.nil_append, List.length_nil, Nat.zero_add] at hO5 ⊢
    have hgb : n ≤ g := by
      rcases hO5.2 with ⟨e, -⟩ | ⟨g', cap', cur, e, hb', -⟩
      · cases e
      · have : g = g' := by simp at e; exact e.1
        omega
    clear HO HW HQA HB hgr
    have c1 := hQ5.c0
    have z1 := hO5.cell (hl.symm) a (by omega)
    have f1 := hO5.frozen a
    have hO6 := hO5.set a (by omega) q.a
    have hQ6 := hQ5.far ⟨g, a, none⟩ (by simp; omega) (.int .u32 (q.a.toNat : Int))
    have hB6 := hB5.setCell (p := ⟨g, a, none⟩) (by simp; omega) (.int .u32 (q.a.toNat : Int))
    obtain ⟨V1, e1⟩ : ∃ V, W5.setCell ⟨g, a, none⟩ (.int .u32 (q.a.toNat : Int)) = V := ⟨_, rfl⟩
    rw [e1] at hO6 hQ6 hB6
    have c2 := hQ6.c1
    have z2 := hO6.cell (by simp; exact hl.symm) b (by simp; omega)
    have f2 := hO6.frozen b
    have hO7 := hO6.set b (by simp; omega) q.b
    have hQ7 := hQ6.far ⟨g, b, none⟩ (by simp; omega) (.int .u32 (q.b.toNat : Int))
    have hB7 := hB6.setCell (p := ⟨g, b, none⟩) (by simp; omega) (.int .u32 (q.b.toNat : Int))
    obtain ⟨V2, e2⟩ : ∃ V, V1.setCell ⟨g, b, none⟩ (.int .u32 (q.b.toNat : Int)) = V := ⟨_, rfl⟩
    rw [e2] at hO7 hQ7 hB7
    have c3 := hQ7.c2
    have z3 := hO7.cell (by simp; exact hl.symm) c (by simp; omega)
    have f3 := hO7.frozen c
    have hO8 := hO7.set c (by simp; omega) q.c
    have hQ8 := hQ7.far ⟨g, c, none⟩ (by simp; omega) (.int .u32 (q.c.toNat : Int))
    have hB8 := hB7.setCell (p := ⟨g, c, none⟩) (by simp; omega) (.int .u32 (q.c.toNat : Int))
    obtain ⟨V3, e3⟩ : ∃ V, V2.setCell ⟨g, c, none⟩ (.int .u32 (q.c.toNat : Int)) = V := ⟨_, rfl⟩
    rw [e3] at hO8 hQ8 hB8
    have c4 := hQ8.c3
    have z4 := hO8.cell (by simp; exact hl.symm) d (by simp; omega)
    have f4 := hO8.frozen d
    have hO9 := hO8.set d (by simp; omega) q.d
    have hB9 := hB8.setCell (p := ⟨g, d, none⟩) (by simp; omega) (.int .u32 (q.d.toNat : Int))
    have hO9' := OwnW.rebase hO9 (show w.heap.size ≤ n by omega)
    have HO9 := Lib.hid hO9'; have HB9 := Lib.hid hB9
    clear hO5 hO6 hO7 hO8 hO9 hO9' hQ5 hQ6 hQ7 hQ8 hB5 hB6 hB7 hB8 hB9
    go_wp2_with fail
    go_ret
    exact ⟨g, cap, rfl, HO9.out, HB9.out⟩
end Go.Proofs.YtikgefcbmoomjaaDoor