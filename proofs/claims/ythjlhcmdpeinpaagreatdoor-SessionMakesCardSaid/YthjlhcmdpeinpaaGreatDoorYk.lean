/- Which two sessions are the same: session.Like. -/
import Derived.Test.YthjlhcmdpeinpaaGreatDoorYe
import Derived.Test.YthjlhcmdpeinpaaGreatDoorXpl
namespace Go.Proofs.YthjlhcmdpeinpaaGreatDoor
open Go.RowKit Go.Sort
set_option maxRecDepth 100000
set_option maxHeartbeats 8000000 in
theorem sLike_any (x y : Se) (a : Option Addr) (c : Nat) (b : Option Addr) (d : Nat) (a' : Option Addr) (c' : Nat) (b' : Option Addr) (d' : Nat) (hk : x.kept.length ≤ 1000) (hu : x.used.length ≤ 1000) (w : World) (hx : SeAt w x a b) (hy : SeAt w y a' b') :
    Calls Tryz.prog 12 #[seV x a c b d, seV y a' c' b' d'] w fun e w' => e = .returned (.bool (decide (x = y))) ∧ Below w.heap.size w w' := by
  obtain ⟨W1, e1⟩ : ∃ W1, w.alloc (.cells (seL x a c b d).toArray 26) = W1 := ⟨_, rfl⟩
  obtain ⟨W2, e2⟩ : ∃ W2, W1.alloc (.cells (seL y a' c' b' d').toArray 26) = W2 := ⟨_, rfl⟩
  have hb1 : Below w.heap.size w W1 := by rw [← e1]; exact (Below.refl _ _).alloc (Nat.le_refl _) _
  have hb2 : Below w.heap.size w W2 := by rw [← e2]; exact hb1.alloc hb1.size _
  have hx1 : W1.heap[w.heap.size]? = some (.cells (seL x a c b d).toArray 26) := by rw [← e1]; exact seBox w x a c b d 26
  have hX : W2.heap[w.heap.size]? = some (.cells (seL x a c b d).toArray 26) := by rw [← e2]; exact frBox_old hx1
  have hY : W2.heap[W1.heap.size]? = some (.cells (seL y a' c' b' d').toArray 26) := by rw [← e2]; exact seBox W1 y a' c' b' d' 26
  obtain ⟨A, eA⟩ : ∃ A, w.heap.size = A := ⟨_, rfl⟩
  obtain ⟨B, eB⟩ : ∃ B, W1.heap.size = B := ⟨_, rfl⟩
  have hK := fun W (hw : Below W2.heap.size W2 W) => Like_any a a' c c' x.kept y.kept hk W ((hx.kept.on hb2).on hw) ((hy.kept.on hb2).on hw)
  have hU := fun W (hw : Below W2.heap.size W2 W) => Equal_any b b' d d' x.used y.used (by unfold maxLen; omega) W ((hx.used.on hb2).on hw) ((hy.used.on hb2).on hw)
  rw [eA] at hX
  rw [eB] at hY
  clear hx1 hx hy hb1 hk hu
  obtain ⟨ow, pe, ro, se, re, st, gt, pv, kt, us⟩ := x
  obtain ⟨yow, ype, yro, yse, yre, yst, ygt, ypv, ykt, yus⟩ := y
  unfold seV
  simp only [seL] at hX hY e1 e2 hK hU ⊢
  have HX := Lib.hid hX; have HY := Lib.hid hY; have HB := Lib.hid hb2; have HK := Lib.hid hK; have HU := Lib.hid hU
  clear hX hY hb2 hK hU
  by_cases hall : ow = yow ∧ pe = ype ∧ ro = yro ∧ se = yse ∧ re = yre ∧ st = yst ∧ gt = ygt ∧ pv = ypv
  · obtain ⟨rfl, rfl, rfl, rfl, rfl, rfl, rfl, rfl⟩ := hall
    rw [se_eq]
    have d0 : W2.cell? ⟨A, 0, none⟩ = some (.string ow) := by rw [cell_of_row _ _ _ _ _ _ HX.out]; rfl
    have d1 : W2.cell? ⟨A, 1, none⟩ = some (.string pe) := by rw [cell_of_row _ _ _ _ _ _ HX.out]; rfl
    have d2 : W2.cell? ⟨A, 2, none⟩ = some (.string ro) := by rw [cell_of_row _ _ _ _ _ _ HX.out]; rfl
    have d3 : W2.cell? ⟨A, 3, none⟩ = some (.string se) := by rw [cell_of_row _ _ _ _ _ _ HX.out]; rfl
    have d4 : W2.cell? ⟨A, 4, none⟩ = some (.string re) := by rw [cell_of_row _ _ _ _ _ _ HX.out]; rfl
    have d5 : W2.cell? ⟨A, 5, none⟩ = some (.int .u64 (st : Int)) := by rw [cell_of_row _ _ _ _ _ _ HX.out]; rfl
    have d6 : W2.cell? ⟨A, 6, none⟩ = some (.int .u64 (gt : Int)) := by rw [cell_of_row _ _ _ _ _ _ HX.out]; rfl
    have d7 : W2.cell? ⟨A, 7, none⟩ = some (.int .u64 (pv : Int)) := by rw [cell_of_row _ _ _ _ _ _ HX.out]; rfl
    have d8 : W2.cell? ⟨A, 8, none⟩ = some (.slice a kt.length c) := by rw [cell_of_row _ _ _ _ _ _ HX.out]; rfl
    have d9 : W2.cell? ⟨A, 9, none⟩ = some (.slice b us.length d) := by rw [cell_of_row _ _ _ _ _ _ HX.out]; rfl
    have g0 : W2.cell? ⟨B, 0, none⟩ = some (.string ow) := by rw [cell_of_row _ _ _ _ _ _ HY.out]; rfl
    have g1 : W2.cell? ⟨B, 1, none⟩ = some (.string pe) := by rw [cell_of_row _ _ _ _ _ _ HY.out]; rfl
    have g2 : W2.cell? ⟨B, 2, none⟩ = some (.string ro) := by rw [cell_of_row _ _ _ _ _ _ HY.out]; rfl
    have g3 : W2.cell? ⟨B, 3, none⟩ = some (.string se) := by rw [cell_of_row _ _ _ _ _ _ HY.out]; rfl
    have g4 : W2.cell? ⟨B, 4, none⟩ = some (.string re) := by rw [cell_of_row _ _ _ _ _ _ HY.out]; rfl
    have g5 : W2.cell? ⟨B, 5, none⟩ = some (.int .u64 (st : Int)) := by rw [cell_of_row _ _ _ _ _ _ HY.out]; rfl
    have g6 : W2.cell? ⟨B, 6, none⟩ = some (.int .u64 (gt : Int)) := by rw [cell_of_row _ _ _ _ _ _ HY.out]; rfl
    have g7 : W2.cell? ⟨B, 7, none⟩ = some (.int .u64 (pv : Int)) := by rw [cell_of_row _ _ _ _ _ _ HY.out]; rfl
    have g8 : W2.cell? ⟨B, 8, none⟩ = some (.slice a' ykt.length c') := by rw [cell_of_row _ _ _ _ _ _ HY.out]; rfl
    have g9 : W2.cell? ⟨B, 9, none⟩ = some (.slice b' yus.length d') := by rw [cell_of_row _ _ _ _ _ _ HY.out]; rfl
    go_enter Tryz.func12, Tryz.ntmps12
    go_wp2_with fail
    refine (HK.out _ (Below.refl _ _)).mono ?_
    rintro e w1 ⟨rfl, hb⟩
    have hxa := (hb.block A (Array.getElem?_eq_some_iff.1 HX.out).1).trans HX.out
    have hya := (hb.block B (Array.getElem?_eq_some_iff.1 HY.out).1).trans HY.out
    clear d8 g8 d9 g9
    have d9 : w1.cell? ⟨A, 9, none⟩ = some (.slice b us.length d) := by rw [cell_of_row _ _ _ _ _ _ hxa]; rfl
    have g9 : w1.cell? ⟨B, 9, none⟩ = some (.slice b' yus.length d') := by rw [cell_of_row _ _ _ _ _ _ hya]; rfl
    have HB1 := Lib.hid hb
    clear hb hxa hya HX HY HK
    obtain ⟨q, hq⟩ : ∃ q, decide (kt = ykt) = q := ⟨_, rfl⟩
    rw [hq]
    have HQ := Lib.hid hq
    clear hq
    cases q
    · clear d9 g9 HU
      go_wp2_with fail
      go_ret
      exact ⟨ret_bool (by rw [HQ.out]; rfl), HB.out.trans (HB1.out.mono HB.out.size)⟩
    · go_wp2_with fail
      refine (HU.out _ HB1.out).mono ?_
      rintro e w2 ⟨rfl, hb⟩
      have HB2 := Lib.hid (HB1.out.trans (hb.mono HB1.out.size))
      clear hb d9 g9 HU
      go_wp2_with fail
      go_ret
      exact ⟨ret_bool (by rw [HQ.out]; rfl), HB.out.trans (HB2.out.mono HB.out.size)⟩
  · have HE := Lib.hid (se_ne (x := ⟨ow, pe, ro, se, re, st, gt, pv, kt, us⟩) (y := ⟨yow, ype, yro, yse, yre, yst, ygt, ypv, ykt, yus⟩) hall)
    have HN := Lib.hid hall
    clear hall
    have d0 : W2.cell? ⟨A, 0, none⟩ = some (.string ow) := by rw [cell_of_row _ _ _ _ _ _ HX.out]; rfl
    have d1 : W2.cell? ⟨A, 1, none⟩ = some (.string pe) := by rw [cell_of_row _ _ _ _ _ _ HX.out]; rfl
    have d2 : W2.cell? ⟨A, 2, none⟩ = some (.string ro) := by rw [cell_of_row _ _ _ _ _ _ HX.out]; rfl
    have d3 : W2.cell? ⟨A, 3, none⟩ = some (.string se) := by rw [cell_of_row _ _ _ _ _ _ HX.out]; rfl
    have d4 : W2.cell? ⟨A, 4, none⟩ = some (.string re) := by rw [cell_of_row _ _ _ _ _ _ HX.out]; rfl
    have d5 : W2.cell? ⟨A, 5, none⟩ = some (.int .u64 (st : Int)) := by rw [cell_of_row _ _ _ _ _ _ HX.out]; rfl
    have d6 : W2.cell? ⟨A, 6, none⟩ = some (.int .u64 (gt : Int)) := by rw [cell_of_row _ _ _ _ _ _ HX.out]; rfl
    have d7 : W2.cell? ⟨A, 7, none⟩ = some (.int .u64 (pv : Int)) := by rw [cell_of_row _ _ _ _ _ _ HX.out]; rfl
    have d8 : W2.cell? ⟨A, 8, none⟩ = some (.slice a kt.length c) := by rw [cell_of_row _ _ _ _ _ _ HX.out]; rfl
    have d9 : W2.cell? ⟨A, 9, none⟩ = some (.slice b us.length d) := by rw [cell_of_row _ _ _ _ _ _ HX.out]; rfl
    have g0 : W2.cell? ⟨B, 0, none⟩ = some (.string yow) := by rw [cell_of_row _ _ _ _ _ _ HY.out]; rfl
    have g1 : W2.cell? ⟨B, 1, none⟩ = some (.string ype) := by rw [cell_of_row _ _ _ _ _ _ HY.out]; rfl
    have g2 : W2.cell? ⟨B, 2, none⟩ = some (.string yro) := by rw [cell_of_row _ _ _ _ _ _ HY.out]; rfl
    have g3 : W2.cell? ⟨B, 3, none⟩ = some (.string yse) := by rw [cell_of_row _ _ _ _ _ _ HY.out]; rfl
    have g4 : W2.cell? ⟨B, 4, none⟩ = some (.string yre) := by rw [cell_of_row _ _ _ _ _ _ HY.out]; rfl
    have g5 : W2.cell? ⟨B, 5, none⟩ = some (.int .u64 (yst : Int)) := by rw [cell_of_row _ _ _ _ _ _ HY.out]; rfl
    have g6 : W2.cell? ⟨B, 6, none⟩ = some (.int .u64 (ygt : Int)) := by rw [cell_of_row _ _ _ _ _ _ HY.out]; rfl
    have g7 : W2.cell? ⟨B, 7, none⟩ = some (.int .u64 (ypv : Int)) := by rw [cell_of_row _ _ _ _ _ _ HY.out]; rfl
    have g8 : W2.cell? ⟨B, 8, none⟩ = some (.slice a' ykt.length c') := by rw [cell_of_row _ _ _ _ _ _ HY.out]; rfl
    have g9 : W2.cell? ⟨B, 9, none⟩ = some (.slice b' yus.length d') := by rw [cell_of_row _ _ _ _ _ _ HY.out]; rfl
    clear HX HY HK HU
    go_enter Tryz.func12, Tryz.ntmps12
    go_wp2_with fail
    all_goals
      clear d0 d1 d2 d3 d4 d5 d6 d7 d8 d9 g0 g1 g2 g3 g4 g5 g6 g7 g8 g9
      first
        | (go_ret; rw [HE.out]; exact ⟨rfl, HB.out⟩)
        | (exfalso; have hn := HN.out; clear HN HE HB; simp only [tl_eq] at *; refine hn ⟨?_, ?_, ?_, ?_, ?_, ?_, ?_, ?_⟩ <;> first | assumption | omega)
end Go.Proofs.YthjlhcmdpeinpaaGreatDoor