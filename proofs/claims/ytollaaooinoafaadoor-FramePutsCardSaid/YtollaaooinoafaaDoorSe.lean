/- The reference's Same: whether two frames are the same. -/
import Derived.Test.YtollaaooinoafaaDoorSd
namespace Go.Proofs.YtollaaooinoafaaDoor
open Go.RowKit Go.Sort
set_option maxRecDepth 100000
theorem frBox_old {w : World} {B : Nat} {o obj : Obj} (h : w.heap[B]? = some o) : (w.alloc obj).heap[B]? = some o := by
  have := (Array.getElem?_eq_some_iff.1 h).1
  rw [World.alloc]; simp only [Array.getElem?_push]; rw [if_neg (by omega)]; exact h
def SameRel (V : World) (l m : List ByteArray) (i : Value) (wr : World) : Prop :=
  ∃ k : Nat, k ≤ l.length ∧ i = .int .i64 (k : Int) ∧ l.take k = m.take k ∧ Below V.heap.size V wr
theorem tl_eq (s t : ByteArray) : (s.toList = t.toList) = (s = t) := by
  have := str_eq s t
  by_cases h : s = t
  · subst h; simp
  · rw [decide_eq_false h, beq_eq_false_iff_ne] at this; simp [h, this]
theorem take_same (l m : List ByteArray) (k : Nat) (h : k < l.length) (hl : l.length = m.length) (hk : l.take k = m.take k) (hx : l.getD k ⟨#[]⟩ = m.getD k ⟨#[]⟩) : l.take (k + 1) = m.take (k + 1) := by
  rw [List.take_succ_eq_append_getElem h, List.take_succ_eq_append_getElem (by omega), hk]
  have h1 : l[k] = l.getD k ⟨#[]⟩ := by simp [List.getD, h]
  have h2 : m[k] = m.getD k ⟨#[]⟩ := by simp [List.getD, (show k < m.length by omega)]
  rw [h1, h2, hx]
set_option maxHeartbeats 8000000 in
theorem r8Same_any (x y : Fr) (a a' : Option Addr) (c c' : Nat) (hlx : x.keys.length ≤ maxLen) (hly : y.keys.length ≤ maxLen) (w : World) (hpx : SSl w a x.keys) (hpy : SSl w a' y.keys) :
    Calls Tryd.prog 12 #[frV x a c, frV y a' c'] w fun e w' => e = .returned (.bool (decide (x = y))) ∧ Below w.heap.size w w' := by
  obtain ⟨W1, e1⟩ : ∃ W1, w.alloc (.cells (frC x a c) 25) = W1 := ⟨_, rfl⟩
  obtain ⟨W2, e2⟩ : ∃ W2, W1.alloc (.cells (frC y a' c') 25) = W2 := ⟨_, rfl⟩
  have hb1 : Below w.heap.size w W1 := by rw [← e1]; exact (Below.refl _ _).alloc (Nat.le_refl _) _
  have hb2 : Below w.heap.size w W2 := by rw [← e2]; exact hb1.alloc hb1.size _
  have hx1 : W1.heap[w.heap.size]? = some (.cells (frC x a c) 25) := by rw [← e1]; exact frBox w x a c 25
  have hx : W2.heap[w.heap.size]? = some (.cells (frC x a c) 25) := by rw [← e2]; exact frBox_old hx1
  have hy : W2.heap[W1.heap.size]? = some (.cells (frC y a' c') 25) := by rw [← e2]; exact frBox W1 y a' c' 25
  obtain ⟨A, eA⟩ : ∃ A, w.heap.size = A := ⟨_, rfl⟩
  obtain ⟨B, eB⟩ : ∃ B, W1.heap.size = B := ⟨_, rfl⟩
  have hsx := hpx.on hb2
  have hsy := hpy.on hb2
  rw [eA] at hx
  rw [eB] at hy
  clear hx1 hpx hpy hb1
  obtain ⟨kd, fm, dt, fi, it, bs, sg, oc, rt, pv, nm, bd, ks⟩ := x
  obtain ⟨ykd, yfm, ydt, yfi, yit, ybs, ysg, yoc, yrt, ypv, ynm, ybd, yks⟩ := y
  unfold frV
  simp only [frC] at hx hy e1 e2 hsx hsy hlx hly ⊢
  have HX := Lib.hid hx; have HY := Lib.hid hy; have HB := Lib.hid hb2; have HSX := Lib.hid hsx; have HSY := Lib.hid hsy; have HLX := Lib.hid hlx; have HLY := Lib.hid hly
  clear hx hy hb2 hsx hsy hlx hly
  by_cases hall : kd = ykd ∧ fm = yfm ∧ dt = ydt ∧ fi = yfi ∧ it = yit ∧ bs = ybs ∧ sg = ysg ∧ oc = yoc ∧ rt = yrt ∧ pv = ypv ∧ nm = ynm ∧ bd = ybd ∧ ks.length = yks.length
  · obtain ⟨rfl, rfl, rfl, rfl, rfl, rfl, rfl, rfl, rfl, rfl, rfl, rfl, hkl⟩ := hall
    have HKL := Lib.hid hkl
    have hE : decide ((⟨kd, fm, dt, fi, it, bs, sg, oc, rt, pv, nm, bd, ks⟩ : Fr) = ⟨kd, fm, dt, fi, it, bs, sg, oc, rt, pv, nm, bd, yks⟩) = decide (ks = yks) := by
      by_cases h : ks = yks
      · subst h; simp
      · rw [decide_eq_false h, decide_eq_false]; intro e; injection e; contradiction
    rw [hE]
    clear hE hkl
    go_enter Tryd.func12, Tryd.ntmps12
    go_upto_region 1 with fail
    clear e1 e2 eA eB
    rw [← HKL.out] at HY ⊢
    have d0 : W2.cell? ⟨A, 0, none⟩ = some (.int .i64 kd) := by rw [cell_of_row _ _ _ _ _ _ HX.out]; rfl
    have d1 : W2.cell? ⟨A, 1, none⟩ = some (.int .u64 (fm : Int)) := by rw [cell_of_row _ _ _ _ _ _ HX.out]; rfl
    have d2 : W2.cell? ⟨A, 2, none⟩ = some (.int .u64 (dt : Int)) := by rw [cell_of_row _ _ _ _ _ _ HX.out]; rfl
    have d3 : W2.cell? ⟨A, 3, none⟩ = some (.int .u64 (fi : Int)) := by rw [cell_of_row _ _ _ _ _ _ HX.out]; rfl
    have d4 : W2.cell? ⟨A, 4, none⟩ = some (.string it) := by rw [cell_of_row _ _ _ _ _ _ HX.out]; rfl
    have d5 : W2.cell? ⟨A, 5, none⟩ = some (.string bs) := by rw [cell_of_row _ _ _ _ _ _ HX.out]; rfl
    have d6 : W2.cell? ⟨A, 6, none⟩ = some (.int .u64 (sg : Int)) := by rw [cell_of_row _ _ _ _ _ _ HX.out]; rfl
    have d7 : W2.cell? ⟨A, 7, none⟩ = some (.int .u64 (oc : Int)) := by rw [cell_of_row _ _ _ _ _ _ HX.out]; rfl
    have d8 : W2.cell? ⟨A, 8, none⟩ = some (.string rt) := by rw [cell_of_row _ _ _ _ _ _ HX.out]; rfl
    have d9 : W2.cell? ⟨A, 9, none⟩ = some (.int .u64 (pv : Int)) := by rw [cell_of_row _ _ _ _ _ _ HX.out]; rfl
    have d10 : W2.cell? ⟨A, 10, none⟩ = some (.int .u64 (nm : Int)) := by rw [cell_of_row _ _ _ _ _ _ HX.out]; rfl
    have d11 : W2.cell? ⟨A, 11, none⟩ = some (.string bd) := by rw [cell_of_row _ _ _ _ _ _ HX.out]; rfl
    have d12 : W2.cell? ⟨A, 12, none⟩ = some (.slice a ks.length c) := by rw [cell_of_row _ _ _ _ _ _ HX.out]; rfl
    have g0 : W2.cell? ⟨B, 0, none⟩ = some (.int .i64 kd) := by rw [cell_of_row _ _ _ _ _ _ HY.out]; rfl
    have g1 : W2.cell? ⟨B, 1, none⟩ = some (.int .u64 (fm : Int)) := by rw [cell_of_row _ _ _ _ _ _ HY.out]; rfl
    have g2 : W2.cell? ⟨B, 2, none⟩ = some (.int .u64 (dt : Int)) := by rw [cell_of_row _ _ _ _ _ _ HY.out]; rfl
    have g3 : W2.cell? ⟨B, 3, none⟩ = some (.int .u64 (fi : Int)) := by rw [cell_of_row _ _ _ _ _ _ HY.out]; rfl
    have g4 : W2.cell? ⟨B, 4, none⟩ = some (.string it) := by rw [cell_of_row _ _ _ _ _ _ HY.out]; rfl
    have g5 : W2.cell? ⟨B, 5, none⟩ = some (.string bs) := by rw [cell_of_row _ _ _ _ _ _ HY.out]; rfl
    have g6 : W2.cell? ⟨B, 6, none⟩ = some (.int .u64 (sg : Int)) := by rw [cell_of_row _ _ _ _ _ _ HY.out]; rfl
    have g7 : W2.cell? ⟨B, 7, none⟩ = some (.int .u64 (oc : Int)) := by rw [cell_of_row _ _ _ _ _ _ HY.out]; rfl
    have g8 : W2.cell? ⟨B, 8, none⟩ = some (.string rt) := by rw [cell_of_row _ _ _ _ _ _ HY.out]; rfl
    have g9 : W2.cell? ⟨B, 9, none⟩ = some (.int .u64 (pv : Int)) := by rw [cell_of_row _ _ _ _ _ _ HY.out]; rfl
    have g10 : W2.cell? ⟨B, 10, none⟩ = some (.int .u64 (nm : Int)) := by rw [cell_of_row _ _ _ _ _ _ HY.out]; rfl
    have g11 : W2.cell? ⟨B, 11, none⟩ = some (.string bd) := by rw [cell_of_row _ _ _ _ _ _ HY.out]; rfl
    have g12 : W2.cell? ⟨B, 12, none⟩ = some (.slice a' ks.length c') := by rw [cell_of_row _ _ _ _ _ _ HY.out]; rfl
    go_wp2_with fail
    clear d0 g0 d1 g1 d2 g2 d3 g3 d4 g4 d5 g5 d6 g6 d7 g7 d8 g8 d9 g9 d10 g10 d11 g11 d12 g12
    go_loopw [98] (SameRel W2 ks yks) (fun i _ => ks.length - (intOf i).toNat)
    case atStart => exact ⟨0, Nat.zero_le _, rfl, rfl, Below.refl _ _⟩
    case round =>
      obtain ⟨k, hk1, rfl, htk, hB⟩ := hrel
      have hxa := (hB.block A (Array.getElem?_eq_some_iff.1 HX.out).1).trans HX.out
      have hya := (hB.block B (Array.getElem?_eq_some_iff.1 HY.out).1).trans HY.out
      by_cases hlt : k < ks.length
      · have h1 : (k : Int) < (ks.length : Int) := by omega
        have h1k : (k : Int) < 9223372036854775807 := by have := HLX.out; unfold maxLen at this; omega
        obtain ⟨b, off, rfl, hbl, hc⟩ := (HSX.out.on hB) (by omega)
        obtain ⟨b', off', rfl, hbl', hc'⟩ := (HSY.out.on hB) (by have := HKL.out; omega)
        have hcx := hc k hlt
        have hcy := hc' k (by have := HKL.out; omega)
        have hts := take_same ks yks k hlt HKL.out htk
        obtain ⟨x, ex⟩ : ∃ x, ks.getD k ⟨#[]⟩ = x := ⟨_, rfl⟩
        obtain ⟨y, ey⟩ : ∃ y, yks.getD k ⟨#[]⟩ = y := ⟨_, rfl⟩
        rw [ex] at hcx hts
        rw [ey] at hcy hts
        have hxy : x ≠ y → decide (ks = yks) = false := fun h => by
          rw [decide_eq_false_iff_not]; intro e; apply h; rw [← ex, ← ey, e]
        obtain ⟨q, hq⟩ : ∃ q, (x.toList == y.toList) = q := ⟨_, rfl⟩
        have HQ := Lib.hid (show q = decide (x = y) by rw [← hq, str_eq])
        have HB2 := Lib.hid hB; have HTS := Lib.hid hts; have HXY := Lib.hid hxy
        clear hc hc' hts hxy ex ey hbl hbl'
        go_upto_region 8 with fail
        have qx := cell_regrown (show wr.cell? ⟨A, 12, none⟩ = some (.slice (some ⟨b, off, none⟩) ks.length c) by rw [cell_of_row _ _ _ _ _ _ hxa]; rfl)
        have qy := cell_regrown (show wr.cell? ⟨B, 12, none⟩ = some (.slice (some ⟨b', off', none⟩) ks.length c') by rw [cell_of_row _ _ _ _ _ _ hya]; rfl)
        have px := cell_regrown hcx
        have py := cell_regrown hcy
        refine wp_region_quiet_below (by kernel_rfl) (by kernel_rfl) ?_
        iterate 11 (quiet_step (fail))
        refine wpQuiet_nil ?_
        intro _ hw'
        obtain ⟨⟨dq, osq⟩, hw''⟩ := hw'
        subst hw''
        have HB3 := Lib.hid (HB2.out.trans ((below_regrown wr dq osq).mono HB2.out.size))
        clear hq qx qy px py hxa hya hcx hcy hB htk HX HY
        generalize grow (redrawn wr dq) osq = V1 at HB3 ⊢
        rename_i K hK
        refine hK _ _ ?_
        clear hK K
        by_cases he : x = y
        · have hq := HQ.out
          rw [decide_eq_true he] at hq
          subst hq
          rw [Bool.not_true]
          go_wp2_with fail
          exact ⟨⟨k + 1, by omega, by simp, HTS.out he, HB3.out⟩, by simp [intOf]; omega⟩
        · have hq := HQ.out
          rw [decide_eq_false he] at hq
          subst hq
          rw [Bool.not_false]
          have HE := Lib.hid (HXY.out he)
          go_wp2_with fail
          go_ret
          rw [HE.out]
          exact ⟨rfl, HB.out.trans (HB3.out.mono HB.out.size)⟩
      · obtain rfl : k = ks.length := by omega
        have hn : ¬ (ks.length : Int) < (ks.length : Int) := by omega
        have he : ks = yks := by rw [List.take_of_length_le (Nat.le_refl _), List.take_of_length_le (by rw [HKL.out]; exact Nat.le_refl _)] at htk; exact htk
        have HE := Lib.hid (decide_eq_true he)
        have HB2 := Lib.hid (HB.out.trans (hB.mono HB.out.size))
        clear hB htk hxa hya he
        go_wp2_with fail
        go_ret
        rw [HE.out]
        exact ⟨rfl, HB2.out⟩
  · have HN := Lib.hid hall
    have HE := Lib.hid (show decide ((⟨kd, fm, dt, fi, it, bs, sg, oc, rt, pv, nm, bd, ks⟩ : Fr) = ⟨ykd, yfm, ydt, yfi, yit, ybs, ysg, yoc, yrt, ypv, ynm, ybd, yks⟩) = false by
      rw [decide_eq_false_iff_not]; intro e; injection e with i1 i2 i3 i4 i5 i6 i7 i8 i9 i10 i11 i12 i13; exact hall (by subst i13; exact ⟨i1, i2, i3, i4, i5, i6, i7, i8, i9, i10, i11, i12, rfl⟩))
    clear hall
    go_enter Tryd.func12, Tryd.ntmps12
    go_upto_region 1 with fail
    clear e1 e2 eA eB
    have d0 : W2.cell? ⟨A, 0, none⟩ = some (.int .i64 kd) := by rw [cell_of_row _ _ _ _ _ _ HX.out]; rfl
    have d1 : W2.cell? ⟨A, 1, none⟩ = some (.int .u64 (fm : Int)) := by rw [cell_of_row _ _ _ _ _ _ HX.out]; rfl
    have d2 : W2.cell? ⟨A, 2, none⟩ = some (.int .u64 (dt : Int)) := by rw [cell_of_row _ _ _ _ _ _ HX.out]; rfl
    have d3 : W2.cell? ⟨A, 3, none⟩ = some (.int .u64 (fi : Int)) := by rw [cell_of_row _ _ _ _ _ _ HX.out]; rfl
    have d4 : W2.cell? ⟨A, 4, none⟩ = some (.string it) := by rw [cell_of_row _ _ _ _ _ _ HX.out]; rfl
    have d5 : W2.cell? ⟨A, 5, none⟩ = some (.string bs) := by rw [cell_of_row _ _ _ _ _ _ HX.out]; rfl
    have d6 : W2.cell? ⟨A, 6, none⟩ = some (.int .u64 (sg : Int)) := by rw [cell_of_row _ _ _ _ _ _ HX.out]; rfl
    have d7 : W2.cell? ⟨A, 7, none⟩ = some (.int .u64 (oc : Int)) := by rw [cell_of_row _ _ _ _ _ _ HX.out]; rfl
    have d8 : W2.cell? ⟨A, 8, none⟩ = some (.string rt) := by rw [cell_of_row _ _ _ _ _ _ HX.out]; rfl
    have d9 : W2.cell? ⟨A, 9, none⟩ = some (.int .u64 (pv : Int)) := by rw [cell_of_row _ _ _ _ _ _ HX.out]; rfl
    have d10 : W2.cell? ⟨A, 10, none⟩ = some (.int .u64 (nm : Int)) := by rw [cell_of_row _ _ _ _ _ _ HX.out]; rfl
    have d11 : W2.cell? ⟨A, 11, none⟩ = some (.string bd) := by rw [cell_of_row _ _ _ _ _ _ HX.out]; rfl
    have d12 : W2.cell? ⟨A, 12, none⟩ = some (.slice a ks.length c) := by rw [cell_of_row _ _ _ _ _ _ HX.out]; rfl
    have g0 : W2.cell? ⟨B, 0, none⟩ = some (.int .i64 ykd) := by rw [cell_of_row _ _ _ _ _ _ HY.out]; rfl
    have g1 : W2.cell? ⟨B, 1, none⟩ = some (.int .u64 (yfm : Int)) := by rw [cell_of_row _ _ _ _ _ _ HY.out]; rfl
    have g2 : W2.cell? ⟨B, 2, none⟩ = some (.int .u64 (ydt : Int)) := by rw [cell_of_row _ _ _ _ _ _ HY.out]; rfl
    have g3 : W2.cell? ⟨B, 3, none⟩ = some (.int .u64 (yfi : Int)) := by rw [cell_of_row _ _ _ _ _ _ HY.out]; rfl
    have g4 : W2.cell? ⟨B, 4, none⟩ = some (.string yit) := by rw [cell_of_row _ _ _ _ _ _ HY.out]; rfl
    have g5 : W2.cell? ⟨B, 5, none⟩ = some (.string ybs) := by rw [cell_of_row _ _ _ _ _ _ HY.out]; rfl
    have g6 : W2.cell? ⟨B, 6, none⟩ = some (.int .u64 (ysg : Int)) := by rw [cell_of_row _ _ _ _ _ _ HY.out]; rfl
    have g7 : W2.cell? ⟨B, 7, none⟩ = some (.int .u64 (yoc : Int)) := by rw [cell_of_row _ _ _ _ _ _ HY.out]; rfl
    have g8 : W2.cell? ⟨B, 8, none⟩ = some (.string yrt) := by rw [cell_of_row _ _ _ _ _ _ HY.out]; rfl
    have g9 : W2.cell? ⟨B, 9, none⟩ = some (.int .u64 (ypv : Int)) := by rw [cell_of_row _ _ _ _ _ _ HY.out]; rfl
    have g10 : W2.cell? ⟨B, 10, none⟩ = some (.int .u64 (ynm : Int)) := by rw [cell_of_row _ _ _ _ _ _ HY.out]; rfl
    have g11 : W2.cell? ⟨B, 11, none⟩ = some (.string ybd) := by rw [cell_of_row _ _ _ _ _ _ HY.out]; rfl
    have g12 : W2.cell? ⟨B, 12, none⟩ = some (.slice a' yks.length c') := by rw [cell_of_row _ _ _ _ _ _ HY.out]; rfl
    clear HX HY HSX HSY HLX HLY
    go_wp2_with fail
    all_goals
      clear d0 g0 d1 g1 d2 g2 d3 g3 d4 g4 d5 g5 d6 g6 d7 g7 d8 g8 d9 g9 d10 g10 d11 g11 d12 g12
      first
        | (go_ret; rw [HE.out]; exact ⟨rfl, HB.out⟩)
        | (exfalso; have hn := HN.out; clear HN HE HB; simp only [str_eq, tl_eq, bne, Bool.not_eq_false', beq_iff_eq, decide_eq_true_eq] at *; refine hn ⟨?_, ?_, ?_, ?_, ?_, ?_, ?_, ?_, ?_, ?_, ?_, ?_, ?_⟩ <;> first | assumption | omega)
end Go.Proofs.YtollaaooinoafaaDoor