/- Whether two rows, two lists of texts, two frames are the same, as the package looks. -/
import Derived.Test.YtollaaooinoafaaDoorTd
import Derived.Test.YtollaaooinoafaaDoorSe
namespace Go.Proofs.YtollaaooinoafaaDoor
open Go.RowKit Go.Sort
set_option maxRecDepth 100000
theorem sizeP (w : World) : (sizeOf 48).run Tryd.prog w = .ok 3 w := by
  obtain ⟨i, hi, -, hs, -⟩ := info_parts infoP
  simp [sizeOf, typeInfo, hi, hs]
theorem isAggP (w : World) : (isAgg 48).run Tryd.prog w = .ok true w := by
  simp [isAgg, run_underlying Tryd.underlying48]
theorem Pc_seg (l : List Pt) (i : Nat) (h : i < l.length) : ((Pc l).drop (i * 3)).take 3 = pcs (l.getD i p0) := by
  induction l generalizing i with
  | nil => simp at h
  | cons p l ih =>
    rw [Pc_cons]
    rcases i with _ | i
    · simp [pcs]
    · have e : (i + 1) * 3 = (pcs p).length + i * 3 := by simp [pcs]; omega
      rw [e, List.drop_append, List.drop_of_length_le (by omega), List.nil_append, Nat.add_sub_cancel_left, ih i (by simpa using h)]
      simp
theorem part_row (l : List Pt) (i : Nat) (h : i < l.length) (W : World) : (part 48 (Pc l).toArray (i * 3)).run Tryd.prog W = .ok (pv (l.getD i p0)) W := by
  have e : (Pc l).toArray.extract (i * 3) (i * 3 + 3) = (pcs (l.getD i p0)).toArray := by
    apply Array.ext'
    rw [Array.toList_extract, List.extract_eq_take_drop, Nat.add_sub_cancel_left]
    exact Pc_seg l i h
  unfold part
  simp only [Sem.run_bind, isAggP, Result.andThen_ok, if_true, sizeP, Sem.run_pure, e]
  rfl
theorem all_getD (l m : List Pt) (h : l.length = m.length) : ((List.range l.length).all fun i => decide (l.getD i p0 = m.getD i p0)) = decide (l = m) := by
  rw [Bool.eq_iff_iff]
  simp only [List.all_eq_true, List.mem_range, decide_eq_true_eq]
  constructor
  · intro hh
    apply List.ext_getElem h
    intro i h1 h2
    have := hh i h1
    simpa [List.getD, h1, h2] using this
  · rintro rfl i -; rfl
theorem run_eq_row (l m : List Pt) (hl : l.length = 13) (hm : m.length = 13) (W : World) : (binOp .eql 50 (rowV l) (rowV m)).run Tryd.prog W = .ok (.bool (decide (l = m))) W := by
  have hu : Tryd.prog.underlying 50 = some (.array 13 48) := Tryd.underlying50
  have key : (Op.equalIn (9997 + 3) 50 (.agg (Pc l).toArray) (.agg (Pc m).toArray)).run Tryd.prog W = .ok (decide (l = m)) W := by
    rw [← all_getD l m (by omega), hl, List.range_eq_range', Op.equalIn]
    simp only [Sem.run_bind, run_underlying hu, Result.andThen_ok, sizeP, Std.Legacy.Range.forIn_eq_forIn_range', Std.Legacy.Range.size, Nat.sub_zero, Nat.add_sub_cancel, Nat.div_one]
    have hl' : ∀ i ∈ List.range' 0 13 1, i < 13 := fun i hi => by simpa using (List.mem_range'_1.1 hi).2
    generalize List.range' 0 13 1 = ll at hl' ⊢
    induction ll with
    | nil => simp
    | cons i ll ih =>
      have hi : i < 13 := hl' i (by simp)
      have px := part_row l i (by omega) W
      have py := part_row m i (by omega) W
      have pe := run_eq_part 9997 (l.getD i p0) (m.getD i p0) W
      simp only [List.forIn_cons, Sem.run_bind, px, py, pe, Result.andThen_ok, List.all_cons]
      cases hb : decide (l.getD i p0 = m.getD i p0)
      · simp
      · simp only [Bool.not_true, Bool.false_eq_true, if_false, Sem.run_pure, Result.andThen_ok, Bool.true_and]
        exact ih fun j hj => hl' j (by simp [hj])
  unfold rowV
  rw [run_eql_struct]
  show ((Op.equalIn (9997 + 3) _ _ _).run _ W).andThen _ = _
  rw [key]
  rfl
theorem rowL_eq (f g : Fr) (hf : -9223372036854775808 ≤ f.kind ∧ f.kind ≤ 9223372036854775807) (hg : -9223372036854775808 ≤ g.kind ∧ g.kind ≤ 9223372036854775807) :
    (decide (rowL f = rowL g) && decide (f.keys = g.keys)) = decide (f = g) := by
  obtain ⟨kd, fm, dt, fi, it, bs, sg, oc, rt, pv', nm, bd, ks⟩ := f
  obtain ⟨kd2, fm2, dt2, fi2, it2, bs2, sg2, oc2, rt2, pv2, nm2, bd2, ks2⟩ := g
  simp only at hf hg
  rw [Bool.eq_iff_iff]
  simp only [rowL, np, tp, Bool.and_eq_true, decide_eq_true_eq, List.cons.injEq, Pt.mk.injEq, true_and, and_true, Fr.mk.injEq]
  constructor
  · rintro ⟨⟨h0, h1, h2, h3, h4, h5, h6, h7, h8, h9, h10, h11, -⟩, hk⟩
    exact ⟨by omega, h1, h2, h3, h4, h5, h6, h7, h8, h9, h10, h11, hk⟩
  · rintro ⟨rfl, h1, h2, h3, h4, h5, h6, h7, h8, h9, h10, h11, rfl⟩
    exact ⟨⟨rfl, h1, h2, h3, h4, h5, h6, h7, h8, h9, h10, h11, rfl⟩, rfl⟩
def EqsRel (w : World) (l m : List ByteArray) (i : Value) (wr : World) : Prop :=
  ∃ k : Nat, k ≤ l.length ∧ i = .int .i64 (k : Int) ∧ l.take k = m.take k ∧ Below w.heap.size w wr
set_option maxHeartbeats 2000000 in
theorem Equal_any (a b : Option Addr) (c c' : Nat) (l m : List ByteArray) (hl : l.length ≤ maxLen) (w : World) (hp : SSl w a l) (hq : SSl w b m) :
    Calls Tryd.prog 25 #[.slice a l.length c, .slice b m.length c'] w fun e w' => e = .returned (.bool (decide (l = m))) ∧ Below w.heap.size w w' := by
  have HP := Lib.hid hp; have HQ := Lib.hid hq; have HL := Lib.hid hl
  clear hp hq hl
  by_cases hlen : l.length = m.length
  case neg =>
    have hn : ¬ (l.length : Int) = (m.length : Int) := by omega
    have hs : decide (l = m) = false := by rw [decide_eq_false_iff_not]; rintro rfl; exact hlen rfl
    have HS := Lib.hid hs
    clear hs hlen HP HQ HL
    go_enter Tryd.func25, Tryd.ntmps25
    go_wp2_with fail
    go_ret
    rw [HS.out]
    exact ⟨rfl, Below.refl _ _⟩
  case pos =>
    rw [show m.length = l.length from hlen.symm]
    have HLN := Lib.hid hlen
    clear hlen
    go_enter Tryd.func25, Tryd.ntmps25
    go_wp2_with fail
    go_loopw [13] (EqsRel w l m) (fun i _ => l.length - (intOf i).toNat)
    case atStart => exact ⟨0, Nat.zero_le _, rfl, rfl, Below.refl _ _⟩
    case round =>
      obtain ⟨k, hk, rfl, htk, hB⟩ := hrel
      by_cases hlt : k < l.length
      · have h1 : (k : Int) < (l.length : Int) := by omega
        have h1k : (k : Int) < 9223372036854775807 := by have := HL.out; unfold maxLen at this; omega
        obtain ⟨g, off, rfl, hbl, hc⟩ := (HP.out.on hB) (by omega)
        obtain ⟨g', off', rfl, hbl', hc'⟩ := (HQ.out.on hB) (by have := HLN.out; omega)
        have hcx := hc k hlt
        have hcy := hc' k (by have := HLN.out; omega)
        have hts := take_same l m k hlt HLN.out htk
        obtain ⟨x, ex⟩ : ∃ x, l.getD k ⟨#[]⟩ = x := ⟨_, rfl⟩
        obtain ⟨y, ey⟩ : ∃ y, m.getD k ⟨#[]⟩ = y := ⟨_, rfl⟩
        rw [ex] at hcx hts
        rw [ey] at hcy hts
        have hxy : x ≠ y → decide (l = m) = false := fun h => by
          rw [decide_eq_false_iff_not]; intro e; apply h; rw [← ex, ← ey, e]
        obtain ⟨q, hq⟩ : ∃ q, (x.toList == y.toList) = q := ⟨_, rfl⟩
        have HQE := Lib.hid (show q = decide (x = y) by rw [← hq, str_eq])
        have HB2 := Lib.hid hB; have HTS := Lib.hid hts; have HXY := Lib.hid hxy
        clear hc hc' hts hxy ex ey hbl hbl'
        go_upto_region 6 with fail
        have px := cell_regrown hcx
        have py := cell_regrown hcy
        refine wp_region_quiet_below (by kernel_rfl) (by kernel_rfl) ?_
        iterate 9 (quiet_step (fail))
        refine wpQuiet_nil ?_
        intro _ hw'
        obtain ⟨⟨dq, osq⟩, hw''⟩ := hw'
        subst hw''
        have HB3 := Lib.hid (HB2.out.trans ((below_regrown wr dq osq).mono HB2.out.size))
        clear hq px py hcx hcy hB htk
        generalize grow (redrawn wr dq) osq = V1 at HB3 ⊢
        rename_i K hK
        refine hK _ _ ?_
        clear hK K
        by_cases he : x = y
        · have hq := HQE.out
          rw [decide_eq_true he] at hq
          subst hq
          rw [Bool.not_true]
          go_wp2_with fail
          exact ⟨⟨k + 1, by omega, by simp, HTS.out he, HB3.out⟩, by simp [intOf]; omega⟩
        · have hq := HQE.out
          rw [decide_eq_false he] at hq
          subst hq
          rw [Bool.not_false]
          have HE := Lib.hid (HXY.out he)
          go_wp2_with fail
          go_ret
          rw [HE.out]
          exact ⟨rfl, HB3.out⟩
      · obtain rfl : k = l.length := by omega
        have hn : ¬ (l.length : Int) < (l.length : Int) := by omega
        have he : l = m := by rw [List.take_of_length_le (Nat.le_refl _), List.take_of_length_le (by rw [HLN.out]; exact Nat.le_refl _)] at htk; exact htk
        have HE := Lib.hid (decide_eq_true he)
        have HB2 := Lib.hid hB
        clear hB htk he
        go_wp2_with fail
        go_ret
        rw [HE.out]
        exact ⟨rfl, HB2.out⟩
set_option maxHeartbeats 4000000 in
theorem fLike_any (x y : Fr) (a a' : Option Addr) (c c' : Nat) (hlx : x.keys.length ≤ maxLen) (hly : y.keys.length ≤ maxLen) (hkx : -9223372036854775808 ≤ x.kind ∧ x.kind ≤ 9223372036854775807) (hky : -9223372036854775808 ≤ y.kind ∧ y.kind ≤ 9223372036854775807) (w : World) (hpx : SSl w a x.keys) (hpy : SSl w a' y.keys) :
    Calls Tryd.prog 11 #[frV x a c, frV y a' c'] w fun e w' => e = .returned (.bool (decide (x = y))) ∧ Below w.heap.size w w' := by
  obtain ⟨W1, e1⟩ : ∃ W1, w.alloc (.cells (frC x a c) 25) = W1 := ⟨_, rfl⟩
  obtain ⟨W2, e2⟩ : ∃ W2, W1.alloc (.cells (frC y a' c') 25) = W2 := ⟨_, rfl⟩
  have hb1 : Below w.heap.size w W1 := by rw [← e1]; exact (Below.refl _ _).alloc (Nat.le_refl _) _
  have hb2 : Below w.heap.size w W2 := by rw [← e2]; exact hb1.alloc hb1.size _
  have hx1 : W1.heap[w.heap.size]? = some (.cells (frC x a c) 25) := by rw [← e1]; exact frBox w x a c 25
  have hx : W2.heap[w.heap.size]? = some (.cells (frC x a c) 25) := by rw [← e2]; exact frBox_old hx1
  have hy : W2.heap[W1.heap.size]? = some (.cells (frC y a' c') 25) := by rw [← e2]; exact frBox W1 y a' c' 25
  obtain ⟨A, eA⟩ : ∃ A, w.heap.size = A := ⟨_, rfl⟩
  obtain ⟨B, eB⟩ : ∃ B, W1.heap.size = B := ⟨_, rfl⟩
  have hsx := hpx.on hb2
  have hsy := hpy.on hb2
  rw [eA] at hx
  rw [eB] at hy
  have hrx := fun W => rowOf_any x a c hlx W
  have hry := fun W => rowOf_any y a' c' hly W
  have hre := fun W => run_eq_row (rowL x) (rowL y) rfl rfl W
  have hfin := rowL_eq x y hkx hky
  have heq := fun W h h' => Equal_any a a' c c' x.keys y.keys hlx W h h'
  obtain ⟨RX, eRX⟩ : ∃ R, rowL x = R := ⟨_, rfl⟩
  obtain ⟨RY, eRY⟩ : ∃ R, rowL y = R := ⟨_, rfl⟩
  rw [eRX] at hrx hre hfin
  rw [eRY] at hry hre hfin
  clear hx1 hpx hpy hb1 eRX eRY hkx hky hlx hly
  obtain ⟨bk, ebk⟩ : ∃ bk, decide (x.keys = y.keys) = bk := ⟨_, rfl⟩
  obtain ⟨be, ebe⟩ : ∃ be, decide (x = y) = be := ⟨_, rfl⟩
  rw [ebk] at hfin heq
  rw [ebe] at hfin ⊢
  clear ebk ebe
  obtain ⟨kd, fm, dt, fi, it, bs, sg, oc, rt, pv', nm, bd, ks⟩ := x
  obtain ⟨ykd, yfm, ydt, yfi, yit, ybs, ysg, yoc, yrt, ypv', ynm, ybd, yks⟩ := y
  unfold rowV at hre
  unfold frV rowV at hrx hry
  unfold frV
  simp only [frC] at hx hy e1 e2 hsx hsy hrx hry heq ⊢
  have HX := Lib.hid hx; have HY := Lib.hid hy; have HB := Lib.hid hb2; have HSX := Lib.hid hsx; have HSY := Lib.hid hsy
  have HRX := Lib.hid hrx; have HRY := Lib.hid hry; have HEQ := Lib.hid heq; have HFIN := Lib.hid hfin
  clear hx hy hb2 hsx hsy hrx hry heq hfin
  go_enter Tryd.func11, Tryd.ntmps11
  go_upto_region 1 with fail
  clear e1 e2 eA eB
  have q0 := cell_regrown (show W2.cell? ⟨A, 0, none⟩ = some (.int .i64 kd) by rw [cell_of_row _ _ _ _ _ _ HX.out]; rfl)
  have q1 := cell_regrown (show W2.cell? ⟨A, 1, none⟩ = some (.int .u64 (fm : Int)) by rw [cell_of_row _ _ _ _ _ _ HX.out]; rfl)
  have q2 := cell_regrown (show W2.cell? ⟨A, 2, none⟩ = some (.int .u64 (dt : Int)) by rw [cell_of_row _ _ _ _ _ _ HX.out]; rfl)
  have q3 := cell_regrown (show W2.cell? ⟨A, 3, none⟩ = some (.int .u64 (fi : Int)) by rw [cell_of_row _ _ _ _ _ _ HX.out]; rfl)
  have q4 := cell_regrown (show W2.cell? ⟨A, 4, none⟩ = some (.string it) by rw [cell_of_row _ _ _ _ _ _ HX.out]; rfl)
  have q5 := cell_regrown (show W2.cell? ⟨A, 5, none⟩ = some (.string bs) by rw [cell_of_row _ _ _ _ _ _ HX.out]; rfl)
  have q6 := cell_regrown (show W2.cell? ⟨A, 6, none⟩ = some (.int .u64 (sg : Int)) by rw [cell_of_row _ _ _ _ _ _ HX.out]; rfl)
  have q7 := cell_regrown (show W2.cell? ⟨A, 7, none⟩ = some (.int .u64 (oc : Int)) by rw [cell_of_row _ _ _ _ _ _ HX.out]; rfl)
  have q8 := cell_regrown (show W2.cell? ⟨A, 8, none⟩ = some (.string rt) by rw [cell_of_row _ _ _ _ _ _ HX.out]; rfl)
  have q9 := cell_regrown (show W2.cell? ⟨A, 9, none⟩ = some (.int .u64 (pv' : Int)) by rw [cell_of_row _ _ _ _ _ _ HX.out]; rfl)
  have q10 := cell_regrown (show W2.cell? ⟨A, 10, none⟩ = some (.int .u64 (nm : Int)) by rw [cell_of_row _ _ _ _ _ _ HX.out]; rfl)
  have q11 := cell_regrown (show W2.cell? ⟨A, 11, none⟩ = some (.string bd) by rw [cell_of_row _ _ _ _ _ _ HX.out]; rfl)
  have q12 := cell_regrown (show W2.cell? ⟨A, 12, none⟩ = some (.slice a ks.length c) by rw [cell_of_row _ _ _ _ _ _ HX.out]; rfl)
  have g0 := cell_regrown (show W2.cell? ⟨B, 0, none⟩ = some (.int .i64 ykd) by rw [cell_of_row _ _ _ _ _ _ HY.out]; rfl)
  have g1 := cell_regrown (show W2.cell? ⟨B, 1, none⟩ = some (.int .u64 (yfm : Int)) by rw [cell_of_row _ _ _ _ _ _ HY.out]; rfl)
  have g2 := cell_regrown (show W2.cell? ⟨B, 2, none⟩ = some (.int .u64 (ydt : Int)) by rw [cell_of_row _ _ _ _ _ _ HY.out]; rfl)
  have g3 := cell_regrown (show W2.cell? ⟨B, 3, none⟩ = some (.int .u64 (yfi : Int)) by rw [cell_of_row _ _ _ _ _ _ HY.out]; rfl)
  have g4 := cell_regrown (show W2.cell? ⟨B, 4, none⟩ = some (.string yit) by rw [cell_of_row _ _ _ _ _ _ HY.out]; rfl)
  have g5 := cell_regrown (show W2.cell? ⟨B, 5, none⟩ = some (.string ybs) by rw [cell_of_row _ _ _ _ _ _ HY.out]; rfl)
  have g6 := cell_regrown (show W2.cell? ⟨B, 6, none⟩ = some (.int .u64 (ysg : Int)) by rw [cell_of_row _ _ _ _ _ _ HY.out]; rfl)
  have g7 := cell_regrown (show W2.cell? ⟨B, 7, none⟩ = some (.int .u64 (yoc : Int)) by rw [cell_of_row _ _ _ _ _ _ HY.out]; rfl)
  have g8 := cell_regrown (show W2.cell? ⟨B, 8, none⟩ = some (.string yrt) by rw [cell_of_row _ _ _ _ _ _ HY.out]; rfl)
  have g9 := cell_regrown (show W2.cell? ⟨B, 9, none⟩ = some (.int .u64 (ypv' : Int)) by rw [cell_of_row _ _ _ _ _ _ HY.out]; rfl)
  have g10 := cell_regrown (show W2.cell? ⟨B, 10, none⟩ = some (.int .u64 (ynm : Int)) by rw [cell_of_row _ _ _ _ _ _ HY.out]; rfl)
  have g11 := cell_regrown (show W2.cell? ⟨B, 11, none⟩ = some (.string ybd) by rw [cell_of_row _ _ _ _ _ _ HY.out]; rfl)
  have g12 := cell_regrown (show W2.cell? ⟨B, 12, none⟩ = some (.slice a' yks.length c') by rw [cell_of_row _ _ _ _ _ _ HY.out]; rfl)
  refine wp_region_quiet_below (by kernel_rfl) (by kernel_rfl) ?_
  cases hd : decide (RX = RY)
  all_goals
    rw [hd] at hre
    have hfin := HFIN.out
    rw [hd] at hfin
    have HF2 := Lib.hid hfin
    clear hfin hd
    iterate 13 (quiet_step (first | (go_at_call_of 21 (Value.agg #[.int .i64 kd, .int .u64 (fm : Int), .int .u64 (dt : Int), .int .u64 (fi : Int), .string it, .string bs, .int .u64 (sg : Int), .int .u64 (oc : Int), .string rt, .int .u64 (pv' : Int), .int .u64 (nm : Int), .string bd, .slice a ks.length c]); exact Calls.regrown_of (HRX.out _)) | (go_at_call_of 21 (Value.agg #[.int .i64 ykd, .int .u64 (yfm : Int), .int .u64 (ydt : Int), .int .u64 (yfi : Int), .string yit, .string ybs, .int .u64 (ysg : Int), .int .u64 (yoc : Int), .string yrt, .int .u64 (ypv' : Int), .int .u64 (ynm : Int), .string ybd, .slice a' yks.length c']); exact Calls.regrown_of (HRY.out _)) | (go_at_call 25; exact Calls.regrown_of (HEQ.out _ (HSX.out.on (below_regrown _ _ _)) (HSY.out.on (below_regrown _ _ _))))))
    refine wpQuiet_nil ?_
    intro _ hw'
    obtain ⟨⟨dq, osq⟩, hw''⟩ := hw'
    subst hw''
    have HB3 := Lib.hid (HB.out.trans ((below_regrown W2 dq osq).mono HB.out.size))
    clear q0 q1 q2 q3 q4 q5 q6 q7 q8 q9 q10 q11 q12 g0 g1 g2 g3 g4 g5 g6 g7 g8 g9 g10 g11 g12 hre HX HY HB
    generalize grow (redrawn W2 dq) osq = V1 at HB3 ⊢
    go_wp2_with fail
    go_ret
    refine ⟨ret_bool ?_, HB3.out⟩
    rw [← HF2.out]
    simp
end Go.Proofs.YtollaaooinoafaaDoor