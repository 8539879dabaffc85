/- The texts Tc, Td, Te, Tf, one behind the other. -/
import Derived.Test.YtdnjieffbgmagaaDoorBg13
import Derived.Test.YtdnjieffbgmagaaDoorQl
import Derived.Laws.StructEq
/- The package frame's rows: rowOf, a row as a frame, and whether two rows are the same. -/
namespace Go.Proofs.YtdnjieffbgmagaaDoor
open Go.RowKit Go.Sort
set_option maxRecDepth 100000
def rowV (l : List Pt) : Value := .agg (Pc l).toArray
theorem wrap_kind (k : Int) : IntKind.u64.wrap k = ((k % 18446744073709551616).toNat : Int) := by rw [IntKind.wrap_u64]; omega
set_option maxHeartbeats 4000000 in
theorem rowOf_any (f : Fr) (a : Option Addr) (c : Nat) (hl : f.keys.length ≤ maxLen) (w : World) :
    Calls Tryd.prog 42 #[frV f a c] w fun e w' => e = .returned (rowV (rowL f)) ∧ Below w.heap.size w w' := by
  have hB0 : Below w.heap.size w ((w.alloc (.cells (frC f a c) 32)).alloc (.cells #[.bool false, .int .u64 0, .string ⟨#[]⟩, .bool false, .int .u64 0, .string ⟨#[]⟩, .bool false, .int .u64 0, .string ⟨#[]⟩, .bool false, .int .u64 0, .string ⟨#[]⟩, .bool false, .int .u64 0, .string ⟨#[]⟩, .bool false, .int .u64 0, .string ⟨#[]⟩, .bool false, .int .u64 0, .string ⟨#[]⟩, .bool false, .int .u64 0, .string ⟨#[]⟩, .bool false, .int .u64 0, .string ⟨#[]⟩, .bool false, .int .u64 0, .string ⟨#[]⟩, .bool false, .int .u64 0, .string ⟨#[]⟩, .bool false, .int .u64 0, .string ⟨#[]⟩, .bool false, .int .u64 0, .string ⟨#[]⟩] 79)) := by go_grown
  have hx0 := frBox w f a c 32
  have hs0 : (w.alloc (.cells (frC f a c) 32)).heap.size = w.heap.size + 1 := by simp
  have hx := frBox_old (obj := .cells #[.bool false, .int .u64 0, .string ⟨#[]⟩, .bool false, .int .u64 0, .string ⟨#[]⟩, .bool false, .int .u64 0, .string ⟨#[]⟩, .bool false, .int .u64 0, .string ⟨#[]⟩, .bool false, .int .u64 0, .string ⟨#[]⟩, .bool false, .int .u64 0, .string ⟨#[]⟩, .bool false, .int .u64 0, .string ⟨#[]⟩, .bool false, .int .u64 0, .string ⟨#[]⟩, .bool false, .int .u64 0, .string ⟨#[]⟩, .bool false, .int .u64 0, .string ⟨#[]⟩, .bool false, .int .u64 0, .string ⟨#[]⟩, .bool false, .int .u64 0, .string ⟨#[]⟩, .bool false, .int .u64 0, .string ⟨#[]⟩] 79) hx0
  have hR : BlkV ((w.alloc (.cells (frC f a c) 32)).alloc (.cells #[.bool false, .int .u64 0, .string ⟨#[]⟩, .bool false, .int .u64 0, .string ⟨#[]⟩, .bool false, .int .u64 0, .string ⟨#[]⟩, .bool false, .int .u64 0, .string ⟨#[]⟩, .bool false, .int .u64 0, .string ⟨#[]⟩, .bool false, .int .u64 0, .string ⟨#[]⟩, .bool false, .int .u64 0, .string ⟨#[]⟩, .bool false, .int .u64 0, .string ⟨#[]⟩, .bool false, .int .u64 0, .string ⟨#[]⟩, .bool false, .int .u64 0, .string ⟨#[]⟩, .bool false, .int .u64 0, .string ⟨#[]⟩, .bool false, .int .u64 0, .string ⟨#[]⟩, .bool false, .int .u64 0, .string ⟨#[]⟩] 79)) (w.heap.size + 1) 79 (Pc blank) := BlkV.fresh _ _ _ _ rfl _ hs0.symm
  obtain ⟨kd, fm, dt, fi, it, bs, sg, oc, rt, pv', nm, bd, ks⟩ := f
  unfold frV
  simp only [frC] at hB0 hx hR hl ⊢
  obtain ⟨kn, ekn⟩ : ∃ kn, (kd % 18446744073709551616).toNat = kn := ⟨_, rfl⟩
  have hwk : IntKind.u64.wrap kd = (kn : Int) := by rw [← ekn]; exact wrap_kind kd
  have EKN := Lib.hid ekn
  clear ekn
  have hwl : IntKind.u64.wrap (ks.length : Int) = (ks.length : Int) := by rw [IntKind.wrap_u64]; unfold maxLen at hl; omega
  have HB := Lib.hid hB0; have HX := Lib.hid hx; have HR := Lib.hid hR
  clear hB0 hx hx0 hR hs0 hl
  have HC0 : Hid (∀ W : World, Calls Tryd.prog 56 #[.int .u64 (kn : Int)] W fun e w' => e = .returned (.agg #[.bool false, .int .u64 (kn : Int), .string ⟨#[]⟩]) ∧ Below W.heap.size W w') := Lib.hid (fun W => fNumber_any kn W)
  have HC1 : Hid (∀ W : World, Calls Tryd.prog 56 #[.int .u64 (fm : Int)] W fun e w' => e = .returned (.agg #[.bool false, .int .u64 (fm : Int), .string ⟨#[]⟩]) ∧ Below W.heap.size W w') := Lib.hid (fun W => fNumber_any fm W)
  have HC2 : Hid (∀ W : World, Calls Tryd.prog 56 #[.int .u64 (dt : Int)] W fun e w' => e = .returned (.agg #[.bool false, .int .u64 (dt : Int), .string ⟨#[]⟩]) ∧ Below W.heap.size W w') := Lib.hid (fun W => fNumber_any dt W)
  have HC3 : Hid (∀ W : World, Calls Tryd.prog 56 #[.int .u64 (fi : Int)] W fun e w' => e = .returned (.agg #[.bool false, .int .u64 (fi : Int), .string ⟨#[]⟩]) ∧ Below W.heap.size W w') := Lib.hid (fun W => fNumber_any fi W)
  have HC4 : Hid (∀ W : World, Calls Tryd.prog 57 #[.string it] W fun e w' => e = .returned (.agg #[.bool true, .int .u64 0, .string it]) ∧ Below W.heap.size W w') := Lib.hid (fun W => fText_any it W)
  have HC5 : Hid (∀ W : World, Calls Tryd.prog 57 #[.string bs] W fun e w' => e = .returned (.agg #[.bool true, .int .u64 0, .string bs]) ∧ Below W.heap.size W w') := Lib.hid (fun W => fText_any bs W)
  have HC6 : Hid (∀ W : World, Calls Tryd.prog 56 #[.int .u64 (sg : Int)] W fun e w' => e = .returned (.agg #[.bool false, .int .u64 (sg : Int), .string ⟨#[]⟩]) ∧ Below W.heap.size W w') := Lib.hid (fun W => fNumber_any sg W)
  have HC7 : Hid (∀ W : World, Calls Tryd.prog 56 #[.int .u64 (oc : Int)] W fun e w' => e = .returned (.agg #[.bool false, .int .u64 (oc : Int), .string ⟨#[]⟩]) ∧ Below W.heap.size W w') := Lib.hid (fun W => fNumber_any oc W)
  have HC8 : Hid (∀ W : World, Calls Tryd.prog 57 #[.string rt] W fun e w' => e = .returned (.agg #[.bool true, .int .u64 0, .string rt]) ∧ Below W.heap.size W w') := Lib.hid (fun W => fText_any rt W)
  have HC9 : Hid (∀ W : World, Calls Tryd.prog 56 #[.int .u64 (pv' : Int)] W fun e w' => e = .returned (.agg #[.bool false, .int .u64 (pv' : Int), .string ⟨#[]⟩]) ∧ Below W.heap.size W w') := Lib.hid (fun W => fNumber_any pv' W)
  have HC10 : Hid (∀ W : World, Calls Tryd.prog 56 #[.int .u64 (nm : Int)] W fun e w' => e = .returned (.agg #[.bool false, .int .u64 (nm : Int), .string ⟨#[]⟩]) ∧ Below W.heap.size W w') := Lib.hid (fun W => fNumber_any nm W)
  have HC11 : Hid (∀ W : World, Calls Tryd.prog 57 #[.string bd] W fun e w' => e = .returned (.agg #[.bool true, .int .u64 0, .string bd]) ∧ Below W.heap.size W w') := Lib.hid (fun W => fText_any bd W)
  have HC12 : Hid (∀ W : World, Calls Tryd.prog 56 #[.int .u64 (ks.length : Int)] W fun e w' => e = .returned (.agg #[.bool false, .int .u64 (ks.length : Int), .string ⟨#[]⟩]) ∧ Below W.heap.size W w') := Lib.hid (fun W => fNumber_any ks.length W)
  go_enter Tryd.func42, Tryd.ntmps42
  go_upto_region 1 with fail
  generalize World.alloc (World.alloc w _) _ = V at HB HX HR ⊢
  have q0 := cell_regrown (show V.cell? ⟨w.heap.size, 0, none⟩ = some (.int .i64 kd) by rw [cell_of_row _ _ _ _ _ _ HX.out]; rfl)
  have q1 := cell_regrown (show V.cell? ⟨w.heap.size, 1, none⟩ = some (.int .u64 (fm : Int)) by rw [cell_of_row _ _ _ _ _ _ HX.out]; rfl)
  have q2 := cell_regrown (show V.cell? ⟨w.heap.size, 2, none⟩ = some (.int .u64 (dt : Int)) by rw [cell_of_row _ _ _ _ _ _ HX.out]; rfl)
  have q3 := cell_regrown (show V.cell? ⟨w.heap.size, 3, none⟩ = some (.int .u64 (fi : Int)) by rw [cell_of_row _ _ _ _ _ _ HX.out]; rfl)
  have q4 := cell_regrown (show V.cell? ⟨w.heap.size, 4, none⟩ = some (.string it) by rw [cell_of_row _ _ _ _ _ _ HX.out]; rfl)
  have q5 := cell_regrown (show V.cell? ⟨w.heap.size, 5, none⟩ = some (.string bs) by rw [cell_of_row _ _ _ _ _ _ HX.out]; rfl)
  have q6 := cell_regrown (show V.cell? ⟨w.heap.size, 6, none⟩ = some (.int .u64 (sg : Int)) by rw [cell_of_row _ _ _ _ _ _ HX.out]; rfl)
  have q7 := cell_regrown (show V.cell? ⟨w.heap.size, 7, none⟩ = some (.int .u64 (oc : Int)) by rw [cell_of_row _ _ _ _ _ _ HX.out]; rfl)
  have q8 := cell_regrown (show V.cell? ⟨w.heap.size, 8, none⟩ = some (.string rt) by rw [cell_of_row _ _ _ _ _ _ HX.out]; rfl)
  have q9 := cell_regrown (show V.cell? ⟨w.heap.size, 9, none⟩ = some (.int .u64 (pv' : Int)) by rw [cell_of_row _ _ _ _ _ _ HX.out]; rfl)
  have q10 := cell_regrown (show V.cell? ⟨w.heap.size, 10, none⟩ = some (.int .u64 (nm : Int)) by rw [cell_of_row _ _ _ _ _ _ HX.out]; rfl)
  have q11 := cell_regrown (show V.cell? ⟨w.heap.size, 11, none⟩ = some (.string bd) by rw [cell_of_row _ _ _ _ _ _ HX.out]; rfl)
  have q12 := cell_regrown (show V.cell? ⟨w.heap.size, 12, none⟩ = some (.slice a ks.length c) by rw [cell_of_row _ _ _ _ _ _ HX.out]; rfl)
  refine wp_region_last_below 43 _ (by kernel_rfl) rfl rfl rfl rfl (by kernel_rfl) (by kernel_rfl) ?_
  simp only [List.take_succ_cons, List.take_zero]
  iterate 43 (quiet_step (first | (go_at_call_of 56 (Value.int .u64 (kn : Int)); exact Calls.regrown_of (HC0.out _)) | (go_at_call_of 56 (Value.int .u64 (fm : Int)); exact Calls.regrown_of (HC1.out _)) | (go_at_call_of 56 (Value.int .u64 (dt : Int)); exact Calls.regrown_of (HC2.out _)) | (go_at_call_of 56 (Value.int .u64 (fi : Int)); exact Calls.regrown_of (HC3.out _)) | (go_at_call_of 57 (Value.string it); exact Calls.regrown_of (HC4.out _)) | (go_at_call_of 57 (Value.string bs); exact Calls.regrown_of (HC5.out _)) | (go_at_call_of 56 (Value.int .u64 (sg : Int)); exact Calls.regrown_of (HC6.out _)) | (go_at_call_of 56 (Value.int .u64 (oc : Int)); exact Calls.regrown_of (HC7.out _)) | (go_at_call_of 57 (Value.string rt); exact Calls.regrown_of (HC8.out _)) | (go_at_call_of 56 (Value.int .u64 (pv' : Int)); exact Calls.regrown_of (HC9.out _)) | (go_at_call_of 56 (Value.int .u64 (nm : Int)); exact Calls.regrown_of (HC10.out _)) | (go_at_call_of 57 (Value.string bd); exact Calls.regrown_of (HC11.out _)) | (go_at_call_of 56 (Value.int .u64 (ks.length : Int)); exact Calls.regrown_of (HC12.out _))))
  refine wpQuiet_nil ?_
  intro _ hw'
  obtain ⟨⟨dq, osq⟩, hw''⟩ := hw'
  subst hw''
  have hrg := below_regrown V dq osq
  have HR' := Lib.hid (HR.out.on hrg)
  have HB' := Lib.hid (HB.out.trans (hrg.mono HB.out.size))
  clear hrg HX HB HR q0 q1 q2 q3 q4 q5 q6 q7 q8 q9 q10 q11 q12 HC0 HC1 HC2 HC3 HC4 HC5 HC6 HC7 HC8 HC9 HC10 HC11 HC12
  generalize grow (redrawn V dq) osq = V1 at HR' HB' ⊢
  obtain ⟨R, eR⟩ : ∃ R : List Pt, [np kn, np fm, np dt, np fi, tp it, tp bs, np sg, np oc, tp rt, np pv', np nm, tp bd, np ks.length] = R := ⟨_, rfl⟩
  have hRl : (Pc R).length = (Pc blank).length := by rw [← eR]; rfl
  refine store_v rfl rfl _ _ _ rfl (w.heap.size + 1) rfl (l' := Pc R) (by rw [← eR]; rfl) HR'.out hRl (Pc_one R) (by kernel_rfl) ?_
  refine wpList_nil ?_
  have hF := HR'.out.stored (Pc R) hRl
  have hBF := below_setCells (show w.heap.size ≤ w.heap.size + 1 by omega) (Pc R) 0 _ HB'.out
  generalize World.setCells V1 _ _ _ = W at hF hBF ⊢
  rename_i K hK
  refine hK _ _ ?_
  refine wp_ret ?_
  refine bodyPost_ret (results_v (p := 2) (T := 79) (by kernel_rfl) _ _ (w.heap.size + 1) rfl hF Tryd.underlying79 rfl (by rw [hRl]; kernel_rfl)) rfl ⟨?_, hBF⟩
  rw [← eR, ← EKN.out]
  rfl
end Go.Proofs.YtdnjieffbgmagaaDoor

/- The package frame's row as a frame; whether two rows are the same. -/
namespace Go.Proofs.YtdnjieffbgmagaaDoor
open Go.RowKit Go.Sort
set_option maxRecDepth 100000
/-- two parts, as Go compares them -/
theorem run_eq_part (d : Nat) (p q : Pt) (W : World) : (Op.equalIn (d + 2) 77 (pv p) (pv q)).run Tryd.prog W = .ok (decide (p = q)) W := by
  obtain ⟨t, n, s⟩ := p
  obtain ⟨t', n', s'⟩ := q
  have hn := nat_eq n n'
  have hs := str_eq s s'
  by_cases ht : t = t'
  · subst ht
    by_cases h1 : n = n'
    · subst h1
      by_cases h2 : s = s'
      · subst h2
        unfold pv
        cases t <;> simp [go_sem]
      · rw [decide_eq_false h2] at hs
        rw [decide_eq_false (by rintro ⟨⟩; exact h2 rfl)]
        unfold pv
        cases t <;> simp [go_sem, hs]
    · rw [decide_eq_false h1] at hn
      rw [decide_eq_false (by rintro ⟨⟩; exact h1 rfl)]
      unfold pv
      cases t <;> simp [go_sem, hn]
  · rw [decide_eq_false (by rintro ⟨⟩; exact ht rfl)]
    unfold pv
    cases t <;> cases t' <;> first | exact absurd rfl ht | simp [go_sem]
end Go.Proofs.YtdnjieffbgmagaaDoor

/- Whether two rows, two lists of texts, two frames are the same, as the package looks. -/
namespace Go.Proofs.YtdnjieffbgmagaaDoor
open Go.RowKit Go.Sort
set_option maxRecDepth 100000
theorem sizeP (w : World) : (sizeOf 77).run Tryd.prog w = .ok 3 w := by
  obtain ⟨i, hi, -, hs, -⟩ := info_parts infoP
  simp [sizeOf, typeInfo, hi, hs]
theorem isAggP (w : World) : (isAgg 77).run Tryd.prog w = .ok true w := by
  simp [isAgg, run_underlying Tryd.underlying77]
theorem Pc_seg (l : List Pt) (i : Nat) (h : i < l.length) : ((Pc l).drop (i * 3)).take 3 = pcs (l.getD i p0) := by
  induction l generalizing i with
  | nil => simp at h
  | cons p l ih =>
    rw [Pc_cons]
    rcases i with _ | i
    · simp [pcs]
    · have e : (i + 1) * 3 = (pcs p).length + i * 3 := by simp [pcs]; omega
      rw [e, List.drop_append, List.drop_of_length_le (by omega), List.nil_append, Nat.add_sub_cancel_left, ih i (by simpa using h)]
      simp
theorem part_row (l : List Pt) (i : Nat) (h : i < l.length) (W : World) : (part 77 (Pc l).toArray (i * 3)).run Tryd.prog W = .ok (pv (l.getD i p0)) W := by
  have e : (Pc l).toArray.extract (i * 3) (i * 3 + 3) = (pcs (l.getD i p0)).toArray := by
    apply Array.ext'
    rw [Array.toList_extract, List.extract_eq_take_drop, Nat.add_sub_cancel_left]
    exact Pc_seg l i h
  unfold part
  simp only [Sem.run_bind, isAggP, Result.andThen_ok, if_true, sizeP, Sem.run_pure, e]
  rfl
theorem all_getD (l m : List Pt) (h : l.length = m.length) : ((List.range l.length).all fun i => decide (l.getD i p0 = m.getD i p0)) = decide (l = m) := by
  rw [Bool.eq_iff_iff]
  simp only [List.all_eq_true, List.mem_range, decide_eq_true_eq]
  constructor
  · intro hh
    apply List.ext_getElem h
    intro i h1 h2
    have := hh i h1
    simpa [List.getD, h1, h2] using this
  · rintro rfl i -; rfl
theorem run_eq_row (l m : List Pt) (hl : l.length = 13) (hm : m.length = 13) (W : World) : (binOp .eql 79 (rowV l) (rowV m)).run Tryd.prog W = .ok (.bool (decide (l = m))) W := by
  have hu : Tryd.prog.underlying 79 = some (.array 13 77) := Tryd.underlying79
  have key : (Op.equalIn (9997 + 3) 79 (.agg (Pc l).toArray) (.agg (Pc m).toArray)).run Tryd.prog W = .ok (decide (l = m)) W := by
    rw [← all_getD l m (by omega), hl, List.range_eq_range', Op.equalIn]
    simp only [Sem.run_bind, run_underlying hu, Result.andThen_ok, sizeP, Std.Legacy.Range.forIn_eq_forIn_range', Std.Legacy.Range.size, Nat.sub_zero, Nat.add_sub_cancel, Nat.div_one]
    have hl' : ∀ i ∈ List.range' 0 13 1, i < 13 := fun i hi => by simpa using (List.mem_range'_1.1 hi).2
    generalize List.range' 0 13 1 = ll at hl' ⊢
    induction ll with
    | nil => simp
    | cons i ll ih =>
      have hi : i < 13 := hl' i (by simp)
      have px := part_row l i (by omega) W
      have py := part_row m i (by omega) W
      have pe := run_eq_part 9997 (l.getD i p0) (m.getD i p0) W
      simp only [List.forIn_cons, Sem.run_bind, px, py, pe, Result.andThen_ok, List.all_cons]
      cases hb : decide (l.getD i p0 = m.getD i p0)
      · simp
      · simp only [Bool.not_true, Bool.false_eq_true, if_false, Sem.run_pure, Result.andThen_ok, Bool.true_and]
        exact ih fun j hj => hl' j (by simp [hj])
  unfold rowV
  rw [run_eql_struct]
  show ((Op.equalIn (9997 + 3) _ _ _).run _ W).andThen _ = _
  rw [key]
  rfl
end Go.Proofs.YtdnjieffbgmagaaDoor

/- The formats in memory; a row in a block: one part read, one stored; the package's Right. -/
namespace Go.Proofs.YtdnjieffbgmagaaDoor
open Go.RowKit Go.Sort
set_option maxRecDepth 100000
/-- the package's formats lie as their initialiser lays them -/
def FmtAt (w : World) : Prop := ∀ k, k < 3 → ∃ b off c : Nat, w.cell? ⟨0, k, none⟩ = some (.slice (some ⟨b, off, none⟩) (fmtL k).length c) ∧ ∀ i, i < (fmtL k).length → w.cell? ⟨b, off + i, none⟩ = some (.int .i64 ((fmtL k).getD i 0 : Int))
theorem FmtAt.on {w w' : World} (h : FmtAt w) (hb : Below w.heap.size w w') : FmtAt w' := by
  intro k hk
  obtain ⟨b, off, c, h1, h2⟩ := h k hk
  refine ⟨b, off, c, ?_, fun i hi => ?_⟩
  · rw [hb.cell (p := ⟨0, k, none⟩) (World.block_lt_of_cell? w _ h1)]; exact h1
  · have := h2 i hi
    rw [hb.cell (p := ⟨b, off + i, none⟩) (World.block_lt_of_cell? w _ this)]; exact this
theorem heap_setCells_seg (b : Nat) (t : TypeId) : ∀ (vs pre mid post : List Value) (w : World), mid.length = vs.length → w.heap[b]? = some (.cells (pre ++ mid ++ post).toArray t (0, 0)) →
    (w.setCells b pre.length vs).heap[b]? = some (.cells (pre ++ vs ++ post).toArray t (0, 0))
  | [], pre, mid, post, w, hl, hg => by
    have : mid = [] := by simpa using hl
    subst this
    simpa [World.setCells] using hg
  | v :: r, pre, mid, post, w, hl, hg => by
    obtain ⟨u, mid, rfl⟩ : ∃ u m, mid = u :: m := by
      cases mid with
      | nil => simp at hl
      | cons u m => exact ⟨u, m, rfl⟩
    rw [World.setCells]
    have h2 := heap_setCell_same w b pre.length _ t v hg
    have e3 : ((pre ++ u :: mid ++ post).toArray.setIfInBounds pre.length v) = ((pre ++ [v]) ++ mid ++ post).toArray := by
      apply Array.ext'
      simp
    rw [e3] at h2
    have h4 := heap_setCells_seg b t r (pre ++ [v]) mid post _ (by simpa using hl) h2
    rw [List.length_append, List.length_singleton] at h4
    rw [h4]
    simp
theorem set_split (l : List Pt) (i : Nat) (h : i < l.length) (p : Pt) : l = l.take i ++ [l.getD i p0] ++ l.drop (i + 1) ∧ l.set i p = l.take i ++ [p] ++ l.drop (i + 1) := by
  have e : l.getD i p0 = l[i] := by simp [List.getD, h]
  constructor
  · rw [e, List.take_append_getElem]
    exact (List.take_append_drop (i + 1) l).symm
  · rw [List.set_eq_take_append_cons_drop, if_pos h]; simp
theorem Pc_single (p : Pt) : Pc [p] = pcs p := by unfold Pc; simp
theorem BlkV.farO {w : World} {B B' : Nat} {t : TypeId} {l : List Value} (h : BlkV w B t l) (hne : B ≠ B') (o : Nat) (vs : List Value) : BlkV (w.setCells B' o vs) B t l := by
  unfold BlkV; rw [heap_setCells_other B' B hne]; exact h
/-- a part of a row, stored -/
theorem BlkV.setP {w : World} {B : Nat} {t : TypeId} {l : List Pt} (h : BlkV w B t (Pc l)) (i : Nat) (hi : i < l.length) (p : Pt) : BlkV (w.setCells B (i * 3) (pcs p)) B t (Pc (l.set i p)) := by
  obtain ⟨e1, e2⟩ := set_split l i hi p
  unfold BlkV at h ⊢
  rw [e1, Pc_append, Pc_append, Pc_single] at h
  rw [e2, Pc_append, Pc_append, Pc_single]
  have hl : (Pc (l.take i)).length = i * 3 := by rw [Pc_length, List.length_take]; omega
  rw [← hl]
  exact heap_setCells_seg B t (pcs p) _ (pcs (l.getD i p0)) _ w rfl h
theorem BlkV.ptAt {w : World} {B : Nat} {t : TypeId} {l : List Pt} (h : BlkV w B t (Pc l)) (i : Nat) (hi : i < l.length) : PtAt w B (i * 3) (l.getD i p0) := by
  obtain ⟨g0, g1, g2⟩ := Pc_get l i hi
  exact ⟨h.cell _ _ g0, h.cell _ _ g1, h.cell _ _ g2⟩
theorem BlkV.rangeP {w : World} {B : Nat} {t : TypeId} {l : List Pt} (h : BlkV w B t (Pc l)) (i : Nat) (hi : i < l.length) : w.rangeAt B (i * 3) (pcs (l.getD i p0)) := by
  have hp := h.ptAt i hi
  intro j v hv
  match j with
  | 0 => simp [pcs] at hv; subst hv; exact hp.c0
  | 1 => simp [pcs] at hv; subst hv; exact hp.c1
  | 2 => simp [pcs] at hv; subst hv; exact hp.c2
  | n + 3 => simp [pcs] at hv
theorem BlkV.thereP {w : World} {B : Nat} {t : TypeId} {l : List Pt} (h : BlkV w B t (Pc l)) (i : Nat) (hi : i < l.length) : w.there B (i * 3) 3 := by
  intro j hj
  have hp := h.ptAt i hi
  have hf := h.frozen (i * 3 + j)
  match j, hj with
  | 0, _ => exact ⟨by have := hp.c0; simp only [Nat.add_zero]; rw [this]; rfl, hf⟩
  | 1, _ => exact ⟨by rw [hp.c1]; rfl, hf⟩
  | 2, _ => exact ⟨by rw [hp.c2]; rfl, hf⟩
theorem pcs_one (p : Pt) : ∀ v ∈ pcs p, v.oneCell' = true := by
  intro v hv; simp [pcs] at hv; rcases hv with rfl | rfl | rfl <;> rfl
theorem zero_row : rowL ⟨0, 0, 0, 0, ⟨#[]⟩, ⟨#[]⟩, 0, 0, ⟨#[]⟩, 0, 0, ⟨#[]⟩, []⟩ = noneL := rfl
def blankC : Array Value := #[.bool false, .int .u64 0, .string ⟨#[]⟩, .bool false, .int .u64 0, .string ⟨#[]⟩, .bool false, .int .u64 0, .string ⟨#[]⟩, .bool false, .int .u64 0, .string ⟨#[]⟩, .bool false, .int .u64 0, .string ⟨#[]⟩, .bool false, .int .u64 0, .string ⟨#[]⟩, .bool false, .int .u64 0, .string ⟨#[]⟩, .bool false, .int .u64 0, .string ⟨#[]⟩, .bool false, .int .u64 0, .string ⟨#[]⟩, .bool false, .int .u64 0, .string ⟨#[]⟩, .bool false, .int .u64 0, .string ⟨#[]⟩, .bool false, .int .u64 0, .string ⟨#[]⟩, .bool false, .int .u64 0, .string ⟨#[]⟩]
theorem blankC_eq : blankC = (Pc blank).toArray := rfl
def LeftRelT (w : World) (L E FB : Nat) (t : TypeId) (fc : List Value) (tf : TypeId) (R : List Pt) (ws : List Nat) (i : Value) (wr : World) : Prop :=
  ∃ (k : Nat) (l : List Pt), k ≤ ws.length ∧ i = .int .i64 (k : Int) ∧ l.length = 13 ∧ BlkV wr L t (Pc l) ∧ BlkV wr E t (Pc noneL) ∧ BlkV wr FB tf fc ∧ leftW l (ws.drop k) = leftW R ws ∧ Below w.heap.size w wr
theorem left_step (l : List Pt) (ws : List Nat) (k : Nat) (h : k < ws.length) (hf : fitsW (ws.getD k 0) (l.getD (ws.getD k 0) p0) = true) :
    leftW l (ws.drop k) = leftW (l.set (ws.getD k 0) (noneL.getD (ws.getD k 0) p0)) (ws.drop (k + 1)) := by
  have e : ws.getD k 0 = ws[k] := by simp [List.getD, h]
  rw [List.drop_eq_getElem_cons h, leftW, ← e, if_pos hf]
theorem left_stop (l : List Pt) (ws : List Nat) (k : Nat) (h : k < ws.length) (hf : fitsW (ws.getD k 0) (l.getD (ws.getD k 0) p0) = false) : leftW l (ws.drop k) = none := by
  have e : ws.getD k 0 = ws[k] := by simp [List.getD, h]
  rw [List.drop_eq_getElem_cons h, leftW, ← e, hf, if_neg (by simp)]
def rightT (R : List Pt) (ws : List Nat) (ks : List ByteArray) : Bool :=
  match leftW R ws with
  | none => false
  | some l => decide (l = noneL) && keysB ks
set_option maxHeartbeats 4000000 in
theorem fRight_any (f : Fr) (a : Option Addr) (c : Nat) (hl : f.keys.length ≤ maxLen) (w : World) (hp : SSl w a f.keys) (hF : FmtAt w) :
    Calls Tryd.prog 24 #[frV f a c] w fun e w' => e = .returned (.bool (rightF f)) ∧ Below w.heap.size w w' := by
  have hb1 : Below w.heap.size w (w.alloc (.cells (frC f a c) 32)) := (Below.refl _ _).alloc (Nat.le_refl _) _
  have hx1 : BlkV (w.alloc (.cells (frC f a c) 32)) w.heap.size 32 (frL f a c) := BlkV.fresh _ _ _ _ rfl _ rfl
  have d0 : (w.alloc (.cells (frC f a c) 32)).cell? ⟨w.heap.size, 0, none⟩ = some (.int .i64 f.kind) := hx1.cell 0 _ rfl
  have HK := Lib.hid (isKind_any f.kind)
  by_cases hk : 0 ≤ f.kind ∧ f.kind < 3
  case neg =>
    rw [decide_eq_false hk] at HK
    have HR := Lib.hid (right_not f hk)
    unfold frV
    simp only [frC] at hb1 d0 ⊢
    have HB := Lib.hid hb1
    clear hb1 hx1 hk hl hp hF
    go_enter Tryd.func24, Tryd.ntmps24
    go_wp2_with fail
    refine (HK.out _).mono ?_
    rintro e w1 ⟨rfl, rfl⟩
    go_wp2_with fail
    go_ret
    rw [HR.out]
    exact ⟨rfl, HB.out⟩
  rw [decide_eq_true hk] at HK
  obtain ⟨kn, hkn⟩ : ∃ kn : Nat, f.kind = (kn : Int) := ⟨f.kind.toNat, by omega⟩
  have hkn3 : kn < 3 := by omega
  have hRP := right_kindP f kn hkn3 hkn
  rw [← hRP]
  obtain ⟨ans, eans⟩ : ∃ ans, rightP kn f = ans := ⟨_, rfl⟩
  replace eans : rightT (rowL f) (fmtL kn) f.keys = ans := eans
  rw [show rightP kn f = ans from eans]
  have hro := fun W => rowOf_any f a c hl W
  have hrz : ∀ W : World, Calls Tryd.prog 42 #[.agg #[.int .i64 0, .int .u64 0, .int .u64 0, .int .u64 0, .string ⟨#[]⟩, .string ⟨#[]⟩, .int .u64 0, .int .u64 0, .string ⟨#[]⟩, .int .u64 0, .int .u64 0, .string ⟨#[]⟩, .slice none 0 0]] W fun e w' => e = .returned (rowV noneL) ∧ Below W.heap.size W w' :=
    fun W => rowOf_any ⟨0, 0, 0, 0, ⟨#[]⟩, ⟨#[]⟩, 0, 0, ⟨#[]⟩, 0, 0, ⟨#[]⟩, []⟩ none 0 (Nat.zero_le _) W
  have hak := fun W h => areKeys_any a c f.keys hl W h
  obtain ⟨fc, efc⟩ : ∃ fc, frL f a c = fc := ⟨_, rfl⟩
  obtain ⟨R, eR⟩ : ∃ R, rowL f = R := ⟨_, rfl⟩
  have hR13 : R.length = 13 := by rw [← eR]; rfl
  have e12 : fc[12]? = some (.slice a f.keys.length c) := by rw [← efc]; rfl
  have e0 : fc[0]? = some (.int .i64 (kn : Int)) := by rw [← efc, ← hkn]; rfl
  have eld : (fc : List Value).toArray = frC f a c := by rw [← efc]; rfl
  have hlen13 : fc.length = 13 := by rw [← efc]; rfl
  rw [eR] at hro eans
  rw [efc] at hx1
  have hfv : frV f a c = .agg fc.toArray := by rw [eld]; rfl
  rw [hfv] at hro ⊢
  rw [← eld] at hb1 hx1 d0
  rw [hkn] at HK d0
  generalize f.keys = ks at *
  have HB := Lib.hid hb1; have HX := Lib.hid hx1; have HP := Lib.hid hp; have HF := Lib.hid hF; have HRO := Lib.hid hro; have HRZ := Lib.hid hrz; have HAK := Lib.hid hak; have HE := Lib.hid (And.intro e0 e12); have HL13 := Lib.hid (And.intro hR13 hlen13); have HANS := Lib.hid eans
  clear hb1 hx1 hro hrz hak e0 e12 eld eR efc hRP hkn hk hl hp hF hfv hR13 hlen13 eans
  go_enter Tryd.func24, Tryd.ntmps24
  go_upto_region 1 with fail
  generalize World.alloc w _ = V at HB HX d0 ⊢
  go_wp2_with fail
  refine (HK.out _).mono ?_
  rintro e w1 ⟨rfl, rfl⟩
  go_upto_region 3 with fail
  clear d0
  refine wp_region_lit ?_
  refine load_v rfl _ _ rfl w.heap.size rfl HX.out Tryd.underlying32 rfl (by rw [HL13.out.2]; kernel_rfl) ?_
  refine wpList_step (fun K hK => ?_)
  go_simp
  refine (HRO.out _).mono ?_
  rintro e w1 ⟨rfl, hb⟩
  refine hK _ _ ?_
  clear hK K
  have HX1 := Lib.hid (HX.out.on hb); have HB1 := Lib.hid (HB.out.trans (hb.mono HB.out.size))
  clear HX HB hb HK HRO
  refine wpList_step (fun K hK => ?_)
  go_simp
  refine hK _ _ ?_
  clear hK K
  refine wpList_step (fun K hK => ?_)
  go_simp
  refine (HRZ.out _).mono ?_
  rintro e w2 ⟨rfl, hb⟩
  refine hK _ _ ?_
  clear hK K
  have hX := HX1.out.on hb
  have hB := HB1.out.trans (hb.mono HB1.out.size)
  have hsz := hX.lt
  have hle := hB.size
  clear HX1 HB1 hb HRZ
  obtain ⟨U0, eU0⟩ : ∃ U0, w2.alloc (.cells blankC 79) = U0 := ⟨_, rfl⟩
  obtain ⟨U, eU⟩ : ∃ U, U0.alloc (.cells blankC 79) = U := ⟨_, rfl⟩
  have hs0 : U0.heap.size = w2.heap.size + 1 := by rw [← eU0]; simp
  have hv : Below w2.heap.size w2 U := by rw [← eU, ← eU0]; go_grown
  have hL : BlkV U w2.heap.size 79 (Pc blank) := by rw [← eU]; exact BlkV.alloc (by rw [← eU0]; exact BlkV.fresh _ _ _ _ blankC_eq _ rfl) _
  have hE : BlkV U (w2.heap.size + 1) 79 (Pc blank) := by rw [← eU]; exact BlkV.fresh _ _ _ _ blankC_eq _ hs0.symm
  have hX2 := hX.on hv
  have hB2 := hB.trans (hv.mono hle)
  have HU := Lib.hid (And.intro eU0 eU); have HL := Lib.hid hL; have HE0 := Lib.hid hE; have HX := Lib.hid hX2; have HB := Lib.hid hB2; have HSZ := Lib.hid (And.intro hsz hle)
  clear eU0 eU hs0 hv hL hE hX2 hB2 hX hB hsz hle
  iterate 2 (refine wpList_step (fun K hK => ?_); go_simp; refine hK _ _ ?_; clear hK K)
  change wpList Tryd.prog _ _ _ _ ((w2.alloc (.cells blankC 79)).alloc (.cells blankC 79))
  rw [HU.out.1, HU.out.2]
  have hRl : (Pc R).length = (Pc blank).length := by rw [Pc_length, HL13.out.1]; rfl
  have hNl : (Pc noneL).length = (Pc blank).length := rfl
  refine store_v rfl rfl _ _ _ rfl w2.heap.size rfl (l' := Pc R) rfl HL.out hRl (Pc_one R) (by kernel_rfl) ?_
  refine store_v rfl rfl _ _ _ rfl (w2.heap.size + 1) rfl (l' := Pc noneL) rfl (HE0.out.farS (by omega) _) hNl (Pc_one noneL) (by kernel_rfl) ?_
  refine wpList_nil ?_
  obtain ⟨hsz, hle⟩ := HSZ.out
  have hL4 := (HL.out.stored (Pc R) hRl).farS (show w2.heap.size ≠ w2.heap.size + 1 by omega) (Pc noneL)
  have hE4 := (HE0.out.farS (show w2.heap.size + 1 ≠ w2.heap.size by omega) (Pc R)).stored (Pc noneL) hNl
  have hX4 := (HX.out.farS (show w.heap.size ≠ w2.heap.size by omega) (Pc R)).farS (show w.heap.size ≠ w2.heap.size + 1 by omega) (Pc noneL)
  have hB4 := below_setCells (show w.heap.size ≤ w2.heap.size + 1 by omega) (Pc noneL) 0 _ (below_setCells hle (Pc R) 0 _ HB.out)
  obtain ⟨L, eL⟩ : ∃ L, w2.heap.size = L := ⟨_, rfl⟩
  obtain ⟨FB, eFB⟩ : ∃ FB, w.heap.size = FB := ⟨_, rfl⟩
  have hne : FB < L := by omega
  rw [eL] at hL4 hE4 hX4 hB4 ⊢
  rw [eFB] at hX4
  generalize World.setCells (World.setCells U _ _ _) _ _ _ = W4 at hL4 hE4 hX4 hB4 ⊢
  clear HU HL HE0 HX HB HSZ hsz hle eL hRl hNl
  rename_i K hK
  refine hK _ _ ?_
  clear hK K
  obtain ⟨fb, fo, fcap, hf0, hf2⟩ := HF.out kn hkn3
  have hf1 : W4.cell? ⟨0, kn, none⟩ = _ := (hB4.cell (p := ⟨0, kn, none⟩) (World.block_lt_of_cell? w _ hf0)).trans hf0
  have hf3 := fmt_get kn
  have hws := fmt_len kn
  have d0 := hX4.cell 0 _ HE.out.1
  have HW4 := Lib.hid (And.intro hL4 (And.intro hE4 (And.intro hX4 (And.intro hB4 (And.intro hf2 (And.intro hne (And.intro hf3 (And.intro hws eFB))))))))
  clear hL4 hE4 hX4 hB4 hf2 hf3 hws hne hf0
  rw [eFB]
  go_upto_region 5 with fail
  clear d0 hf1
  obtain ⟨ws, ews⟩ : ∃ ws, fmtL kn = ws := ⟨_, rfl⟩
  rw [ews] at HW4 HANS ⊢
  clear ews
  go_loopw [20] (LeftRelT w L (L + 1) FB 79 fc 32 R ws) (fun i _ => ws.length - (intOf i).toNat)
  case atStart => exact ⟨0, R, Nat.zero_le _, rfl, HL13.out.1, HW4.out.1, HW4.out.2.1, HW4.out.2.2.1, rfl, HW4.out.2.2.2.1⟩
  case round =>
    obtain ⟨k, l, hk, rfl, hl13, hL, hE, hX, hleft, hB⟩ := hrel
    obtain ⟨-, -, -, hB4, hf2, hne, hf3, hws, eFB⟩ := HW4.out
    by_cases hlt : k < ws.length
    · have h1 : (k : Int) < (ws.length : Int) := by omega
      have h1k : (k : Int) < 100 := by omega
      obtain ⟨q, eq⟩ : ∃ q, ws.getD k 0 = q := ⟨_, rfl⟩
      have hq := hf3 k hlt
      have hcell : wr.cell? ⟨fb, fo + k, none⟩ = _ := (hB.cell (p := ⟨fb, fo + k, none⟩) (World.block_lt_of_cell? w _ (hf2 k hlt))).trans (hf2 k hlt)
      rw [eq] at hq hcell
      have hpt := hL.ptAt q (by omega)
      have hst := left_step l ws k hlt
      have hsp := left_stop l ws k hlt
      rw [eq, hleft] at hst hsp
      obtain ⟨p, ep⟩ : ∃ p, l.getD q p0 = p := ⟨_, rfl⟩
      rw [ep] at hpt hst hsp
      have hft := fun W => fFits_any q hq p W
      obtain ⟨c0, c1, c2⟩ := hpt
      have hq13 : (q : Int) < 13 := by omega
      unfold pv at hft
      have HFT := Lib.hid hft; have HST := Lib.hid hst; have HSP := Lib.hid hsp; have HL := Lib.hid hL; have HE2 := Lib.hid hE; have HX := Lib.hid hX; have HB := Lib.hid hB; have HQ := Lib.hid (And.intro eFB hne)
      clear hft hst hsp hL hE hX hB hf2 hf3 hB4 hleft eq ep hws eFB hne HW4 hk
      go_wp2_with fail
      refine (HFT.out _).mono ?_
      rintro e w5 ⟨rfl, hb5⟩
      have hB5 := HB.out.trans (hb5.mono HB.out.size)
      have hL5 := HL.out.on hb5
      have hE5 := HE2.out.on hb5
      have hX5 := HX.out.on hb5
      obtain ⟨eFB, hne⟩ := HQ.out
      clear HFT HL HE2 HX HB HQ hb5 c0 c1 c2 hcell
      cases hfit : fitsW q p
      · have hno := HSP.out hfit
        have HNO := Lib.hid hno; have HB5 := Lib.hid hB5
        clear hno HST HSP hB5 hL5 hE5 hX5 hne hfit
        go_wp2_with fail
        go_ret
        rw [← HANS.out]
        unfold rightT
        rw [HNO.out]
        exact ⟨rfl, HB5.out⟩
      · have hyes := HST.out hfit
        clear HST HSP hfit
        have hq13' : q < l.length := by omega
        have hqn : q < noneL.length := hq
        have hB6 := below_setCells (show w.heap.size ≤ L by omega) (pcs (noneL.getD q p0)) (q * 3) _ hB5
        have hL6 := hL5.setP q hq13' (noneL.getD q p0)
        have hrg := hE5.rangeP q hqn
        have hth := hL5.thereP q hq13'
        have HH := Lib.hid (And.intro hyes (And.intro hB6 (And.intro hL6 (And.intro hrg hth)))); have HE5 := Lib.hid hE5; have HX5 := Lib.hid hX5; have HNE := Lib.hid (And.intro eFB hne)
        clear hyes hB6 hL6 hrg hth hE5 hX5 hL5 hB5 hne eFB hq13' hqn
        go_upto_region 9 with fail
        refine wp_region_lit ?_
        iterate 3 (refine wpList_step (fun K hK => ?_); go_simp; refine hK _ _ ?_; clear hK K)
        refine wpList_load_mid rfl 77 _ rfl (L + 1) (q * 3) rfl _ _ HH.out.2.2.2.1 Tryd.underlying77 rfl (by kernel_rfl) ?_
        refine wpList_step (fun K hK => ?_)
        go_simp
        refine hK _ _ ?_
        clear hK K
        refine wpList_store_mid rfl 77 _ _ rfl L (q * 3) (pcs (noneL.getD q p0)).toArray rfl rfl HH.out.2.2.2.2 (by kernel_rfl) (all_oneCell_toArray (pcs_one _)) ?_
        refine wpList_nil ?_
        obtain ⟨hyes, hB6, hL6, -, -⟩ := HH.out
        have hE6 := HE5.out.farO (show L + 1 ≠ L by omega) (q * 3) (pcs (noneL.getD q p0))
        have hX6 := HX5.out.farO (show FB ≠ L by have := HNE.out.2; omega) (q * 3) (pcs (noneL.getD q p0))
        rename_i K hK
        refine hK _ _ ?_
        clear hK K
        change Code.wp Tryd.prog _ _ _ (w5.setCells L (q * 3) (pcs (noneL.getD q p0)))
        generalize w5.setCells L (q * 3) (pcs (noneL.getD q p0)) = W6 at hB6 hL6 hE6 hX6 ⊢
        have HR := Lib.hid (And.intro hyes (And.intro hL6 (And.intro hE6 (And.intro hX6 hB6))))
        clear hyes hB6 hL6 hE6 hX6 HH HE5 HX5 HNE
        go_wp2_with fail
        exact ⟨⟨k + 1, _, by omega, by simp, by rw [List.length_set]; exact hl13, HR.out.2.1, HR.out.2.2.1, HR.out.2.2.2.1, HR.out.1.symm, HR.out.2.2.2.2⟩, by simp [intOf]; omega⟩
    · obtain rfl : k = ws.length := by omega
      have hn : ¬ (ws.length : Int) < (ws.length : Int) := by omega
      rw [List.drop_length, leftW] at hleft
      have hres : (decide (l = noneL) && keysB ks) = ans := by rw [← HANS.out]; unfold rightT; rw [← hleft]
      have hP := HP.out.on hB
      have hc12 := hX.cell 12 _ HE.out.2
      have hre := fun W => run_eq_row l noneL hl13 rfl W
      unfold rowV at hre
      have HL := Lib.hid hL; have HE2 := Lib.hid hE; have HB := Lib.hid hB; have HRS := Lib.hid hres; have HP2 := Lib.hid hP; have EFB := Lib.hid eFB
      clear hL hE hX hB hres hP hf2 hf3 hB4 hleft hws eFB hne HW4 hk
      go_upto_region 11 with fail
      have hz1 : (Tryd.prog.info? 79).map (·.size) = some (Pc l).length := by rw [Pc_length, hl13]; kernel_rfl
      refine wp_region_lit ?_
      refine load_v rfl _ _ rfl L rfl HL.out Tryd.underlying79 rfl hz1 ?_
      refine load_v rfl _ _ rfl (L + 1) rfl HE2.out Tryd.underlying79 rfl (by kernel_rfl) ?_
      clear hz1 HL HE2
      cases hd : decide (l = noneL)
      all_goals
        rw [hd] at hre HRS
        clear hd
        go_wp2_with (go_at_call 44; refine (HAK.out _ HP2.out).mono ?_; rintro e w1 ⟨rfl, rfl⟩)
        go_ret
        rw [← HRS.out]
        exact ⟨rfl, EFB.out ▸ HB.out⟩
end Go.Proofs.YtdnjieffbgmagaaDoor
