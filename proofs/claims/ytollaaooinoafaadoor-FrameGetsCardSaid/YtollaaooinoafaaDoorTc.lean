/- The package frame's rows: rowOf, a row as a frame, and whether two rows are the same. -/
import Derived.Test.YtollaaooinoafaaDoorTb
import Derived.Test.YtollaaooinoafaaDoorQl
import Derived.Laws.StructEq
namespace Go.Proofs.YtollaaooinoafaaDoor
open Go.RowKit Go.Sort
set_option maxRecDepth 100000
def rowV (l : List Pt) : Value := .agg (Pc l).toArray
theorem wrap_kind (k : Int) : IntKind.u64.wrap k = ((k % 18446744073709551616).toNat : Int) := by rw [IntKind.wrap_u64]; omega
set_option maxHeartbeats 4000000 in
theorem rowOf_any (f : Fr) (a : Option Addr) (c : Nat) (hl : f.keys.length ≤ maxLen) (w : World) :
    Calls Tryd.prog 21 #[frV f a c] w fun e w' => e = .returned (rowV (rowL f)) ∧ Below w.heap.size w w' := by
  have hB0 : Below w.heap.size w ((w.alloc (.cells (frC f a c) 25)).alloc (.cells #[.bool false, .int .u64 0, .string ⟨#[]⟩, .bool false, .int .u64 0, .string ⟨#[]⟩, .bool false, .int .u64 0, .string ⟨#[]⟩, .bool false, .int .u64 0, .string ⟨#[]⟩, .bool false, .int .u64 0, .string ⟨#[]⟩, .bool false, .int .u64 0, .string ⟨#[]⟩, .bool false, .int .u64 0, .string ⟨#[]⟩, .bool false, .int .u64 0, .string ⟨#[]⟩, .bool false, .int .u64 0, .string ⟨#[]⟩, .bool false, .int .u64 0, .string ⟨#[]⟩, .bool false, .int .u64 0, .string ⟨#[]⟩, .bool false, .int .u64 0, .string ⟨#[]⟩, .bool false, .int .u64 0, .string ⟨#[]⟩] 50)) := by go_grown
  have hx0 := frBox w f a c 25
  have hs0 : (w.alloc (.cells (frC f a c) 25)).heap.size = w.heap.size + 1 := by simp
  have hx := frBox_old (obj := .cells #[.bool false, .int .u64 0, .string ⟨#[]⟩, .bool false, .int .u64 0, .string ⟨#[]⟩, .bool false, .int .u64 0, .string ⟨#[]⟩, .bool false, .int .u64 0, .string ⟨#[]⟩, .bool false, .int .u64 0, .string ⟨#[]⟩, .bool false, .int .u64 0, .string ⟨#[]⟩, .bool false, .int .u64 0, .string ⟨#[]⟩, .bool false, .int .u64 0, .string ⟨#[]⟩, .bool false, .int .u64 0, .string ⟨#[]⟩, .bool false, .int .u64 0, .string ⟨#[]⟩, .bool false, .int .u64 0, .string ⟨#[]⟩, .bool false, .int .u64 0, .string ⟨#[]⟩, .bool false, .int .u64 0, .string ⟨#[]⟩] 50) hx0
  have hR : BlkV ((w.alloc (.cells (frC f a c) 25)).alloc (.cells #[.bool false, .int .u64 0, .string ⟨#[]⟩, .bool false, .int .u64 0, .string ⟨#[]⟩, .bool false, .int .u64 0, .string ⟨#[]⟩, .bool false, .int .u64 0, .string ⟨#[]⟩, .bool false, .int .u64 0, .string ⟨#[]⟩, .bool false, .int .u64 0, .string ⟨#[]⟩, .bool false, .int .u64 0, .string ⟨#[]⟩, .bool false, .int .u64 0, .string ⟨#[]⟩, .bool false, .int .u64 0, .string ⟨#[]⟩, .bool false, .int .u64 0, .string ⟨#[]⟩, .bool false, .int .u64 0, .string ⟨#[]⟩, .bool false, .int .u64 0, .string ⟨#[]⟩, .bool false, .int .u64 0, .string ⟨#[]⟩] 50)) (w.heap.size + 1) 50 (Pc blank) := BlkV.fresh _ _ _ _ rfl _ hs0.symm
  obtain ⟨kd, fm, dt, fi, it, bs, sg, oc, rt, pv', nm, bd, ks⟩ := f
  unfold frV
  simp only [frC] at hB0 hx hR hl ⊢
  obtain ⟨kn, ekn⟩ : ∃ kn, (kd % 18446744073709551616).toNat = kn := ⟨_, rfl⟩
  have hwk : IntKind.u64.wrap kd = (kn : Int) := by rw [← ekn]; exact wrap_kind kd
  have EKN := Lib.hid ekn
  clear ekn
  have hwl : IntKind.u64.wrap (ks.length : Int) = (ks.length : Int) := by rw [IntKind.wrap_u64]; unfold maxLen at hl; omega
  have HB := Lib.hid hB0; have HX := Lib.hid hx; have HR := Lib.hid hR
  clear hB0 hx hx0 hR hs0 hl
  have HC0 : Hid (∀ W : World, Calls Tryd.prog 36 #[.int .u64 (kn : Int)] W fun e w' => e = .returned (.agg #[.bool false, .int .u64 (kn : Int), .string ⟨#[]⟩]) ∧ Below W.heap.size W w') := Lib.hid (fun W => fNumber_any kn W)
  have HC1 : Hid (∀ W : World, Calls Tryd.prog 36 #[.int .u64 (fm : Int)] W fun e w' => e = .returned (.agg #[.bool false, .int .u64 (fm : Int), .string ⟨#[]⟩]) ∧ Below W.heap.size W w') := Lib.hid (fun W => fNumber_any fm W)
  have HC2 : Hid (∀ W : World, Calls Tryd.prog 36 #[.int .u64 (dt : Int)] W fun e w' => e = .returned (.agg #[.bool false, .int .u64 (dt : Int), .string ⟨#[]⟩]) ∧ Below W.heap.size W w') := Lib.hid (fun W => fNumber_any dt W)
  have HC3 : Hid (∀ W : World, Calls Tryd.prog 36 #[.int .u64 (fi : Int)] W fun e w' => e = .returned (.agg #[.bool false, .int .u64 (fi : Int), .string ⟨#[]⟩]) ∧ Below W.heap.size W w') := Lib.hid (fun W => fNumber_any fi W)
  have HC4 : Hid (∀ W : World, Calls Tryd.prog 35 #[.string it] W fun e w' => e = .returned (.agg #[.bool true, .int .u64 0, .string it]) ∧ Below W.heap.size W w') := Lib.hid (fun W => fText_any it W)
  have HC5 : Hid (∀ W : World, Calls Tryd.prog 35 #[.string bs] W fun e w' => e = .returned (.agg #[.bool true, .int .u64 0, .string bs]) ∧ Below W.heap.size W w') := Lib.hid (fun W => fText_any bs W)
  have HC6 : Hid (∀ W : World, Calls Tryd.prog 36 #[.int .u64 (sg : Int)] W fun e w' => e = .returned (.agg #[.bool false, .int .u64 (sg : Int), .string ⟨#[]⟩]) ∧ Below W.heap.size W w') := Lib.hid (fun W => fNumber_any sg W)
  have HC7 : Hid (∀ W : World, Calls Tryd.prog 36 #[.int .u64 (oc : Int)] W fun e w' => e = .returned (.agg #[.bool false, .int .u64 (oc : Int), .string ⟨#[]⟩]) ∧ Below W.heap.size W w') := Lib.hid (fun W => fNumber_any oc W)
  have HC8 : Hid (∀ W : World, Calls Tryd.prog 35 #[.string rt] W fun e w' => e = .returned (.agg #[.bool true, .int .u64 0, .string rt]) ∧ Below W.heap.size W w') := Lib.hid (fun W => fText_any rt W)
  have HC9 : Hid (∀ W : World, Calls Tryd.prog 36 #[.int .u64 (pv' : Int)] W fun e w' => e = .returned (.agg #[.bool false, .int .u64 (pv' : Int), .string ⟨#[]⟩]) ∧ Below W.heap.size W w') := Lib.hid (fun W => fNumber_any pv' W)
  have HC10 : Hid (∀ W : World, Calls Tryd.prog 36 #[.int .u64 (nm : Int)] W fun e w' => e = .returned (.agg #[.bool false, .int .u64 (nm : Int), .string ⟨#[]⟩]) ∧ Below W.heap.size W w') := Lib.hid (fun W => fNumber_any nm W)
  have HC11 : Hid (∀ W : World, Calls Tryd.prog 35 #[.string bd] W fun e w' => e = .returned (.agg #[.bool true, .int .u64 0, .string bd]) ∧ Below W.heap.size W w') := Lib.hid (fun W => fText_any bd W)
  have HC12 : Hid (∀ W : World, Calls Tryd.prog 36 #[.int .u64 (ks.length : Int)] W fun e w' => e = .returned (.agg #[.bool false, .int .u64 (ks.length : Int), .string ⟨#[]⟩]) ∧ Below W.heap.size W w') := Lib.hid (fun W => fNumber_any ks.length W)
  go_enter Tryd.func21, Tryd.ntmps21
  go_upto_region 1 with fail
  generalize World.alloc (World.alloc w _) _ = V at HB HX HR ⊢
  have q0 := cell_regrown (show V.cell? ⟨w.heap.size, 0, none⟩ = some (.int .i64 kd) by rw [cell_of_row _ _ _ _ _ _ HX.out]; rfl)
  have q1 := cell_regrown (show V.cell? ⟨w.heap.size, 1, none⟩ = some (.int .u64 (fm : Int)) by rw [cell_of_row _ _ _ _ _ _ HX.out]; rfl)
  have q2 := cell_regrown (show V.cell? ⟨w.heap.size, 2, none⟩ = some (.int .u64 (dt : Int)) by rw [cell_of_row _ _ _ _ _ _ HX.out]; rfl)
  have q3 := cell_regrown (show V.cell? ⟨w.heap.size, 3, none⟩ = some (.int .u64 (fi : Int)) by rw [cell_of_row _ _ _ _ _ _ HX.out]; rfl)
  have q4 := cell_regrown (show V.cell? ⟨w.heap.size, 4, none⟩ = some (.string it) by rw [cell_of_row _ _ _ _ _ _ HX.out]; rfl)
  have q5 := cell_regrown (show V.cell? ⟨w.heap.size, 5, none⟩ = some (.string bs) by rw [cell_of_row _ _ _ _ _ _ HX.out]; rfl)
  have q6 := cell_regrown (show V.cell? ⟨w.heap.size, 6, none⟩ = some (.int .u64 (sg : Int)) by rw [cell_of_row _ _ _ _ _ _ HX.out]; rfl)
  have q7 := cell_regrown (show V.cell? ⟨w.heap.size, 7, none⟩ = some (.int .u64 (oc : Int)) by rw [cell_of_row _ _ _ _ _ _ HX.out]; rfl)
  have q8 := cell_regrown (show V.cell? ⟨w.heap.size, 8, none⟩ = some (.string rt) by rw [cell_of_row _ _ _ _ _ _ HX.out]; rfl)
  have q9 := cell_regrown (show V.cell? ⟨w.heap.size, 9, none⟩ = some (.int .u64 (pv' : Int)) by rw [cell_of_row _ _ _ _ _ _ HX.out]; rfl)
  have q10 := cell_regrown (show V.cell? ⟨w.heap.size, 10, none⟩ = some (.int .u64 (nm : Int)) by rw [cell_of_row _ _ _ _ _ _ HX.out]; rfl)
  have q11 := cell_regrown (show V.cell? ⟨w.heap.size, 11, none⟩ = some (.string bd) by rw [cell_of_row _ _ _ _ _ _ HX.out]; rfl)
  have q12 := cell_regrown (show V.cell? ⟨w.heap.size, 12, none⟩ = some (.slice a ks.length c) by rw [cell_of_row _ _ _ _ _ _ HX.out]; rfl)
  refine wp_region_last_below 43 _ (by kernel_rfl) rfl rfl rfl rfl (by kernel_rfl) (by kernel_rfl) ?_
  simp only [List.take_succ_cons, List.take_zero]
  iterate 43 (quiet_step (first | (go_at_call_of 36 (Value.int .u64 (kn : Int)); exact Calls.regrown_of (HC0.out _)) | (go_at_call_of 36 (Value.int .u64 (fm : Int)); exact Calls.regrown_of (HC1.out _)) | (go_at_call_of 36 (Value.int .u64 (dt : Int)); exact Calls.regrown_of (HC2.out _)) | (go_at_call_of 36 (Value.int .u64 (fi : Int)); exact Calls.regrown_of (HC3.out _)) | (go_at_call_of 35 (Value.string it); exact Calls.regrown_of (HC4.out _)) | (go_at_call_of 35 (Value.string bs); exact Calls.regrown_of (HC5.out _)) | (go_at_call_of 36 (Value.int .u64 (sg : Int)); exact Calls.regrown_of (HC6.out _)) | (go_at_call_of 36 (Value.int .u64 (oc : Int)); exact Calls.regrown_of (HC7.out _)) | (go_at_call_of 35 (Value.string rt); exact Calls.regrown_of (HC8.out _)) | (go_at_call_of 36 (Value.int .u64 (pv' : Int)); exact Calls.regrown_of (HC9.out _)) | (go_at_call_of 36 (Value.int .u64 (nm : Int)); exact Calls.regrown_of (HC10.out _)) | (go_at_call_of 35 (Value.string bd); exact Calls.regrown_of (HC11.out _)) | (go_at_call_of 36 (Value.int .u64 (ks.length : Int)); exact Calls.regrown_of (HC12.out _))))
  refine wpQuiet_nil ?_
  intro _ hw'
  obtain ⟨⟨dq, osq⟩, hw''⟩ := hw'
  subst hw''
  have hrg := below_regrown V dq osq
  have HR' := Lib.hid (HR.out.on hrg)
  have HB' := Lib.hid (HB.out.trans (hrg.mono HB.out.size))
  clear hrg HX HB HR q0 q1 q2 q3 q4 q5 q6 q7 q8 q9 q10 q11 q12 HC0 HC1 HC2 HC3 HC4 HC5 HC6 HC7 HC8 HC9 HC10 HC11 HC12
  generalize grow (redrawn V dq) osq = V1 at HR' HB' ⊢
  obtain ⟨R, eR⟩ : ∃ R : List Pt, [np kn, np fm, np dt, np fi, tp it, tp bs, np sg, np oc, tp rt, np pv', np nm, tp bd, np ks.length] = R := ⟨_, rfl⟩
  have hRl : (Pc R).length = (Pc blank).length := by rw [← eR]; rfl
  refine store_v rfl rfl _ _ _ rfl (w.heap.size + 1) rfl (l' := Pc R) (by rw [← eR]; rfl) HR'.out hRl (Pc_one R) (by kernel_rfl) ?_
  refine wpList_nil ?_
  have hF := HR'.out.stored (Pc R) hRl
  have hBF := below_setCells (show w.heap.size ≤ w.heap.size + 1 by omega) (Pc R) 0 _ HB'.out
  generalize World.setCells V1 _ _ _ = W at hF hBF ⊢
  rename_i K hK
  refine hK _ _ ?_
  refine wp_ret ?_
  refine bodyPost_ret (results_v (p := 2) (T := 50) (by kernel_rfl) _ _ (w.heap.size + 1) rfl hF Tryd.underlying50 rfl (by rw [hRl]; kernel_rfl)) rfl ⟨?_, hBF⟩
  rw [← eR, ← EKN.out]
  rfl
end Go.Proofs.YtollaaooinoafaaDoor