/- The reference's Head: a frame's head. -/
import Derived.Test.YtollaaooinoafaaDoorSb
namespace Go.Proofs.YtollaaooinoafaaDoor
open Go.RowKit Go.Sort
set_option maxRecDepth 100000
theorem cat_run (x y : List UInt8) (h : x.length + y.length ≤ 100000) : (∀ W : World, (Op.stringOp .add (strL x) (strL y)).run Tryd.prog W = .ok (.string (strL (x ++ y))) W) ∧ (9223372036854775807 < (strL x).size + (strL y).size) = False := by
  refine ⟨fun W => ?_, by rw [strL_size, strL_size]; simp; omega⟩
  rw [run_string_add_sum W _ _ (by rw [strL_size, strL_size]; omega), strL_append]
theorem numB_le9 (n : Nat) (h : n < 18446744073709551616) : (numB n).length ≤ 9 := by rw [numB_length]; have := digL_len8 n h; omega
theorem tp_le (s : ByteArray) (h : s.size ≤ 1024) : (partB (tp s)).length ≤ 1033 := partB_le (tp s) ⟨by show 0 < _; omega, by show s.size ≤ maxLen; unfold maxLen; omega⟩ (by show (true && decide (1024 < s.size)) = false; rw [decide_eq_false (by omega)]; rfl)
/-- what a frame that may be has, in its sizes -/
structure FrSz (f : Fr) : Prop where
  kind : f.kind = 0 ∨ f.kind = 1 ∨ f.kind = 2
  ident : f.ident.size ≤ 1024
  base : f.base.size ≤ 1024
  ratchet : f.ratchet.size ≤ 1024
  body : f.body.size ≤ 1024
  klen : f.keys.length ≤ 32
  kall : ∀ k ∈ f.keys, k.size ≤ 1024
theorem no_key (l : List ByteArray) (h : l.length = 0) : ∀ k ∈ l, k.size ≤ 1024 := by rw [List.eq_nil_of_length_eq_zero h]; intro k hk; cases hk
theorem right_sz (f : Fr) (h : rightF f = true) : FrSz f := by
  unfold rightF at h
  split at h
  · rename_i h0
    simp only [Bool.and_eq_true, decide_eq_true_eq] at h
    exact ⟨Or.inl h0, by omega, by omega, by omega, by omega, by omega, no_key f.keys (by omega)⟩
  · split at h
    · rename_i h1
      split at h
      · rename_i h2
        simp only [Bool.and_eq_true, decide_eq_true_eq] at h
        exact ⟨Or.inr (Or.inl h2), by omega, by omega, by omega, by omega, by omega, no_key f.keys (by omega)⟩
      · simp only [Bool.and_eq_true, decide_eq_true_eq] at h
        exact ⟨Or.inr (Or.inr h.1.1.1.1.1.1), by omega, by omega, by omega, by omega, h.2, fun k hk => by have := List.all_eq_true.1 h.1.2 k hk; simp at this; omega⟩
    · simp at h
set_option maxHeartbeats 8000000 in
theorem r8Head_any (f : Fr) (a : Option Addr) (c : Nat) (hf : FrSz f) (hok : FrOk f) (w : World) :
    Calls Tryd.prog 15 #[frV f a c] w fun e w' => e = .returned (.string (strL (headF f))) ∧ Below w.heap.size w w' := by
  have hB0 : Below w.heap.size w (w.alloc (.cells (frC f a c) 25)) := (Below.refl _ _).alloc (Nat.le_refl _) _
  have hx := frBox w f a c 25
  have HLEN := Lib.hid (And.intro (numB_le9 f.frm hok.frm) (And.intro (numB_le9 f.dst hok.dst) (And.intro (numB_le9 f.id hok.id) (And.intro (numB_le9 f.signed hok.signed) (And.intro (numB_le9 f.once hok.once) (And.intro (numB_le9 f.prev hok.prev) (And.intro (numB_le9 f.num hok.num) (And.intro (tp_le f.ident hf.ident) (And.intro (tp_le f.base hf.base) (And.intro (tp_le f.ratchet hf.ratchet) (And.intro (numB_le9 0 (by omega)) (And.intro (numB_le9 1 (by omega)) (numB_le9 2 (by omega))))))))))))))
  have HN1 := Lib.hid (rNumber_any f.frm hok.frm); have HN2 := Lib.hid (rNumber_any f.dst hok.dst); have HN3 := Lib.hid (rNumber_any f.id hok.id); have HN4 := Lib.hid (rNumber_any f.signed hok.signed); have HN5 := Lib.hid (rNumber_any f.once hok.once); have HN6 := Lib.hid (rNumber_any f.prev hok.prev); have HN7 := Lib.hid (rNumber_any f.num hok.num)
  have HT1 := Lib.hid (r8text_any f.ident hf.ident); have HT2 := Lib.hid (r8text_any f.base hf.base); have HT3 := Lib.hid (r8text_any f.ratchet hf.ratchet)
  unfold frV
  simp only [frC] at hB0 hx ⊢
  obtain ⟨B, eB⟩ : ∃ B, w.heap.size = B := ⟨_, rfl⟩
  rcases hf.kind with hk | hk | hk
  · have HKD := Lib.hid hk
    have hk0 : ∀ W : World, Calls Tryd.prog 27 #[.int .u64 0] W fun e w' => e = .returned (.string (strL (numB 0))) ∧ Below W.heap.size W w' := fun W => rNumber_any 0 (by omega) W
    have HK0 := Lib.hid hk0
    have hw0 : IntKind.u64.wrap 0 = 0 := rfl
    rw [hk] at hB0 hx ⊢
    rw [eB] at hx
    have HB := Lib.hid hB0; have HX := Lib.hid hx
    clear hB0 hx hk0 hk
    go_enter Tryd.func15, Tryd.ntmps15
    go_upto_region 1 with fail
    clear eB
    generalize World.alloc w _ = V at HB HX ⊢
    have q0 := cell_regrown (show V.cell? ⟨B, 0, none⟩ = some (.int .i64 0) by rw [cell_of_row _ _ _ _ _ _ HX.out]; rfl)
    have q1 := cell_regrown (show V.cell? ⟨B, 1, none⟩ = some (.int .u64 (f.frm : Int)) by rw [cell_of_row _ _ _ _ _ _ HX.out]; rfl)
    have q2 := cell_regrown (show V.cell? ⟨B, 2, none⟩ = some (.int .u64 (f.dst : Int)) by rw [cell_of_row _ _ _ _ _ _ HX.out]; rfl)
    have q3 := cell_regrown (show V.cell? ⟨B, 3, none⟩ = some (.int .u64 (f.id : Int)) by rw [cell_of_row _ _ _ _ _ _ HX.out]; rfl)
    obtain ⟨u0, m0⟩ := cat_run (numB 0) (numB f.frm) (by (try simp only [List.length_append]); have := HLEN.out; omega)
    obtain ⟨u1, m1⟩ := cat_run (numB 0 ++ numB f.frm) (numB f.dst) (by (try simp only [List.length_append]); have := HLEN.out; omega)
    obtain ⟨u2, m2⟩ := cat_run (numB 0 ++ (numB f.frm ++ numB f.dst)) (numB f.id) (by (try simp only [List.length_append]); have := HLEN.out; omega)
    refine wp_region_quiet_below (by kernel_rfl) (by kernel_rfl) ?_
    iterate 17 (quiet_step (first | (go_at_call_of 27 (Value.int .u64 0); exact Calls.regrown_of (HK0.out _)) | (go_at_call_of 27 (Value.int .u64 (f.frm : Int)); exact Calls.regrown_of (HN1.out _)) | (go_at_call_of 27 (Value.int .u64 (f.dst : Int)); exact Calls.regrown_of (HN2.out _)) | (go_at_call_of 27 (Value.int .u64 (f.id : Int)); exact Calls.regrown_of (HN3.out _))))
    refine wpQuiet_nil ?_
    intro _ hw'
    obtain ⟨⟨dq, osq⟩, hw''⟩ := hw'
    subst hw''
    have hrg := below_regrown V dq osq
    have HX' := Lib.hid ((hrg.block B (Array.getElem?_eq_some_iff.1 HX.out).1).trans HX.out)
    have HB' := Lib.hid (HB.out.trans (hrg.mono HB.out.size))
    clear hrg HX HB q0 q1 q2 q3 u0 m0 u1 m1 u2 m2
    have HX := HX'
    have HB := HB'
    clear HX' HB'
    generalize grow (redrawn V dq) osq = V1 at HX HB ⊢
    have z0 : V1.cell? ⟨B, 0, none⟩ = some (.int .i64 0) := by rw [cell_of_row _ _ _ _ _ _ HX.out]; rfl
    go_upto_region 3 with fail
    have q4 := cell_regrown (show V1.cell? ⟨B, 4, none⟩ = some (.string f.ident) by rw [cell_of_row _ _ _ _ _ _ HX.out]; rfl)
    have q5 := cell_regrown (show V1.cell? ⟨B, 5, none⟩ = some (.string f.base) by rw [cell_of_row _ _ _ _ _ _ HX.out]; rfl)
    have q6 := cell_regrown (show V1.cell? ⟨B, 6, none⟩ = some (.int .u64 (f.signed : Int)) by rw [cell_of_row _ _ _ _ _ _ HX.out]; rfl)
    have q7 := cell_regrown (show V1.cell? ⟨B, 7, none⟩ = some (.int .u64 (f.once : Int)) by rw [cell_of_row _ _ _ _ _ _ HX.out]; rfl)
    obtain ⟨u0, m0⟩ := cat_run (numB 0 ++ (numB f.frm ++ (numB f.dst ++ numB f.id))) (partB (tp f.ident)) (by (try simp only [List.length_append]); have := HLEN.out; omega)
    obtain ⟨u1, m1⟩ := cat_run (numB 0 ++ (numB f.frm ++ (numB f.dst ++ (numB f.id ++ partB (tp f.ident))))) (partB (tp f.base)) (by (try simp only [List.length_append]); have := HLEN.out; omega)
    obtain ⟨u2, m2⟩ := cat_run (numB 0 ++ (numB f.frm ++ (numB f.dst ++ (numB f.id ++ (partB (tp f.ident) ++ partB (tp f.base)))))) (numB f.signed) (by (try simp only [List.length_append]); have := HLEN.out; omega)
    obtain ⟨u3, m3⟩ := cat_run (numB 0 ++ (numB f.frm ++ (numB f.dst ++ (numB f.id ++ (partB (tp f.ident) ++ (partB (tp f.base) ++ numB f.signed)))))) (numB f.once) (by (try simp only [List.length_append]); have := HLEN.out; omega)
    refine wp_region_quiet_below (by kernel_rfl) (by kernel_rfl) ?_
    iterate 18 (quiet_step (first | (go_at_call_of 26 (Value.string f.ident); exact Calls.regrown_of (HT1.out _)) | (go_at_call_of 26 (Value.string f.base); exact Calls.regrown_of (HT2.out _)) | (go_at_call_of 27 (Value.int .u64 (f.signed : Int)); exact Calls.regrown_of (HN4.out _)) | (go_at_call_of 27 (Value.int .u64 (f.once : Int)); exact Calls.regrown_of (HN5.out _))))
    refine wpQuiet_nil ?_
    intro _ hw'
    obtain ⟨⟨dq, osq⟩, hw''⟩ := hw'
    subst hw''
    have hrg := below_regrown V1 dq osq
    have HX' := Lib.hid ((hrg.block B (Array.getElem?_eq_some_iff.1 HX.out).1).trans HX.out)
    have HB' := Lib.hid (HB.out.trans (hrg.mono HB.out.size))
    clear z0 hrg HX HB q4 q5 q6 q7 u0 m0 u1 m1 u2 m2 u3 m3
    have HX := HX'
    have HB := HB'
    clear HX' HB'
    generalize grow (redrawn V1 dq) osq = V2 at HX HB ⊢
    have z0 : V2.cell? ⟨B, 0, none⟩ = some (.int .i64 0) := by rw [cell_of_row _ _ _ _ _ _ HX.out]; rfl
    go_upto_region 5 with fail
    have q8 := cell_regrown (show V2.cell? ⟨B, 8, none⟩ = some (.string f.ratchet) by rw [cell_of_row _ _ _ _ _ _ HX.out]; rfl)
    have q9 := cell_regrown (show V2.cell? ⟨B, 9, none⟩ = some (.int .u64 (f.prev : Int)) by rw [cell_of_row _ _ _ _ _ _ HX.out]; rfl)
    have q10 := cell_regrown (show V2.cell? ⟨B, 10, none⟩ = some (.int .u64 (f.num : Int)) by rw [cell_of_row _ _ _ _ _ _ HX.out]; rfl)
    obtain ⟨u0, m0⟩ := cat_run (numB 0 ++ (numB f.frm ++ (numB f.dst ++ (numB f.id ++ (partB (tp f.ident) ++ (partB (tp f.base) ++ (numB f.signed ++ numB f.once))))))) (partB (tp f.ratchet)) (by (try simp only [List.length_append]); have := HLEN.out; omega)
    obtain ⟨u1, m1⟩ := cat_run (numB 0 ++ (numB f.frm ++ (numB f.dst ++ (numB f.id ++ (partB (tp f.ident) ++ (partB (tp f.base) ++ (numB f.signed ++ (numB f.once ++ partB (tp f.ratchet))))))))) (numB f.prev) (by (try simp only [List.length_append]); have := HLEN.out; omega)
    obtain ⟨u2, m2⟩ := cat_run (numB 0 ++ (numB f.frm ++ (numB f.dst ++ (numB f.id ++ (partB (tp f.ident) ++ (partB (tp f.base) ++ (numB f.signed ++ (numB f.once ++ (partB (tp f.ratchet) ++ numB f.prev))))))))) (numB f.num) (by (try simp only [List.length_append]); have := HLEN.out; omega)
    refine wp_region_quiet_below (by kernel_rfl) (by kernel_rfl) ?_
    iterate 14 (quiet_step (first | (go_at_call_of 26 (Value.string f.ratchet); exact Calls.regrown_of (HT3.out _)) | (go_at_call_of 27 (Value.int .u64 (f.prev : Int)); exact Calls.regrown_of (HN6.out _)) | (go_at_call_of 27 (Value.int .u64 (f.num : Int)); exact Calls.regrown_of (HN7.out _))))
    refine wpQuiet_nil ?_
    intro _ hw'
    obtain ⟨⟨dq, osq⟩, hw''⟩ := hw'
    subst hw''
    have hrg := below_regrown V2 dq osq
    have HX' := Lib.hid ((hrg.block B (Array.getElem?_eq_some_iff.1 HX.out).1).trans HX.out)
    have HB' := Lib.hid (HB.out.trans (hrg.mono HB.out.size))
    clear z0 hrg HX HB q8 q9 q10 u0 m0 u1 m1 u2 m2
    have HX := HX'
    have HB := HB'
    clear HX' HB'
    generalize grow (redrawn V2 dq) osq = V3 at HX HB ⊢
    go_wp2_with fail
    go_ret
    refine ⟨?_, HB.out⟩
    have e : headF f = numB 0 ++ (numB f.frm ++ (numB f.dst ++ (numB f.id ++ (partB (tp f.ident) ++ (partB (tp f.base) ++ (numB f.signed ++ (numB f.once ++ (partB (tp f.ratchet) ++ (numB f.prev ++ numB f.num))))))))) := by unfold headF headP; rw [HKD.out]; simp [packL, partB, np, tp]
    rw [e]; rfl
  · have HKD := Lib.hid hk
    have hk0 : ∀ W : World, Calls Tryd.prog 27 #[.int .u64 1] W fun e w' => e = .returned (.string (strL (numB 1))) ∧ Below W.heap.size W w' := fun W => rNumber_any 1 (by omega) W
    have HK0 := Lib.hid hk0
    have hw0 : IntKind.u64.wrap 1 = 1 := rfl
    rw [hk] at hB0 hx ⊢
    rw [eB] at hx
    have HB := Lib.hid hB0; have HX := Lib.hid hx
    clear hB0 hx hk0 hk
    go_enter Tryd.func15, Tryd.ntmps15
    go_upto_region 1 with fail
    clear eB
    generalize World.alloc w _ = V at HB HX ⊢
    have q0 := cell_regrown (show V.cell? ⟨B, 0, none⟩ = some (.int .i64 1) by rw [cell_of_row _ _ _ _ _ _ HX.out]; rfl)
    have q1 := cell_regrown (show V.cell? ⟨B, 1, none⟩ = some (.int .u64 (f.frm : Int)) by rw [cell_of_row _ _ _ _ _ _ HX.out]; rfl)
    have q2 := cell_regrown (show V.cell? ⟨B, 2, none⟩ = some (.int .u64 (f.dst : Int)) by rw [cell_of_row _ _ _ _ _ _ HX.out]; rfl)
    have q3 := cell_regrown (show V.cell? ⟨B, 3, none⟩ = some (.int .u64 (f.id : Int)) by rw [cell_of_row _ _ _ _ _ _ HX.out]; rfl)
    obtain ⟨u0, m0⟩ := cat_run (numB 1) (numB f.frm) (by (try simp only [List.length_append]); have := HLEN.out; omega)
    obtain ⟨u1, m1⟩ := cat_run (numB 1 ++ numB f.frm) (numB f.dst) (by (try simp only [List.length_append]); have := HLEN.out; omega)
    obtain ⟨u2, m2⟩ := cat_run (numB 1 ++ (numB f.frm ++ numB f.dst)) (numB f.id) (by (try simp only [List.length_append]); have := HLEN.out; omega)
    refine wp_region_quiet_below (by kernel_rfl) (by kernel_rfl) ?_
    iterate 17 (quiet_step (first | (go_at_call_of 27 (Value.int .u64 1); exact Calls.regrown_of (HK0.out _)) | (go_at_call_of 27 (Value.int .u64 (f.frm : Int)); exact Calls.regrown_of (HN1.out _)) | (go_at_call_of 27 (Value.int .u64 (f.dst : Int)); exact Calls.regrown_of (HN2.out _)) | (go_at_call_of 27 (Value.int .u64 (f.id : Int)); exact Calls.regrown_of (HN3.out _))))
    refine wpQuiet_nil ?_
    intro _ hw'
    obtain ⟨⟨dq, osq⟩, hw''⟩ := hw'
    subst hw''
    have hrg := below_regrown V dq osq
    have HX' := Lib.hid ((hrg.block B (Array.getElem?_eq_some_iff.1 HX.out).1).trans HX.out)
    have HB' := Lib.hid (HB.out.trans (hrg.mono HB.out.size))
    clear hrg HX HB q0 q1 q2 q3 u0 m0 u1 m1 u2 m2
    have HX := HX'
    have HB := HB'
    clear HX' HB'
    generalize grow (redrawn V dq) osq = V1 at HX HB ⊢
    have z0 : V1.cell? ⟨B, 0, none⟩ = some (.int .i64 1) := by rw [cell_of_row _ _ _ _ _ _ HX.out]; rfl
    go_upto_region 5 with fail
    have q8 := cell_regrown (show V1.cell? ⟨B, 8, none⟩ = some (.string f.ratchet) by rw [cell_of_row _ _ _ _ _ _ HX.out]; rfl)
    have q9 := cell_regrown (show V1.cell? ⟨B, 9, none⟩ = some (.int .u64 (f.prev : Int)) by rw [cell_of_row _ _ _ _ _ _ HX.out]; rfl)
    have q10 := cell_regrown (show V1.cell? ⟨B, 10, none⟩ = some (.int .u64 (f.num : Int)) by rw [cell_of_row _ _ _ _ _ _ HX.out]; rfl)
    obtain ⟨u0, m0⟩ := cat_run (numB 1 ++ (numB f.frm ++ (numB f.dst ++ numB f.id))) (partB (tp f.ratchet)) (by (try simp only [List.length_append]); have := HLEN.out; omega)
    obtain ⟨u1, m1⟩ := cat_run (numB 1 ++ (numB f.frm ++ (numB f.dst ++ (numB f.id ++ partB (tp f.ratchet))))) (numB f.prev) (by (try simp only [List.length_append]); have := HLEN.out; omega)
    obtain ⟨u2, m2⟩ := cat_run (numB 1 ++ (numB f.frm ++ (numB f.dst ++ (numB f.id ++ (partB (tp f.ratchet) ++ numB f.prev))))) (numB f.num) (by (try simp only [List.length_append]); have := HLEN.out; omega)
    refine wp_region_quiet_below (by kernel_rfl) (by kernel_rfl) ?_
    iterate 14 (quiet_step (first | (go_at_call_of 26 (Value.string f.ratchet); exact Calls.regrown_of (HT3.out _)) | (go_at_call_of 27 (Value.int .u64 (f.prev : Int)); exact Calls.regrown_of (HN6.out _)) | (go_at_call_of 27 (Value.int .u64 (f.num : Int)); exact Calls.regrown_of (HN7.out _))))
    refine wpQuiet_nil ?_
    intro _ hw'
    obtain ⟨⟨dq, osq⟩, hw''⟩ := hw'
    subst hw''
    have hrg := below_regrown V1 dq osq
    have HX' := Lib.hid ((hrg.block B (Array.getElem?_eq_some_iff.1 HX.out).1).trans HX.out)
    have HB' := Lib.hid (HB.out.trans (hrg.mono HB.out.size))
    clear z0 hrg HX HB q8 q9 q10 u0 m0 u1 m1 u2 m2
    have HX := HX'
    have HB := HB'
    clear HX' HB'
    generalize grow (redrawn V1 dq) osq = V3 at HX HB ⊢
    go_wp2_with fail
    go_ret
    refine ⟨?_, HB.out⟩
    have e : headF f = numB 1 ++ (numB f.frm ++ (numB f.dst ++ (numB f.id ++ (partB (tp f.ratchet) ++ (numB f.prev ++ numB f.num))))) := by unfold headF headP; rw [HKD.out]; simp [packL, partB, np, tp]
    rw [e]; rfl
  · have HKD := Lib.hid hk
    have hk0 : ∀ W : World, Calls Tryd.prog 27 #[.int .u64 2] W fun e w' => e = .returned (.string (strL (numB 2))) ∧ Below W.heap.size W w' := fun W => rNumber_any 2 (by omega) W
    have HK0 := Lib.hid hk0
    have hw0 : IntKind.u64.wrap 2 = 2 := rfl
    rw [hk] at hB0 hx ⊢
    rw [eB] at hx
    have HB := Lib.hid hB0; have HX := Lib.hid hx
    clear hB0 hx hk0 hk
    go_enter Tryd.func15, Tryd.ntmps15
    go_upto_region 1 with fail
    clear eB
    generalize World.alloc w _ = V at HB HX ⊢
    have q0 := cell_regrown (show V.cell? ⟨B, 0, none⟩ = some (.int .i64 2) by rw [cell_of_row _ _ _ _ _ _ HX.out]; rfl)
    have q1 := cell_regrown (show V.cell? ⟨B, 1, none⟩ = some (.int .u64 (f.frm : Int)) by rw [cell_of_row _ _ _ _ _ _ HX.out]; rfl)
    have q2 := cell_regrown (show V.cell? ⟨B, 2, none⟩ = some (.int .u64 (f.dst : Int)) by rw [cell_of_row _ _ _ _ _ _ HX.out]; rfl)
    have q3 := cell_regrown (show V.cell? ⟨B, 3, none⟩ = some (.int .u64 (f.id : Int)) by rw [cell_of_row _ _ _ _ _ _ HX.out]; rfl)
    obtain ⟨u0, m0⟩ := cat_run (numB 2) (numB f.frm) (by (try simp only [List.length_append]); have := HLEN.out; omega)
    obtain ⟨u1, m1⟩ := cat_run (numB 2 ++ numB f.frm) (numB f.dst) (by (try simp only [List.length_append]); have := HLEN.out; omega)
    obtain ⟨u2, m2⟩ := cat_run (numB 2 ++ (numB f.frm ++ numB f.dst)) (numB f.id) (by (try simp only [List.length_append]); have := HLEN.out; omega)
    refine wp_region_quiet_below (by kernel_rfl) (by kernel_rfl) ?_
    iterate 17 (quiet_step (first | (go_at_call_of 27 (Value.int .u64 2); exact Calls.regrown_of (HK0.out _)) | (go_at_call_of 27 (Value.int .u64 (f.frm : Int)); exact Calls.regrown_of (HN1.out _)) | (go_at_call_of 27 (Value.int .u64 (f.dst : Int)); exact Calls.regrown_of (HN2.out _)) | (go_at_call_of 27 (Value.int .u64 (f.id : Int)); exact Calls.regrown_of (HN3.out _))))
    refine wpQuiet_nil ?_
    intro _ hw'
    obtain ⟨⟨dq, osq⟩, hw''⟩ := hw'
    subst hw''
    have hrg := below_regrown V dq osq
    have HX' := Lib.hid ((hrg.block B (Array.getElem?_eq_some_iff.1 HX.out).1).trans HX.out)
    have HB' := Lib.hid (HB.out.trans (hrg.mono HB.out.size))
    clear hrg HX HB q0 q1 q2 q3 u0 m0 u1 m1 u2 m2
    have HX := HX'
    have HB := HB'
    clear HX' HB'
    generalize grow (redrawn V dq) osq = V1 at HX HB ⊢
    have z0 : V1.cell? ⟨B, 0, none⟩ = some (.int .i64 2) := by rw [cell_of_row _ _ _ _ _ _ HX.out]; rfl
    go_wp2_with fail
    go_ret
    refine ⟨?_, HB.out⟩
    have e : headF f = numB 2 ++ (numB f.frm ++ (numB f.dst ++ numB f.id)) := by unfold headF headP; rw [HKD.out]; simp [packL, partB, np]
    rw [e]; rfl
end Go.Proofs.YtollaaooinoafaaDoor