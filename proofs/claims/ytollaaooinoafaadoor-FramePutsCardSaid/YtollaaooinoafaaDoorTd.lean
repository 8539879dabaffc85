/- The package frame's row as a frame; whether two rows are the same. -/
import Derived.Test.YtollaaooinoafaaDoorTc
namespace Go.Proofs.YtollaaooinoafaaDoor
open Go.RowKit Go.Sort
set_option maxRecDepth 100000
set_option maxHeartbeats 2000000 in
theorem rowFrame_any (r : List Pt) (hr : r.length = 13) (ks : List ByteArray) (a : Option Addr) (c : Nat) (w : World) :
    Calls Tryd.prog 43 #[rowV r, .slice a ks.length c] w fun e w' => e = .returned (frV (frameR r ks) a c) ∧ Below w.heap.size w w' := by
  obtain ⟨V0, eV0⟩ : ∃ V0, w.alloc (.cells (Pc r).toArray 50) = V0 := ⟨_, rfl⟩
  obtain ⟨V, eV⟩ : ∃ V, V0.alloc (.cells #[.int .i64 0, .int .u64 0, .int .u64 0, .int .u64 0, .string ⟨#[]⟩, .string ⟨#[]⟩, .int .u64 0, .int .u64 0, .string ⟨#[]⟩, .int .u64 0, .int .u64 0, .string ⟨#[]⟩, .slice none 0 0] 25) = V := ⟨_, rfl⟩
  have hs0 : V0.heap.size = w.heap.size + 1 := by rw [← eV0]; simp
  have hB0 : Below w.heap.size w V := by rw [← eV, ← eV0]; go_grown
  have hS0 : BlkV V0 w.heap.size 50 (Pc r) := by rw [← eV0]; exact BlkV.fresh _ _ _ _ rfl _ rfl
  have hS : BlkV V w.heap.size 50 (Pc r) := by rw [← eV]; exact hS0.alloc _
  have hR : BlkV V (w.heap.size + 1) 25 zeroL := by rw [← eV]; exact BlkV.fresh _ _ _ _ rfl _ hs0.symm
  have HB := Lib.hid hB0; have HR := Lib.hid hR
  have q0 : V.cell? ⟨w.heap.size, 1, none⟩ = some (.int .u64 (gN r 0 : Int)) := hS.cell 1 _ (Pc_get r 0 (by omega)).2.1
  have q1 : V.cell? ⟨w.heap.size, 4, none⟩ = some (.int .u64 (gN r 1 : Int)) := hS.cell 4 _ (Pc_get r 1 (by omega)).2.1
  have q2 : V.cell? ⟨w.heap.size, 7, none⟩ = some (.int .u64 (gN r 2 : Int)) := hS.cell 7 _ (Pc_get r 2 (by omega)).2.1
  have q3 : V.cell? ⟨w.heap.size, 10, none⟩ = some (.int .u64 (gN r 3 : Int)) := hS.cell 10 _ (Pc_get r 3 (by omega)).2.1
  have q4 : V.cell? ⟨w.heap.size, 14, none⟩ = some (.string (gS r 4)) := hS.cell 14 _ (Pc_get r 4 (by omega)).2.2
  have q5 : V.cell? ⟨w.heap.size, 17, none⟩ = some (.string (gS r 5)) := hS.cell 17 _ (Pc_get r 5 (by omega)).2.2
  have q6 : V.cell? ⟨w.heap.size, 19, none⟩ = some (.int .u64 (gN r 6 : Int)) := hS.cell 19 _ (Pc_get r 6 (by omega)).2.1
  have q7 : V.cell? ⟨w.heap.size, 22, none⟩ = some (.int .u64 (gN r 7 : Int)) := hS.cell 22 _ (Pc_get r 7 (by omega)).2.1
  have q8 : V.cell? ⟨w.heap.size, 26, none⟩ = some (.string (gS r 8)) := hS.cell 26 _ (Pc_get r 8 (by omega)).2.2
  have q9 : V.cell? ⟨w.heap.size, 28, none⟩ = some (.int .u64 (gN r 9 : Int)) := hS.cell 28 _ (Pc_get r 9 (by omega)).2.1
  have q10 : V.cell? ⟨w.heap.size, 31, none⟩ = some (.int .u64 (gN r 10 : Int)) := hS.cell 31 _ (Pc_get r 10 (by omega)).2.1
  have q11 : V.cell? ⟨w.heap.size, 35, none⟩ = some (.string (gS r 11)) := hS.cell 35 _ (Pc_get r 11 (by omega)).2.2
  obtain ⟨k0, ek0⟩ : ∃ k0, IntKind.i64.wrap (gN r 0 : Int) = k0 := ⟨_, rfl⟩
  have EK := Lib.hid (show intN (gN r 0) = k0 from ek0)
  obtain ⟨x0, e0⟩ : ∃ x, gN r 0 = x := ⟨_, rfl⟩
  rw [e0] at q0 ek0
  obtain ⟨x1, e1⟩ : ∃ x, gN r 1 = x := ⟨_, rfl⟩
  rw [e1] at q1
  obtain ⟨x2, e2⟩ : ∃ x, gN r 2 = x := ⟨_, rfl⟩
  rw [e2] at q2
  obtain ⟨x3, e3⟩ : ∃ x, gN r 3 = x := ⟨_, rfl⟩
  rw [e3] at q3
  obtain ⟨x4, e4⟩ : ∃ x, gS r 4 = x := ⟨_, rfl⟩
  rw [e4] at q4
  obtain ⟨x5, e5⟩ : ∃ x, gS r 5 = x := ⟨_, rfl⟩
  rw [e5] at q5
  obtain ⟨x6, e6⟩ : ∃ x, gN r 6 = x := ⟨_, rfl⟩
  rw [e6] at q6
  obtain ⟨x7, e7⟩ : ∃ x, gN r 7 = x := ⟨_, rfl⟩
  rw [e7] at q7
  obtain ⟨x8, e8⟩ : ∃ x, gS r 8 = x := ⟨_, rfl⟩
  rw [e8] at q8
  obtain ⟨x9, e9⟩ : ∃ x, gN r 9 = x := ⟨_, rfl⟩
  rw [e9] at q9
  obtain ⟨x10, e10⟩ : ∃ x, gN r 10 = x := ⟨_, rfl⟩
  rw [e10] at q10
  obtain ⟨x11, e11⟩ : ∃ x, gS r 11 = x := ⟨_, rfl⟩
  rw [e11] at q11
  have hE : frameR r ks = ⟨k0, x1, x2, x3, x4, x5, x6, x7, x8, x9, x10, x11, ks⟩ := by unfold frameR; rw [EK.out, e1, e2, e3, e4, e5, e6, e7, e8, e9, e10, e11]
  have HE := Lib.hid hE
  have EV := Lib.hid (And.intro eV0 (And.intro hs0 eV))
  clear eV0 hs0 eV
  clear hE e0 e1 e2 e3 e4 e5 e6 e7 e8 e9 e10 e11 hS0 hS hR hB0 EK hr
  unfold rowV
  go_enter Tryd.func43, Tryd.ntmps43
  go_upto_region 1 with fail
  rw [EV.out.1, EV.out.2.2]
  clear EV
  refine wp_region_lit ?_
  iterate 39 (refine wpList_step (fun K hK => ?_); go_simp; refine hK _ _ ?_; clear hK K)
  have hl : (frL ⟨k0, x1, x2, x3, x4, x5, x6, x7, x8, x9, x10, x11, ks⟩ a c).length = zeroL.length := rfl
  refine store_v rfl rfl _ _ _ rfl (w.heap.size + 1) rfl (l' := frL ⟨k0, x1, x2, x3, x4, x5, x6, x7, x8, x9, x10, x11, ks⟩ a c) rfl HR.out hl (frL_one _ _ _) (by kernel_rfl) ?_
  refine wpList_nil ?_
  have hF := HR.out.stored (frL ⟨k0, x1, x2, x3, x4, x5, x6, x7, x8, x9, x10, x11, ks⟩ a c) hl
  have hBF := below_setCells (show w.heap.size ≤ w.heap.size + 1 by omega) (frL ⟨k0, x1, x2, x3, x4, x5, x6, x7, x8, x9, x10, x11, ks⟩ a c) 0 _ HB.out
  generalize World.setCells V _ _ _ = W at hF hBF ⊢
  rename_i K hK
  refine hK _ _ ?_
  refine wp_ret ?_
  refine bodyPost_ret (results_v (p := 4) (T := 25) (by kernel_rfl) _ _ (w.heap.size + 1) rfl hF Tryd.underlying25 rfl (by kernel_rfl)) rfl ⟨?_, hBF⟩
  rw [HE.out]
  rfl

/-- two parts, as Go compares them -/
theorem run_eq_part (d : Nat) (p q : Pt) (W : World) : (Op.equalIn (d + 2) 48 (pv p) (pv q)).run Tryd.prog W = .ok (decide (p = q)) W := by
  obtain ⟨t, n, s⟩ := p
  obtain ⟨t', n', s'⟩ := q
  have hn := nat_eq n n'
  have hs := str_eq s s'
  by_cases ht : t = t'
  · subst ht
    by_cases h1 : n = n'
    · subst h1
      by_cases h2 : s = s'
      · subst h2
        unfold pv
        cases t <;> simp [go_sem]
      · rw [decide_eq_false h2] at hs
        rw [decide_eq_false (by rintro ⟨⟩; exact h2 rfl)]
        unfold pv
        cases t <;> simp [go_sem, hs]
    · rw [decide_eq_false h1] at hn
      rw [decide_eq_false (by rintro ⟨⟩; exact h1 rfl)]
      unfold pv
      cases t <;> simp [go_sem, hn]
  · rw [decide_eq_false (by rintro ⟨⟩; exact ht rfl)]
    unfold pv
    cases t <;> cases t' <;> first | exact absurd rfl ht | simp [go_sem]
end Go.Proofs.YtollaaooinoafaaDoor