/- The reference 10: a chain's step, a root's. -/
import Derived.Test.YtolobdeilfgmnaaDoorVac
import Derived.Test.YtolobdeilfgmnaaDoorQl
import Derived.Test.YtolobdeilfgmnaaDoorFrefe
namespace Go.Proofs.YtolobdeilfgmnaaDoor
open Go.RowKit Go.Sort
set_option maxRecDepth 100000

set_option maxHeartbeats 4000000 in
theorem refstepC_any (kv : Value) (k : ByteArray) (hk0 : k.size ≤ 1000000) (w : World) (hk : KAt w kv) :
    Calls Tryd.prog 12 #[kv, .string k] w fun e w' => e = .returned (.agg #[.string (spA k stWord), .string (spB k stWord)]) ∧ Below w.heap.size w w' := by
  have hKA := id hk
  obtain ⟨k0, k1, rfl, hK0, hK1⟩ := hk
  obtain ⟨g0, o0, c0, rfl, hg0, -⟩ := hK0
  obtain ⟨g1, o1, c1, rfl, hg1, -⟩ := hK1
  simp only [S8.l_length, keysL_length] at hKA ⊢
  have hb0 : Below w.heap.size w ((w.alloc (.cells #[.slice (some ⟨g0, o0, none⟩) 64 c0, .slice (some ⟨g1, o1, none⟩) 8 c1] 29)).alloc (.cells #[.string ⟨#[]⟩, .string ⟨#[]⟩] 32)) := by go_grown
  have hc0 : ((w.alloc (.cells #[.slice (some ⟨g0, o0, none⟩) 64 c0, .slice (some ⟨g1, o1, none⟩) 8 c1] 29)).alloc (.cells #[.string ⟨#[]⟩, .string ⟨#[]⟩] 32)).heap[w.heap.size]? = some (.cells #[.slice (some ⟨g0, o0, none⟩) 64 c0, .slice (some ⟨g1, o1, none⟩) 8 c1] 29) := heap_alloc2_old _ _ _
  have hr0 : ((w.alloc (.cells #[.slice (some ⟨g0, o0, none⟩) 64 c0, .slice (some ⟨g1, o1, none⟩) 8 c1] 29)).alloc (.cells #[.string ⟨#[]⟩, .string ⟨#[]⟩] 32)).heap[w.heap.size + 1]? = some (.cells #[.string ⟨#[]⟩, .string ⟨#[]⟩] 32) := heap_alloc2_new _ _ _
  have hKA0 := hKA.on hb0
  obtain ⟨W, hW⟩ : ∃ W, (w.alloc (.cells #[.slice (some ⟨g0, o0, none⟩) 64 c0, .slice (some ⟨g1, o1, none⟩) 8 c1] 29)).alloc (.cells #[.string ⟨#[]⟩, .string ⟨#[]⟩] 32) = W := ⟨_, rfl⟩
  rw [hW] at hb0 hc0 hr0 hKA0
  have hs := refsplit_any _ k stWord 2 hk0 (by decide) (by omega) W hKA0
  rw [row2] at hs
  generalize spA k stWord = A at hs ⊢
  generalize spB k stWord = B at hs ⊢
  unfold stWord at hs
  have e0 : W.cell? ⟨w.heap.size, 0, none⟩ = some (.slice (some ⟨g0, o0, none⟩) 64 c0) := by rw [cell_of_row _ _ _ _ _ _ hc0]; rfl
  have e1 : W.cell? ⟨w.heap.size, 1, none⟩ = some (.slice (some ⟨g1, o1, none⟩) 8 c1) := by rw [cell_of_row _ _ _ _ _ _ hc0]; rfl
  have HS := Lib.hid hs; have HB0 := Lib.hid hb0; have HR0 := Lib.hid hr0; have HW := Lib.hid hW
  clear hs hb0 hr0 hc0 hKA hKA0 hW hk0
  go_enter Tryd.func12, Tryd.ntmps12
  go_upto_region 1 with fail
  rw [HW.out]
  have hlW : w.heap.size + 1 < W.heap.size := (Array.getElem?_eq_some_iff.1 HR0.out).1
  clear HW
  go_wp2_with fail
  refine HS.out.mono ?_
  rintro e w1 ⟨g, cap, rfl, hl, hb1⟩
  have hBw := HB0.out.trans (hb1.mono HB0.out.size)
  have hr1 : w1.heap[w.heap.size + 1]? = some (.cells #[.string ⟨#[]⟩, .string ⟨#[]⟩] 32) := by rw [hb1.block _ hlW]; exact HR0.out
  obtain ⟨b, o, c, ee, hlt, hcl⟩ := hl
  obtain ⟨⟨rfl, rfl⟩, rfl⟩ : (g = b ∧ 0 = o) ∧ cap = c := by simpa using ee
  have c0 : w1.cell? ⟨g, 0, none⟩ = some (.string A) := hcl 0 (by simp)
  have c1 : w1.cell? ⟨g, 1, none⟩ = some (.string B) := hcl 1 (by simp)
  have q0 := cell_regrown c0; have q1 := cell_regrown c1
  have HR1 := Lib.hid hr1; have HBW := Lib.hid hBw
  clear HS HB0 HR0 hb1 hBw hr1 ee hcl c0 c1 e0 e1 hlW
  go_upto_region 2 with fail
  refine wp_region_last_below 7 _ (by kernel_rfl) rfl rfl rfl rfl (by kernel_rfl) (by kernel_rfl) ?_
  simp only [List.take_succ_cons, List.take_zero]
  iterate 7 (quiet_step (fail))
  refine wpQuiet_nil ?_
  intro _ hw'
  obtain ⟨⟨dq, osq⟩, hw''⟩ := hw'
  subst hw''
  have hb := below_regrown w1 dq osq
  have hR : w.heap.size + 1 < w1.heap.size := (Array.getElem?_eq_some_iff.1 HR1.out).1
  have hBW := HBW.out.trans (hb.mono HBW.out.size)
  have hr2 : (grow (redrawn w1 dq) osq).heap[w.heap.size + 1]? = some (.cells #[.string ⟨#[]⟩, .string ⟨#[]⟩] 32) := by rw [hb.block _ hR]; exact HR1.out
  clear q0 q1 hb hR HR1 HBW hlt
  generalize grow (redrawn w1 dq) osq = W1 at hBW hr2 ⊢
  have r0 : W1.cell? ⟨w.heap.size + 1, 0, none⟩ = some (.string ⟨#[]⟩) := by rw [cell_of_row _ _ _ _ _ _ hr2]; rfl
  have r1 : W1.cell? ⟨w.heap.size + 1, 1, none⟩ = some (.string ⟨#[]⟩) := by rw [cell_of_row _ _ _ _ _ _ hr2]; rfl
  have f0 := frozen_of_row W1 (w.heap.size + 1) 0 _ _ hr2
  have f1 := frozen_of_row W1 (w.heap.size + 1) 1 _ _ hr2
  have HSS := Lib.hid (store2 hr2 (.string A) (.string B)); have HBS := Lib.hid (below2 hBW (Nat.le_succ _) (.string A) (.string B))
  clear hr2 hBW
  go_wp2_with fail
  clear r0 r1 f0 f1
  generalize World.setCell (World.setCell W1 _ _) _ _ = V at HSS HBS ⊢
  have s0 : V.cell? ⟨w.heap.size + 1, 0, none⟩ = some (.string A) := by rw [cell_of_row _ _ _ _ _ _ HSS.out]; rfl
  have s1 : V.cell? ⟨w.heap.size + 1, 1, none⟩ = some (.string B) := by rw [cell_of_row _ _ _ _ _ _ HSS.out]; rfl
  refine bodyPost_ret (v := .agg #[.string A, .string B]) (by simp [results, Tryd.results12, go_sem, s0, s1]) rfl ⟨rfl, HBS.out⟩
set_option maxHeartbeats 4000000 in
theorem refrootC_any (kv : Value) (r s : ByteArray) (hr : r.size ≤ 1000000) (hsz : s.size ≤ 80000) (w : World) (hk : KAt w kv) :
    Calls Tryd.prog 10 #[kv, .string r, .string s] w fun e w' => e = .returned (.agg #[.string (rootA r s), .string (rootB r s)]) ∧ Below w.heap.size w w' := by
  have hKA := id hk
  obtain ⟨k0, k1, rfl, hK0, hK1⟩ := hk
  obtain ⟨g0, o0, c0, rfl, hg0, -⟩ := hK0
  obtain ⟨g1, o1, c1, rfl, hg1, -⟩ := hK1
  simp only [S8.l_length, keysL_length] at hKA ⊢
  have hb0 : Below w.heap.size w ((w.alloc (.cells #[.slice (some ⟨g0, o0, none⟩) 64 c0, .slice (some ⟨g1, o1, none⟩) 8 c1] 29)).alloc (.cells #[.string ⟨#[]⟩, .string ⟨#[]⟩] 32)) := by go_grown
  have hc0 : ((w.alloc (.cells #[.slice (some ⟨g0, o0, none⟩) 64 c0, .slice (some ⟨g1, o1, none⟩) 8 c1] 29)).alloc (.cells #[.string ⟨#[]⟩, .string ⟨#[]⟩] 32)).heap[w.heap.size]? = some (.cells #[.slice (some ⟨g0, o0, none⟩) 64 c0, .slice (some ⟨g1, o1, none⟩) 8 c1] 29) := heap_alloc2_old _ _ _
  have hr0 : ((w.alloc (.cells #[.slice (some ⟨g0, o0, none⟩) 64 c0, .slice (some ⟨g1, o1, none⟩) 8 c1] 29)).alloc (.cells #[.string ⟨#[]⟩, .string ⟨#[]⟩] 32)).heap[w.heap.size + 1]? = some (.cells #[.string ⟨#[]⟩, .string ⟨#[]⟩] 32) := heap_alloc2_new _ _ _
  have hKA0 := hKA.on hb0
  obtain ⟨W, hW⟩ : ∃ W, (w.alloc (.cells #[.slice (some ⟨g0, o0, none⟩) 64 c0, .slice (some ⟨g1, o1, none⟩) 8 c1] 29)).alloc (.cells #[.string ⟨#[]⟩, .string ⟨#[]⟩] 32) = W := ⟨_, rfl⟩
  rw [hW] at hb0 hc0 hr0 hKA0
  obtain ⟨kk, ekk⟩ : ∃ kk, Value.agg #[.slice (some ⟨g0, o0, none⟩) 64 c0, .slice (some ⟨g1, o1, none⟩) 8 c1] = kk := ⟨_, rfl⟩
  have ht := fun (V : World) (h : KAt V kk) => reftag_any kk r s hr hsz V h
  obtain ⟨T, eT⟩ : ∃ T, strL (tagL (bl r) (bl s)) = T := ⟨_, rfl⟩
  have hT : T.size = 32 := by rw [← eT, strL_size]; exact ofL_length _
  have hs := fun (V : World) (h : KAt V kk) => refsplit_any kk T rtWord 2 (by omega) (by decide) (by omega) V h
  unfold rootA rootB
  rw [eT] at ht ⊢
  rw [row2] at hs
  generalize spA T rtWord = A at hs ⊢
  generalize spB T rtWord = B at hs ⊢
  unfold rtWord at hs
  rw [ekk] at hKA0
  subst ekk
  have e0 : W.cell? ⟨w.heap.size, 0, none⟩ = some (.slice (some ⟨g0, o0, none⟩) 64 c0) := by rw [cell_of_row _ _ _ _ _ _ hc0]; rfl
  have e1 : W.cell? ⟨w.heap.size, 1, none⟩ = some (.slice (some ⟨g1, o1, none⟩) 8 c1) := by rw [cell_of_row _ _ _ _ _ _ hc0]; rfl
  have HT := Lib.hid ht; have HS := Lib.hid hs; have HKA := Lib.hid hKA0; have HB0 := Lib.hid hb0; have HR0 := Lib.hid hr0; have HW := Lib.hid hW
  clear ht hs hb0 hr0 hc0 hKA hKA0 hW hr hsz eT hT
  go_enter Tryd.func10, Tryd.ntmps10
  go_upto_region 1 with fail
  rw [HW.out]
  have hlW : w.heap.size + 1 < W.heap.size := (Array.getElem?_eq_some_iff.1 HR0.out).1
  clear HW
  have HC2 := Lib.hid (And.intro e0 e1)
  have bel_of2 : ∀ w' : World, ((w'.cell? ⟨w.heap.size, 0, none⟩ = some (.slice (some ⟨g0, o0, none⟩) 64 c0) ∧ w'.cell? ⟨w.heap.size, 1, none⟩ = some (.slice (some ⟨g1, o1, none⟩) 8 c1)) ∧ Bel W w') → Bel W w' := fun w' h => h.2
  have HB2 := Lib.hid bel_of2
  clear bel_of2
  have hS : (fun w' : World => (w'.cell? ⟨w.heap.size, 0, none⟩ = some (.slice (some ⟨g0, o0, none⟩) 64 c0) ∧ w'.cell? ⟨w.heap.size, 1, none⟩ = some (.slice (some ⟨g1, o1, none⟩) 8 c1)) ∧ Bel W w') W := ⟨HC2.out, Bel.refl W⟩
  go_region_held3 (fun w' : World => (w'.cell? ⟨w.heap.size, 0, none⟩ = some (.slice (some ⟨g0, o0, none⟩) 64 c0) ∧ w'.cell? ⟨w.heap.size, 1, none⟩ = some (.slice (some ⟨g1, o1, none⟩) 8 c1)) ∧ Bel W w')
    (first | with_reducible assumption | (refine bel_two HC2.out ?_; first | exact (HB2.out _ (by with_reducible assumption)) | ((with_reducible refine Bel.drew ?_); exact (HB2.out _ (by with_reducible assumption))) | ((with_reducible refine Bel.drew ?_); exact Bel.refl _) | ((with_reducible refine Bel.on ?_ hb); first | exact (HB2.out _ (by with_reducible assumption)) | exact Bel.drew (HB2.out _ (by with_reducible assumption)) | exact Bel.drew (Bel.refl _))))
    (first
      | (go_at_call 22; refine (HT.out _ (HKA.out.bel (by first | exact (HB2.out _ (by with_reducible assumption)) | exact Bel.drew (Bel.refl _)))).mono ?_; rintro e w' ⟨rfl, hb⟩)
      | (go_at_call 21; refine (HS.out _ (HKA.out.bel (by first | exact (HB2.out _ (by with_reducible assumption)) | exact Bel.drew (Bel.refl _)))).mono ?_; rintro e w' ⟨g, cap, rfl, hl, hb⟩))
  have hb1 := (HB2.out w' (by with_reducible assumption)).b
  obtain ⟨w1, ew1⟩ : ∃ w1 : World, w1 = w' := ⟨_, rfl⟩
  subst ew1
  have hBw := HB0.out.trans (hb1.mono HB0.out.size)
  have hr1 : w1.heap[w.heap.size + 1]? = some (.cells #[.string ⟨#[]⟩, .string ⟨#[]⟩] 32) := by rw [hb1.block _ hlW]; exact HR0.out
  obtain ⟨b, o, c, ee, hlt, hcl⟩ := hl
  obtain ⟨⟨rfl, rfl⟩, rfl⟩ : (g = b ∧ 0 = o) ∧ cap = c := by simpa using ee
  have c0 : w1.cell? ⟨g, 0, none⟩ = some (.string A) := hcl 0 (by simp)
  have c1 : w1.cell? ⟨g, 1, none⟩ = some (.string B) := hcl 1 (by simp)
  have q0 := cell_regrown c0; have q1 := cell_regrown c1
  have HR1 := Lib.hid hr1; have HBW := Lib.hid hBw
  clear HT HS HB0 HR0 HB2 HC2 HKA hS hb1 hBw hr1 ee hcl c0 c1 e0 e1 hlW
  go_upto_region 2 with fail
  refine wp_region_last_below 7 _ (by kernel_rfl) rfl rfl rfl rfl (by kernel_rfl) (by kernel_rfl) ?_
  simp only [List.take_succ_cons, List.take_zero]
  iterate 7 (quiet_step (fail))
  refine wpQuiet_nil ?_
  intro _ hw'
  obtain ⟨⟨dq, osq⟩, hw''⟩ := hw'
  subst hw''
  have hb := below_regrown w1 dq osq
  have hR : w.heap.size + 1 < w1.heap.size := (Array.getElem?_eq_some_iff.1 HR1.out).1
  have hBW := HBW.out.trans (hb.mono HBW.out.size)
  have hr2 : (grow (redrawn w1 dq) osq).heap[w.heap.size + 1]? = some (.cells #[.string ⟨#[]⟩, .string ⟨#[]⟩] 32) := by rw [hb.block _ hR]; exact HR1.out
  clear q0 q1 hb hR HR1 HBW hlt
  generalize grow (redrawn w1 dq) osq = W1 at hBW hr2 ⊢
  have r0 : W1.cell? ⟨w.heap.size + 1, 0, none⟩ = some (.string ⟨#[]⟩) := by rw [cell_of_row _ _ _ _ _ _ hr2]; rfl
  have r1 : W1.cell? ⟨w.heap.size + 1, 1, none⟩ = some (.string ⟨#[]⟩) := by rw [cell_of_row _ _ _ _ _ _ hr2]; rfl
  have f0 := frozen_of_row W1 (w.heap.size + 1) 0 _ _ hr2
  have f1 := frozen_of_row W1 (w.heap.size + 1) 1 _ _ hr2
  have HSS := Lib.hid (store2 hr2 (.string A) (.string B)); have HBS := Lib.hid (below2 hBW (Nat.le_succ _) (.string A) (.string B))
  clear hr2 hBW
  go_wp2_with fail
  clear r0 r1 f0 f1
  generalize World.setCell (World.setCell W1 _ _) _ _ = V at HSS HBS ⊢
  have s0 : V.cell? ⟨w.heap.size + 1, 0, none⟩ = some (.string A) := by rw [cell_of_row _ _ _ _ _ _ HSS.out]; rfl
  have s1 : V.cell? ⟨w.heap.size + 1, 1, none⟩ = some (.string B) := by rw [cell_of_row _ _ _ _ _ _ HSS.out]; rfl
  refine bodyPost_ret (v := .agg #[.string A, .string B]) (by simp [results, Tryd.results10, go_sem, s0, s1]) rfl ⟨rfl, HBS.out⟩
end Go.Proofs.YtolobdeilfgmnaaDoor
