/- The reference 06's Lock and Open. -/
import Derived.Test.YtikgefcbmoomjaaDoorOe
import Derived.Test.YtikgefcbmoomjaaDoorOf
import Derived.Test.YtikgefcbmoomjaaDoorJf
namespace Go.Proofs.YtikgefcbmoomjaaDoor
open Go.RowKit Go.Sort
set_option maxRecDepth 100000
set_option maxHeartbeats 4000000 in
theorem reflock_any (kv : Value) (k h x : ByteArray) (hks : k.size = 32) (hh : h.size ≤ 1024) (hx : x.size ≤ 1024) (w : World) (hk : KAt w kv) :
    Calls Tryd.prog 14 #[kv, .string k, .string h, .string x] w fun e w' => e = .returned (.string (strL (lockL (bl k) (bl h) (bl x)))) ∧ Below w.heap.size w w' := by
  have hKA := id hk
  obtain ⟨k0, k1, rfl, hK0, hK1⟩ := hk
  obtain ⟨g0, o0, c0, rfl, hg0, -⟩ := hK0
  obtain ⟨g1, o1, c1, rfl, hg1, -⟩ := hK1
  simp only [S8.l_length, keysL_length] at hKA ⊢
  have hb0 : Below w.heap.size w (w.alloc (.cells #[.slice (some ⟨g0, o0, none⟩) 64 c0, .slice (some ⟨g1, o1, none⟩) 8 c1] 30)) := by go_grown
  have hc0 : (w.alloc (.cells #[.slice (some ⟨g0, o0, none⟩) 64 c0, .slice (some ⟨g1, o1, none⟩) 8 c1] 30)).heap[w.heap.size]? = some (.cells #[.slice (some ⟨g0, o0, none⟩) 64 c0, .slice (some ⟨g1, o1, none⟩) 8 c1] 30) := heap_alloc_new _ _
  have hKA0 := hKA.on hb0
  obtain ⟨W, hW⟩ : ∃ W, w.alloc (.cells #[.slice (some ⟨g0, o0, none⟩) 64 c0, .slice (some ⟨g1, o1, none⟩) 8 c1] 30) = W := ⟨_, rfl⟩
  rw [hW] at hb0 hc0 hKA0
  obtain ⟨A, eA⟩ : ∃ A, strL (hideL (bl k)) = A := ⟨_, rfl⟩
  obtain ⟨B, eB⟩ : ∃ B, strL (tagkL (bl k)) = B := ⟨_, rfl⟩
  obtain ⟨D, eD⟩ : ∃ D, strL (nonL (bl k)) = D := ⟨_, rfl⟩
  have lA : A.size = 32 := by rw [← eA, strL_size, hideL_length]
  have lB : B.size = 32 := by rw [← eB, strL_size, tagkL_length]
  have lD : D.size = 12 := by rw [← eD, strL_size, nonL_length]
  have bA : hideL (bl k) = bl A := by rw [← eA, bl_strL]
  have bB : tagkL (bl k) = bl B := by rw [← eB, bl_strL]
  have bD : nonL (bl k) = bl D := by rw [← eD, bl_strL]
  have hko := refkeys_any _ k (by omega) W hKA0
  rw [eA, eB, eD] at hko
  obtain ⟨X, eX⟩ : ∃ X, strL (xorC (bl A) (bl D) (bl x)) = X := ⟨_, rfl⟩
  have hXs : X.size = x.size := by rw [← eX, strL_size, xorC_length]; rfl
  have hfin : strL (lockL (bl k) (bl h) (bl x)) = strL (againL (bl B) (bl h) (bl X)) := by unfold lockL; rw [bA, bB, bD, ← eX, bl_strL]
  have htu := fun W => Xor5_any A D x lA lD (by omega) W
  rw [eX] at htu
  have htg := fun W p => refagain_any (.agg #[.slice (some ⟨g0, o0, none⟩) 64 c0, .slice (some ⟨g1, o1, none⟩) 8 c1]) B h X (by omega) hh (by omega) W p
  rw [hfin]
  obtain ⟨S, eS⟩ : ∃ S, strL (againL (bl B) (bl h) (bl X)) = S := ⟨_, rfl⟩
  rw [eS] at htg ⊢
  have e0 : W.cell? ⟨w.heap.size, 0, none⟩ = some (.slice (some ⟨g0, o0, none⟩) 64 c0) := by rw [cell_of_row _ _ _ _ _ _ hc0]; rfl
  have e1 : W.cell? ⟨w.heap.size, 1, none⟩ = some (.slice (some ⟨g1, o1, none⟩) 8 c1) := by rw [cell_of_row _ _ _ _ _ _ hc0]; rfl
  have HKO := Lib.hid hko; have HTU := Lib.hid htu; have HTG := Lib.hid htg; have HB0 := Lib.hid hb0; have HKA := Lib.hid hKA0; have HW := Lib.hid hW; have HC := Lib.hid hc0
  clear hko htu htg hfin hb0 hKA0 hKA hW hc0 eA eB eD eX eS lA lB lD bA bB bD hXs hks hh hx
  go_enter Tryd.func14, Tryd.ntmps14
  go_upto_region 1 with fail
  rw [HW.out]
  have hlW : w.heap.size < W.heap.size := (Array.getElem?_eq_some_iff.1 HC.out).1
  clear HW
  go_upto_region 2 with (go_at_call 12; refine HKO.out.mono ?_; rintro e w1 ⟨rfl, hb1⟩)
  have hTW : (w1.alloc (.cells #[.string A, .string B, .string D] 34)).heap[w1.heap.size]? = some (.cells #[.string A, .string B, .string D] 34) := heap_alloc_new _ _
  have hb2 : Below W.heap.size W (w1.alloc (.cells #[.string A, .string B, .string D] 34)) := hb1.alloc hb1.size _
  obtain ⟨R, hR⟩ : ∃ R, w1.heap.size = R := ⟨_, rfl⟩
  rw [hR] at hTW ⊢
  clear e0 e1 hb1
  generalize World.alloc w1 _ = V at hb2 hTW ⊢
  have hcV : V.heap[w.heap.size]? = some (.cells #[.slice (some ⟨g0, o0, none⟩) 64 c0, .slice (some ⟨g1, o1, none⟩) 8 c1] 30) := by rw [hb2.block _ hlW]; exact HC.out
  have e0 : V.cell? ⟨w.heap.size, 0, none⟩ = some (.slice (some ⟨g0, o0, none⟩) 64 c0) := by rw [cell_of_row _ _ _ _ _ _ hcV]; rfl
  have e1 : V.cell? ⟨w.heap.size, 1, none⟩ = some (.slice (some ⟨g1, o1, none⟩) 8 c1) := by rw [cell_of_row _ _ _ _ _ _ hcV]; rfl
  have r0 : V.cell? ⟨R, 0, none⟩ = some (.string A) := by rw [cell_of_row _ _ _ _ _ _ hTW]; rfl
  have r1 : V.cell? ⟨R, 1, none⟩ = some (.string B) := by rw [cell_of_row _ _ _ _ _ _ hTW]; rfl
  have r2 : V.cell? ⟨R, 2, none⟩ = some (.string D) := by rw [cell_of_row _ _ _ _ _ _ hTW]; rfl
  have hKA2 := HKA.out.on hb2
  have hbV := HB0.out.trans (hb2.mono HB0.out.size)
  have htg2 := fun (d : Nat) (os : Array Obj) => HTG.out (grow (redrawn V d) os) (hKA2.on (below_regrown V d os))
  have p0 := cell_regrown e0; have p1 := cell_regrown e1
  have q0 := cell_regrown r0; have q1 := cell_regrown r1; have q2 := cell_regrown r2
  have HTG2 := Lib.hid htg2; have HBV := Lib.hid hbV
  clear e0 e1 r0 r1 r2 htg2 hbV hKA2 hcV hTW hb2 HKA HB0 HTG HC HKO
  refine wp_region_quiet_below (by kernel_rfl) (by kernel_rfl) ?_
  iterate 12 (quiet_step (first | (go_at_call 25; exact Calls.regrown_of (HTU.out _)) | (go_at_call 15; exact Calls.regrown_of (HTG2.out _ _))))
  refine wpQuiet_nil ?_
  intro _ hw'
  obtain ⟨⟨dq, osq⟩, hw''⟩ := hw'
  subst hw''
  have hb := below_regrown V dq osq
  have hbb := HBV.out.trans (hb.mono HBV.out.size)
  clear p0 p1 q0 q1 q2 hb HTG2 HTU HBV
  generalize grow (redrawn V dq) osq = V1 at hbb ⊢
  go_wp2_with fail
  go_ret
  exact ⟨rfl, hbb⟩

set_option maxHeartbeats 4000000 in
theorem refopen_good (kv : Value) (k h x : ByteArray) (hks : k.size = 32) (hh : h.size ≤ 1024) (hx : 32 ≤ x.size ∧ x.size ≤ 1056) (hc : tagOfL (tagkL (bl k)) (bl h) ((bl x).take (x.size - 32)) = (bl x).drop (x.size - 32)) (w : World) (hk : KAt w kv) :
    Calls Tryd.prog 17 #[kv, .string k, .string h, .string x] w fun e w' => e = .returned (.agg #[.string (strL (xorC (hideL (bl k)) (nonL (bl k)) ((bl x).take (x.size - 32)))), .bool true]) ∧ Below w.heap.size w w' := by
  have hKA := id hk
  obtain ⟨k0, k1, rfl, hK0, hK1⟩ := hk
  obtain ⟨g0, o0, c0, rfl, hg0, -⟩ := hK0
  obtain ⟨g1, o1, c1, rfl, hg1, -⟩ := hK1
  simp only [S8.l_length, keysL_length] at hKA ⊢
  have hb0 : Below w.heap.size w ((w.alloc (.cells #[.slice (some ⟨g0, o0, none⟩) 64 c0, .slice (some ⟨g1, o1, none⟩) 8 c1] 30)).alloc (.cells #[.string ⟨#[]⟩, .bool false] 40)) := by go_grown
  have hc0 : ((w.alloc (.cells #[.slice (some ⟨g0, o0, none⟩) 64 c0, .slice (some ⟨g1, o1, none⟩) 8 c1] 30)).alloc (.cells #[.string ⟨#[]⟩, .bool false] 40)).heap[w.heap.size]? = some (.cells #[.slice (some ⟨g0, o0, none⟩) 64 c0, .slice (some ⟨g1, o1, none⟩) 8 c1] 30) := heap_alloc2_old _ _ _
  have hr0 : ((w.alloc (.cells #[.slice (some ⟨g0, o0, none⟩) 64 c0, .slice (some ⟨g1, o1, none⟩) 8 c1] 30)).alloc (.cells #[.string ⟨#[]⟩, .bool false] 40)).heap[w.heap.size + 1]? = some (.cells #[.string ⟨#[]⟩, .bool false] 40) := heap_alloc2_new _ _ _
  have hKA0 := hKA.on hb0
  obtain ⟨W, hW⟩ : ∃ W, (w.alloc (.cells #[.slice (some ⟨g0, o0, none⟩) 64 c0, .slice (some ⟨g1, o1, none⟩) 8 c1] 30)).alloc (.cells #[.string ⟨#[]⟩, .bool false] 40) = W := ⟨_, rfl⟩
  rw [hW] at hb0 hc0 hr0 hKA0
  obtain ⟨A, eA⟩ : ∃ A, strL (hideL (bl k)) = A := ⟨_, rfl⟩
  obtain ⟨B, eB⟩ : ∃ B, strL (tagkL (bl k)) = B := ⟨_, rfl⟩
  obtain ⟨D, eD⟩ : ∃ D, strL (nonL (bl k)) = D := ⟨_, rfl⟩
  have lA : A.size = 32 := by rw [← eA, strL_size, hideL_length]
  have lB : B.size = 32 := by rw [← eB, strL_size, tagkL_length]
  have lD : D.size = 12 := by rw [← eD, strL_size, nonL_length]
  have bA : hideL (bl k) = bl A := by rw [← eA, bl_strL]
  have bB : tagkL (bl k) = bl B := by rw [← eB, bl_strL]
  have bD : nonL (bl k) = bl D := by rw [← eD, bl_strL]
  have hko := refkeys_any _ k (by omega) W hKA0
  rw [eA, eB, eD] at hko
  obtain ⟨n, hn⟩ : ∃ n, x.size - 32 = n := ⟨_, rfl⟩
  have hn1 : (x.size : Int) - 32 = (n : Int) := by omega
  have hwn : IntKind.i64.wrap ((x.size : Int) - 32) = (n : Int) := by rw [hn1]; exact IntWalk.i64_in _ (by omega)
  obtain ⟨b, eb⟩ : ∃ b, x.extract 0 n = b := ⟨_, rfl⟩
  have hbb : bl b = (bl x).take n := by rw [← eb, bl_extract, List.drop_zero]
  have hbs : b.size = n := by rw [← bl_length, hbb, List.length_take, bl_length]; omega
  rw [hn, bB, ← hbb] at hc
  have hsl1 : ∀ W : World, (Instr.slice 9 (.string x) none (some (.int .i64 (n : Int))) none).run Tryd.prog W = .ok (.string b) W := slice_to x b n (by omega) eb
  have htg := fun W p => refagain_any (.agg #[.slice (some ⟨g0, o0, none⟩) 64 c0, .slice (some ⟨g1, o1, none⟩) 8 c1]) B h b (by omega) hh (by omega) W p
  obtain ⟨S, eS⟩ : ∃ S, strL (againL (bl B) (bl h) (bl b)) = S := ⟨_, rfl⟩
  rw [eS] at htg
  have hxl : (bl x).length = (bl b).length + 32 := by rw [bl_length, bl_length]; omega
  have hai := again_inj (bl B) (bl h) (bl b) (bl x) hxl
  rw [show (bl b).length = n from hbs, ← hbb] at hai
  have heq : (S.toList == x.toList) = true := by
    rw [beq_iff_eq, Lib.toList_data, Lib.toList_data]
    exact (show bl S = bl x by rw [← eS, bl_strL]; exact hai.2 ⟨rfl, hc⟩)
  rw [bA, bD, hn, ← hbb]
  have htu := fun W => Xor5_any A D b lA lD (by omega) W
  obtain ⟨X, eX⟩ : ∃ X, strL (xorC (bl A) (bl D) (bl b)) = X := ⟨_, rfl⟩
  rw [eX] at htu ⊢
  have HTU := Lib.hid htu
  clear htu eX
  have e0 : W.cell? ⟨w.heap.size, 0, none⟩ = some (.slice (some ⟨g0, o0, none⟩) 64 c0) := by rw [cell_of_row _ _ _ _ _ _ hc0]; rfl
  have e1 : W.cell? ⟨w.heap.size, 1, none⟩ = some (.slice (some ⟨g1, o1, none⟩) 8 c1) := by rw [cell_of_row _ _ _ _ _ _ hc0]; rfl
  have HKO := Lib.hid hko; have HTG := Lib.hid htg; have HB0 := Lib.hid hb0; have HKA := Lib.hid hKA0; have HW := Lib.hid hW; have HC := Lib.hid hc0; have HR0 := Lib.hid hr0
  clear hko htg hb0 hKA0 hKA hW hc0 hr0 eA eB eD eS lA lB lD bA bB bD hks hh hx hc hn hn1 eb hbb hbs hxl hai
  go_enter Tryd.func17, Tryd.ntmps17
  go_upto_region 1 with fail
  rw [HW.out]
  have hlW : w.heap.size + 1 < W.heap.size := (Array.getElem?_eq_some_iff.1 HR0.out).1
  clear HW
  go_upto_region 3 with (go_at_call 12; refine HKO.out.mono ?_; rintro e w1 ⟨rfl, hb1⟩)
  have hTW : (w1.alloc (.cells #[.string A, .string B, .string D] 34)).heap[w1.heap.size]? = some (.cells #[.string A, .string B, .string D] 34) := heap_alloc_new _ _
  have hb2 : Below W.heap.size W (w1.alloc (.cells #[.string A, .string B, .string D] 34)) := hb1.alloc hb1.size _
  obtain ⟨R, hR⟩ : ∃ R, w1.heap.size = R := ⟨_, rfl⟩
  have hRl : W.heap.size ≤ R := by rw [← hR]; exact hb1.size
  rw [hR] at hTW ⊢
  clear e0 e1 hb1
  generalize World.alloc w1 _ = V at hb2 hTW ⊢
  have hcV : V.heap[w.heap.size]? = some (.cells #[.slice (some ⟨g0, o0, none⟩) 64 c0, .slice (some ⟨g1, o1, none⟩) 8 c1] 30) := by rw [hb2.block _ (by omega)]; exact HC.out
  have hrV : V.heap[w.heap.size + 1]? = some (.cells #[.string ⟨#[]⟩, .bool false] 40) := by rw [hb2.block _ hlW]; exact HR0.out
  have e0 : V.cell? ⟨w.heap.size, 0, none⟩ = some (.slice (some ⟨g0, o0, none⟩) 64 c0) := by rw [cell_of_row _ _ _ _ _ _ hcV]; rfl
  have e1 : V.cell? ⟨w.heap.size, 1, none⟩ = some (.slice (some ⟨g1, o1, none⟩) 8 c1) := by rw [cell_of_row _ _ _ _ _ _ hcV]; rfl
  have r0 : V.cell? ⟨R, 0, none⟩ = some (.string A) := by rw [cell_of_row _ _ _ _ _ _ hTW]; rfl
  have r1 : V.cell? ⟨R, 1, none⟩ = some (.string B) := by rw [cell_of_row _ _ _ _ _ _ hTW]; rfl
  have r2 : V.cell? ⟨R, 2, none⟩ = some (.string D) := by rw [cell_of_row _ _ _ _ _ _ hTW]; rfl
  have hKA2 := HKA.out.on hb2
  have hbV := HB0.out.trans (hb2.mono HB0.out.size)
  have hRV : R < V.heap.size := (Array.getElem?_eq_some_iff.1 hTW).1
  have hrl : w.heap.size + 1 < V.heap.size := (Array.getElem?_eq_some_iff.1 hrV).1
  have htg2 := fun (d : Nat) (os : Array Obj) => HTG.out (grow (redrawn V d) os) (hKA2.on (below_regrown V d os))
  have p0 := cell_regrown e0; have p1 := cell_regrown e1
  have q1 := cell_regrown r1
  have HTG2 := Lib.hid htg2; have HBV := Lib.hid hbV; have HTW := Lib.hid hTW; have HRV := Lib.hid hrV
  clear e0 e1 r0 r1 r2 htg2 hbV hKA2 hcV hTW hrV hb2 HKA HB0 HTG HC HKO HR0
  refine wp_region_quiet_below (by kernel_rfl) (by kernel_rfl) ?_
  iterate 10 (quiet_step (first | (go_at_call 15; exact Calls.regrown_of (HTG2.out _ _))))
  refine wpQuiet_nil ?_
  intro _ hw'
  obtain ⟨⟨dq, osq⟩, hw''⟩ := hw'
  subst hw''
  have hb := below_regrown V dq osq
  have hbb := HBV.out.trans (hb.mono HBV.out.size)
  have hT1 : (grow (redrawn V dq) osq).heap[R]? = some (.cells #[.string A, .string B, .string D] 34) := by rw [hb.block _ hRV]; exact HTW.out
  have hR1 : (grow (redrawn V dq) osq).heap[w.heap.size + 1]? = some (.cells #[.string ⟨#[]⟩, .bool false] 40) := by rw [hb.block _ hrl]; exact HRV.out
  clear p0 p1 q1 hb HTG2 HBV HTW HRV hRV hrl
  generalize grow (redrawn V dq) osq = V1 at hbb hT1 hR1 ⊢
  have z0 : V1.cell? ⟨R, 0, none⟩ = some (.string A) := by rw [cell_of_row _ _ _ _ _ _ hT1]; rfl
  have z2 : V1.cell? ⟨R, 2, none⟩ = some (.string D) := by rw [cell_of_row _ _ _ _ _ _ hT1]; rfl
  have q0 := cell_regrown z0; have q2 := cell_regrown z2
  have hrl : w.heap.size + 1 < V1.heap.size := (Array.getElem?_eq_some_iff.1 hR1).1
  clear z0 z2 hT1
  go_upto_region 5 with fail
  refine wp_region_last_below 9 _ (by kernel_rfl) rfl rfl rfl rfl (by kernel_rfl) (by kernel_rfl) ?_
  simp only [List.take_succ_cons, List.take_zero]
  iterate 9 (quiet_step (first | (go_at_call 25; exact Calls.regrown_of (HTU.out _))))
  refine wpQuiet_nil ?_
  intro _ hw'
  obtain ⟨⟨dq, osq⟩, hw''⟩ := hw'
  subst hw''
  have hb := below_regrown V1 dq osq
  have hbb2 := hbb.trans (hb.mono hbb.size)
  have hR2 : (grow (redrawn V1 dq) osq).heap[w.heap.size + 1]? = some (.cells #[.string ⟨#[]⟩, .bool false] 40) := by rw [hb.block _ hrl]; exact hR1
  clear q0 q2 hb hR1 hbb hrl HTU hsl1
  generalize grow (redrawn V1 dq) osq = V2 at hbb2 hR2 ⊢
  have s0 : V2.cell? ⟨w.heap.size + 1, 0, none⟩ = some (.string ⟨#[]⟩) := by rw [cell_of_row _ _ _ _ _ _ hR2]; rfl
  have s1 : V2.cell? ⟨w.heap.size + 1, 1, none⟩ = some (.bool false) := by rw [cell_of_row _ _ _ _ _ _ hR2]; rfl
  have f0 := frozen_of_row V2 (w.heap.size + 1) 0 _ _ hR2
  have f1 := frozen_of_row V2 (w.heap.size + 1) 1 _ _ hR2
  have hS0 := World.cell?_setCell_same V2 ⟨w.heap.size + 1, 0, none⟩ (.string X) s0
  have hS1 : (V2.setCell ⟨w.heap.size + 1, 0, none⟩ (.string X)).cell? ⟨w.heap.size + 1, 1, none⟩ = some (.bool false) := setCell_far s1 (by omega)
  have hT0 := setCell_far (B := w.heap.size + 1) (i := 1) (j := 0) (u := .bool true) hS0 (by omega)
  have hT1' := World.cell?_setCell_same _ ⟨w.heap.size + 1, 1, none⟩ (.bool true) hS1
  have hend := (hbb2.setCell (p := ⟨w.heap.size + 1, 0, none⟩) (Nat.le_succ _) (.string X)).setCell (p := ⟨w.heap.size + 1, 1, none⟩) (Nat.le_succ _) (.bool true)
  have HT0 := Lib.hid hT0; have HT1 := Lib.hid hT1'; have HEND := Lib.hid hend
  clear hS0 hS1 hT0 hT1' hend hR2 hbb2
  go_wp2_with fail
  clear s0 s1 f0 f1
  generalize World.setCell (World.setCell V2 _ _) _ _ = V3 at HT0 HT1 HEND ⊢
  have t0 := HT0.out; have t1 := HT1.out
  refine bodyPost_ret (v := .agg #[.string X, .bool true]) (by simp [results, Tryd.results17, go_sem, t0, t1]) rfl ⟨rfl, HEND.out⟩

set_option maxHeartbeats 4000000 in
theorem refopen_not (kv : Value) (k h x : ByteArray) (hks : k.size = 32) (hh : h.size ≤ 1024) (hx : 32 ≤ x.size ∧ x.size ≤ 1056) (hc : ¬ tagOfL (tagkL (bl k)) (bl h) ((bl x).take (x.size - 32)) = (bl x).drop (x.size - 32)) (w : World) (hk : KAt w kv) :
    Calls Tryd.prog 17 #[kv, .string k, .string h, .string x] w fun e w' => e = .returned (.agg #[.string ⟨#[]⟩, .bool false]) ∧ Below w.heap.size w w' := by
  have hKA := id hk
  obtain ⟨k0, k1, rfl, hK0, hK1⟩ := hk
  obtain ⟨g0, o0, c0, rfl, hg0, -⟩ := hK0
  obtain ⟨g1, o1, c1, rfl, hg1, -⟩ := hK1
  simp only [S8.l_length, keysL_length] at hKA ⊢
  have hb0 : Below w.heap.size w ((w.alloc (.cells #[.slice (some ⟨g0, o0, none⟩) 64 c0, .slice (some ⟨g1, o1, none⟩) 8 c1] 30)).alloc (.cells #[.string ⟨#[]⟩, .bool false] 40)) := by go_grown
  have hc0 : ((w.alloc (.cells #[.slice (some ⟨g0, o0, none⟩) 64 c0, .slice (some ⟨g1, o1, none⟩) 8 c1] 30)).alloc (.cells #[.string ⟨#[]⟩, .bool false] 40)).heap[w.heap.size]? = some (.cells #[.slice (some ⟨g0, o0, none⟩) 64 c0, .slice (some ⟨g1, o1, none⟩) 8 c1] 30) := heap_alloc2_old _ _ _
  have hr0 : ((w.alloc (.cells #[.slice (some ⟨g0, o0, none⟩) 64 c0, .slice (some ⟨g1, o1, none⟩) 8 c1] 30)).alloc (.cells #[.string ⟨#[]⟩, .bool false] 40)).heap[w.heap.size + 1]? = some (.cells #[.string ⟨#[]⟩, .bool false] 40) := heap_alloc2_new _ _ _
  have hKA0 := hKA.on hb0
  obtain ⟨W, hW⟩ : ∃ W, (w.alloc (.cells #[.slice (some ⟨g0, o0, none⟩) 64 c0, .slice (some ⟨g1, o1, none⟩) 8 c1] 30)).alloc (.cells #[.string ⟨#[]⟩, .bool false] 40) = W := ⟨_, rfl⟩
  rw [hW] at hb0 hc0 hr0 hKA0
  obtain ⟨A, eA⟩ : ∃ A, strL (hideL (bl k)) = A := ⟨_, rfl⟩
  obtain ⟨B, eB⟩ : ∃ B, strL (tagkL (bl k)) = B := ⟨_, rfl⟩
  obtain ⟨D, eD⟩ : ∃ D, strL (nonL (bl k)) = D := ⟨_, rfl⟩
  have lA : A.size = 32 := by rw [← eA, strL_size, hideL_length]
  have lB : B.size = 32 := by rw [← eB, strL_size, tagkL_length]
  have lD : D.size = 12 := by rw [← eD, strL_size, nonL_length]
  have bA : hideL (bl k) = bl A := by rw [← eA, bl_strL]
  have bB : tagkL (bl k) = bl B := by rw [← eB, bl_strL]
  have bD : nonL (bl k) = bl D := by rw [← eD, bl_strL]
  have hko := refkeys_any _ k (by omega) W hKA0
  rw [eA, eB, eD] at hko
  obtain ⟨n, hn⟩ : ∃ n, x.size - 32 = n := ⟨_, rfl⟩
  have hn1 : (x.size : Int) - 32 = (n : Int) := by omega
  have hwn : IntKind.i64.wrap ((x.size : Int) - 32) = (n : Int) := by rw [hn1]; exact IntWalk.i64_in _ (by omega)
  obtain ⟨b, eb⟩ : ∃ b, x.extract 0 n = b := ⟨_, rfl⟩
  have hbb : bl b = (bl x).take n := by rw [← eb, bl_extract, List.drop_zero]
  have hbs : b.size = n := by rw [← bl_length, hbb, List.length_take, bl_length]; omega
  rw [hn, bB, ← hbb] at hc
  have hsl1 : ∀ W : World, (Instr.slice 9 (.string x) none (some (.int .i64 (n : Int))) none).run Tryd.prog W = .ok (.string b) W := slice_to x b n (by omega) eb
  have htg := fun W p => refagain_any (.agg #[.slice (some ⟨g0, o0, none⟩) 64 c0, .slice (some ⟨g1, o1, none⟩) 8 c1]) B h b (by omega) hh (by omega) W p
  obtain ⟨S, eS⟩ : ∃ S, strL (againL (bl B) (bl h) (bl b)) = S := ⟨_, rfl⟩
  rw [eS] at htg
  have hxl : (bl x).length = (bl b).length + 32 := by rw [bl_length, bl_length]; omega
  have hai := again_inj (bl B) (bl h) (bl b) (bl x) hxl
  rw [show (bl b).length = n from hbs, ← hbb] at hai
  have heq : (S.toList == x.toList) = false := by
    rw [Bool.eq_false_iff, Ne, beq_iff_eq, Lib.toList_data, Lib.toList_data]
    exact fun e => hc (hai.1 (by rw [← show bl S = againL (bl B) (bl h) (bl b) by rw [← eS, bl_strL]]; exact e)).2
  have e0 : W.cell? ⟨w.heap.size, 0, none⟩ = some (.slice (some ⟨g0, o0, none⟩) 64 c0) := by rw [cell_of_row _ _ _ _ _ _ hc0]; rfl
  have e1 : W.cell? ⟨w.heap.size, 1, none⟩ = some (.slice (some ⟨g1, o1, none⟩) 8 c1) := by rw [cell_of_row _ _ _ _ _ _ hc0]; rfl
  have HKO := Lib.hid hko; have HTG := Lib.hid htg; have HB0 := Lib.hid hb0; have HKA := Lib.hid hKA0; have HW := Lib.hid hW; have HC := Lib.hid hc0; have HR0 := Lib.hid hr0
  clear hko htg hb0 hKA0 hKA hW hc0 hr0 eA eB eD eS lA lB lD bA bB bD hks hh hx hc hn hn1 eb hbb hbs hxl hai
  go_enter Tryd.func17, Tryd.ntmps17
  go_upto_region 1 with fail
  rw [HW.out]
  have hlW : w.heap.size + 1 < W.heap.size := (Array.getElem?_eq_some_iff.1 HR0.out).1
  clear HW
  go_upto_region 3 with (go_at_call 12; refine HKO.out.mono ?_; rintro e w1 ⟨rfl, hb1⟩)
  have hTW : (w1.alloc (.cells #[.string A, .string B, .string D] 34)).heap[w1.heap.size]? = some (.cells #[.string A, .string B, .string D] 34) := heap_alloc_new _ _
  have hb2 : Below W.heap.size W (w1.alloc (.cells #[.string A, .string B, .string D] 34)) := hb1.alloc hb1.size _
  obtain ⟨R, hR⟩ : ∃ R, w1.heap.size = R := ⟨_, rfl⟩
  have hRl : W.heap.size ≤ R := by rw [← hR]; exact hb1.size
  rw [hR] at hTW ⊢
  clear e0 e1 hb1
  generalize World.alloc w1 _ = V at hb2 hTW ⊢
  have hcV : V.heap[w.heap.size]? = some (.cells #[.slice (some ⟨g0, o0, none⟩) 64 c0, .slice (some ⟨g1, o1, none⟩) 8 c1] 30) := by rw [hb2.block _ (by omega)]; exact HC.out
  have hrV : V.heap[w.heap.size + 1]? = some (.cells #[.string ⟨#[]⟩, .bool false] 40) := by rw [hb2.block _ hlW]; exact HR0.out
  have e0 : V.cell? ⟨w.heap.size, 0, none⟩ = some (.slice (some ⟨g0, o0, none⟩) 64 c0) := by rw [cell_of_row _ _ _ _ _ _ hcV]; rfl
  have e1 : V.cell? ⟨w.heap.size, 1, none⟩ = some (.slice (some ⟨g1, o1, none⟩) 8 c1) := by rw [cell_of_row _ _ _ _ _ _ hcV]; rfl
  have r0 : V.cell? ⟨R, 0, none⟩ = some (.string A) := by rw [cell_of_row _ _ _ _ _ _ hTW]; rfl
  have r1 : V.cell? ⟨R, 1, none⟩ = some (.string B) := by rw [cell_of_row _ _ _ _ _ _ hTW]; rfl
  have r2 : V.cell? ⟨R, 2, none⟩ = some (.string D) := by rw [cell_of_row _ _ _ _ _ _ hTW]; rfl
  have hKA2 := HKA.out.on hb2
  have hbV := HB0.out.trans (hb2.mono HB0.out.size)
  have hRV : R < V.heap.size := (Array.getElem?_eq_some_iff.1 hTW).1
  have hrl : w.heap.size + 1 < V.heap.size := (Array.getElem?_eq_some_iff.1 hrV).1
  have htg2 := fun (d : Nat) (os : Array Obj) => HTG.out (grow (redrawn V d) os) (hKA2.on (below_regrown V d os))
  have p0 := cell_regrown e0; have p1 := cell_regrown e1
  have q1 := cell_regrown r1
  have HTG2 := Lib.hid htg2; have HBV := Lib.hid hbV; have HTW := Lib.hid hTW; have HRV := Lib.hid hrV
  clear e0 e1 r0 r1 r2 htg2 hbV hKA2 hcV hTW hrV hb2 HKA HB0 HTG HC HKO HR0
  refine wp_region_quiet_below (by kernel_rfl) (by kernel_rfl) ?_
  iterate 10 (quiet_step (first | (go_at_call 15; exact Calls.regrown_of (HTG2.out _ _))))
  refine wpQuiet_nil ?_
  intro _ hw'
  obtain ⟨⟨dq, osq⟩, hw''⟩ := hw'
  subst hw''
  have hb := below_regrown V dq osq
  have hbb := HBV.out.trans (hb.mono HBV.out.size)
  have hT1 : (grow (redrawn V dq) osq).heap[R]? = some (.cells #[.string A, .string B, .string D] 34) := by rw [hb.block _ hRV]; exact HTW.out
  have hR1 : (grow (redrawn V dq) osq).heap[w.heap.size + 1]? = some (.cells #[.string ⟨#[]⟩, .bool false] 40) := by rw [hb.block _ hrl]; exact HRV.out
  clear p0 p1 q1 hb HTG2 HBV HTW HRV hRV hrl
  generalize grow (redrawn V dq) osq = V1 at hbb hT1 hR1 ⊢
  go_upto_region 4 with fail
  have hbb2 := hbb; have hR2 := hR1
  clear hbb hR1 hT1 hsl1
  have s0 : V1.cell? ⟨w.heap.size + 1, 0, none⟩ = some (.string ⟨#[]⟩) := by rw [cell_of_row _ _ _ _ _ _ hR2]; rfl
  have s1 : V1.cell? ⟨w.heap.size + 1, 1, none⟩ = some (.bool false) := by rw [cell_of_row _ _ _ _ _ _ hR2]; rfl
  have f0 := frozen_of_row V1 (w.heap.size + 1) 0 _ _ hR2
  have f1 := frozen_of_row V1 (w.heap.size + 1) 1 _ _ hR2
  have hS0 := World.cell?_setCell_same V1 ⟨w.heap.size + 1, 0, none⟩ (.string ⟨#[]⟩) s0
  have hS1 : (V1.setCell ⟨w.heap.size + 1, 0, none⟩ (.string ⟨#[]⟩)).cell? ⟨w.heap.size + 1, 1, none⟩ = some (.bool false) := setCell_far s1 (by omega)
  have hT0 := setCell_far (B := w.heap.size + 1) (i := 1) (j := 0) (u := .bool false) hS0 (by omega)
  have hT1' := World.cell?_setCell_same _ ⟨w.heap.size + 1, 1, none⟩ (.bool false) hS1
  have hend := (hbb2.setCell (p := ⟨w.heap.size + 1, 0, none⟩) (Nat.le_succ _) (.string ⟨#[]⟩)).setCell (p := ⟨w.heap.size + 1, 1, none⟩) (Nat.le_succ _) (.bool false)
  have HT0 := Lib.hid hT0; have HT1 := Lib.hid hT1'; have HEND := Lib.hid hend
  clear hS0 hS1 hT0 hT1' hend hR2 hbb2
  go_wp2_with fail
  clear s0 s1 f0 f1
  generalize World.setCell (World.setCell V1 _ _) _ _ = V3 at HT0 HT1 HEND ⊢
  have t0 := HT0.out; have t1 := HT1.out
  refine bodyPost_ret (v := .agg #[.string ⟨#[]⟩, .bool false]) (by simp [results, Tryd.results17, go_sem, t0, t1]) rfl ⟨rfl, HEND.out⟩
end Go.Proofs.YtikgefcbmoomjaaDoor