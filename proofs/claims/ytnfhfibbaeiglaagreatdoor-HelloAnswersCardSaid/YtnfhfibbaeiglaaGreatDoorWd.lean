/- The reference 11: the secret of who begins, and of who is asked. -/
import Derived.Test.YtnfhfibbaeiglaaGreatDoorWc
import Derived.Test.YtnfhfibbaeiglaaGreatDoorFref
import Derived.Test.YtnfhfibbaeiglaaGreatDoorMmult
namespace Go.Proofs.YtnfhfibbaeiglaaGreatDoor
open Go.RowKit Go.Sort
set_option maxRecDepth 100000

theorem refMult_pt (k u : ByteArray) (hk : k.size = 32) (hu : u.size = 32) (w : World) :
    Calls Tryz.prog 14 #[.string k, .string u] w fun e w' => e = .returned (.string (pt k u)) ∧ Below w.heap.size w w' := refMult_any k u hk hu w
theorem cat_run (x y : ByteArray) (h : x.size + y.size ≤ 1000) : (∀ W : World, (Op.stringOp .add x y).run Tryz.prog W = .ok (.string (x ++ y)) W) ∧ (9223372036854775807 < x.size + y.size) = False :=
  ⟨fun W => run_string_add_sum W _ _ (by omega), by simp; omega⟩
theorem app_emp' (x : ByteArray) : x ++ (⟨#[]⟩ : ByteArray) = x := app_emp x
set_option maxHeartbeats 4000000 in
theorem refInitiate_none (kv : Value) (i b p s : ByteArray) (h1 : i.size = 32) (h2 : b.size = 32) (h3 : p.size = 32) (h4 : s.size = 32) (w : World) (hk : KAt w kv) :
    Calls Tryz.prog 9 #[kv, .string i, .string b, .string p, .string s, .string ⟨#[]⟩] w fun e w' => e = .returned (.string (secB (ptsI i b p s ⟨#[]⟩))) ∧ Below w.heap.size w w' := by
  have hm1 := refMult_pt i s h1 h4
  have hm2 := refMult_pt b p h2 h3
  have hm3 := refMult_pt b s h2 h4
  have hsz := ptsI_size i b p s ⟨#[]⟩
  have z1 := pt_size i s
  have z2 := pt_size b p
  have z3 := pt_size b s
  obtain ⟨R, eR⟩ : ∃ R, ptsI i b p s ⟨#[]⟩ = R := ⟨_, rfl⟩
  have eR2 := eR
  rw [eR] at hsz
  rw [eR]
  unfold ptsI at eR2
  rw [if_pos (show (⟨#[]⟩ : ByteArray).size = 0 from rfl), app_emp'] at eR2
  obtain ⟨x1, e1⟩ : ∃ x, pt i s = x := ⟨_, rfl⟩
  rw [e1] at hm1 z1 eR2
  obtain ⟨x2, e2⟩ : ∃ x, pt b p = x := ⟨_, rfl⟩
  rw [e2] at hm2 z2 eR2
  obtain ⟨x3, e3⟩ : ∃ x, pt b s = x := ⟨_, rfl⟩
  rw [e3] at hm3 z3 eR2
  have c12 := cat_run x1 x2 (by omega)
  obtain ⟨y2, ey2⟩ : ∃ y, x1 ++ x2 = y := ⟨_, rfl⟩
  have zy2 : y2.size = 64 := by rw [← ey2, ByteArray.size_append]; omega
  rw [ey2] at c12 eR2
  have c23 := cat_run y2 x3 (by omega)
  obtain ⟨y3, ey3⟩ : ∃ y, y2 ++ x3 = y := ⟨_, rfl⟩
  have zy3 : y3.size = 96 := by rw [← ey3, ByteArray.size_append]; omega
  rw [ey3] at c23 eR2
  subst eR2
  have hKA := id hk
  obtain ⟨k0, k1, rfl, hK0, hK1⟩ := hk
  obtain ⟨g0, o0, c0, rfl, hg0, -⟩ := hK0
  obtain ⟨g1, o1, c1, rfl, hg1, -⟩ := hK1
  simp only [S8.l_length, keysL_length] at hKA ⊢
  have hb0 : Below w.heap.size w (w.alloc (.cells #[.slice (some ⟨g0, o0, none⟩) 64 c0, .slice (some ⟨g1, o1, none⟩) 8 c1] 31)) := by go_grown
  have hc0 : (w.alloc (.cells #[.slice (some ⟨g0, o0, none⟩) 64 c0, .slice (some ⟨g1, o1, none⟩) 8 c1] 31)).heap[w.heap.size]? = some (.cells #[.slice (some ⟨g0, o0, none⟩) 64 c0, .slice (some ⟨g1, o1, none⟩) 8 c1] 31) := heap_alloc_new _ _
  have hKA0 := hKA.on hb0
  obtain ⟨kk, ekk⟩ : ∃ kk, Value.agg #[.slice (some ⟨g0, o0, none⟩) 64 c0, .slice (some ⟨g1, o1, none⟩) 8 c1] = kk := ⟨_, rfl⟩
  have ht := fun (V : World) (h : KAt V kk) => reftag_any kk helloW y3 (by decide) (by omega) V h
  rw [ekk] at hKA0
  subst ekk
  obtain ⟨S, eS⟩ : ∃ S, secB y3 = S := ⟨_, rfl⟩
  have eS2 := eS
  unfold secB at eS2
  simp only [eS2] at ht
  rw [eS]
  unfold helloW at ht
  obtain ⟨W, hW⟩ : ∃ W, w.alloc (.cells #[.slice (some ⟨g0, o0, none⟩) 64 c0, .slice (some ⟨g1, o1, none⟩) 8 c1] 31) = W := ⟨_, rfl⟩
  rw [hW] at hb0 hc0 hKA0
  have HM1 := Lib.hid hm1; have HM2 := Lib.hid hm2; have HM3 := Lib.hid hm3; have HTG := Lib.hid ht; have HB := Lib.hid hb0; have HC := Lib.hid hc0; have HKA := Lib.hid hKA0; have HW := Lib.hid hW
  obtain ⟨c12a, c12b⟩ := c12
  obtain ⟨c23a, c23b⟩ := c23
  clear hm1 z1 e1 hm2 z2 e2 hm3 z3 e3 ht hb0 hc0 hKA hKA0 hW hsz eR ey2 ey3 zy2 zy3 eS eS2 h1 h2 h3 h4
  go_enter Tryz.func9, Tryz.ntmps9
  go_upto_region 1 with fail
  rw [HW.out]
  obtain ⟨n, en⟩ : ∃ n, w.heap.size = n := ⟨_, rfl⟩
  rw [en] at HB HC ⊢
  clear HW hg0 hg1
  go_wp2_with fail
  refine (HM1.out _).mono ?_
  rintro e w1 ⟨rfl, hb⟩
  have HC2 := Lib.hid ((hb.block n (Array.getElem?_eq_some_iff.1 HC.out).1).trans HC.out); have HB2 := Lib.hid (HB.out.trans (hb.mono (by have := HB.out.size; omega))); have HKA2 := Lib.hid (HKA.out.on hb)
  clear hb HM1 HC HB HKA
  have HC := HC2; have HB := HB2; have HKA := HKA2
  clear HC2 HB2 HKA2
  go_wp2_with fail
  refine (HM2.out _).mono ?_
  rintro e w2 ⟨rfl, hb⟩
  have HC2 := Lib.hid ((hb.block n (Array.getElem?_eq_some_iff.1 HC.out).1).trans HC.out); have HB2 := Lib.hid (HB.out.trans (hb.mono (by have := HB.out.size; omega))); have HKA2 := Lib.hid (HKA.out.on hb)
  clear hb HM2 HC HB HKA
  have HC := HC2; have HB := HB2; have HKA := HKA2
  clear HC2 HB2 HKA2
  go_wp2_with fail
  refine (HM3.out _).mono ?_
  rintro e w3 ⟨rfl, hb⟩
  have HC2 := Lib.hid ((hb.block n (Array.getElem?_eq_some_iff.1 HC.out).1).trans HC.out); have HB2 := Lib.hid (HB.out.trans (hb.mono (by have := HB.out.size; omega))); have HKA2 := Lib.hid (HKA.out.on hb)
  clear hb HM3 HC HB HKA
  have HC := HC2; have HB := HB2; have HKA := HKA2
  clear HC2 HB2 HKA2
  have q0 : w3.cell? ⟨n, 0, none⟩ = some (.slice (some ⟨g0, o0, none⟩) 64 c0) := by rw [cell_of_row _ _ _ _ _ _ HC.out]; rfl
  have q1 : w3.cell? ⟨n, 1, none⟩ = some (.slice (some ⟨g1, o1, none⟩) 8 c1) := by rw [cell_of_row _ _ _ _ _ _ HC.out]; rfl
  go_wp2_with fail
  refine (HTG.out _ HKA.out).mono ?_
  rintro e wz ⟨rfl, hb⟩
  have HB2 := Lib.hid (HB.out.trans (hb.mono (by have := HB.out.size; omega)))
  clear hb HB HTG q0 q1
  go_wp2_with fail
  go_ret
  exact ⟨rfl, by rw [en]; exact HB2.out⟩
set_option maxHeartbeats 4000000 in
theorem refInitiate_one (kv : Value) (i b p s o : ByteArray) (h1 : i.size = 32) (h2 : b.size = 32) (h3 : p.size = 32) (h4 : s.size = 32) (h5 : o.size = 32) (w : World) (hk : KAt w kv) :
    Calls Tryz.prog 9 #[kv, .string i, .string b, .string p, .string s, .string o] w fun e w' => e = .returned (.string (secB (ptsI i b p s o))) ∧ Below w.heap.size w w' := by
  have hm1 := refMult_pt i s h1 h4
  have hm2 := refMult_pt b p h2 h3
  have hm3 := refMult_pt b s h2 h4
  have hm4 := refMult_pt b o h2 h5
  have hsz := ptsI_size i b p s o
  have z1 := pt_size i s
  have z2 := pt_size b p
  have z3 := pt_size b s
  have z4 := pt_size b o
  obtain ⟨R, eR⟩ : ∃ R, ptsI i b p s o = R := ⟨_, rfl⟩
  have eR2 := eR
  rw [eR] at hsz
  rw [eR]
  unfold ptsI at eR2
  rw [if_neg (by omega)] at eR2
  obtain ⟨x1, e1⟩ : ∃ x, pt i s = x := ⟨_, rfl⟩
  rw [e1] at hm1 z1 eR2
  obtain ⟨x2, e2⟩ : ∃ x, pt b p = x := ⟨_, rfl⟩
  rw [e2] at hm2 z2 eR2
  obtain ⟨x3, e3⟩ : ∃ x, pt b s = x := ⟨_, rfl⟩
  rw [e3] at hm3 z3 eR2
  obtain ⟨x4, e4⟩ : ∃ x, pt b o = x := ⟨_, rfl⟩
  rw [e4] at hm4 z4 eR2
  have c12 := cat_run x1 x2 (by omega)
  obtain ⟨y2, ey2⟩ : ∃ y, x1 ++ x2 = y := ⟨_, rfl⟩
  have zy2 : y2.size = 64 := by rw [← ey2, ByteArray.size_append]; omega
  rw [ey2] at c12 eR2
  have c23 := cat_run y2 x3 (by omega)
  obtain ⟨y3, ey3⟩ : ∃ y, y2 ++ x3 = y := ⟨_, rfl⟩
  have zy3 : y3.size = 96 := by rw [← ey3, ByteArray.size_append]; omega
  rw [ey3] at c23 eR2
  have c34 := cat_run y3 x4 (by omega)
  rw [eR2] at c34
  have hn : (o.toList == []) = false := by rw [str_nilH, decide_eq_false (by omega)]
  have hKA := id hk
  obtain ⟨k0, k1, rfl, hK0, hK1⟩ := hk
  obtain ⟨g0, o0, c0, rfl, hg0, -⟩ := hK0
  obtain ⟨g1, o1, c1, rfl, hg1, -⟩ := hK1
  simp only [S8.l_length, keysL_length] at hKA ⊢
  have hb0 : Below w.heap.size w (w.alloc (.cells #[.slice (some ⟨g0, o0, none⟩) 64 c0, .slice (some ⟨g1, o1, none⟩) 8 c1] 31)) := by go_grown
  have hc0 : (w.alloc (.cells #[.slice (some ⟨g0, o0, none⟩) 64 c0, .slice (some ⟨g1, o1, none⟩) 8 c1] 31)).heap[w.heap.size]? = some (.cells #[.slice (some ⟨g0, o0, none⟩) 64 c0, .slice (some ⟨g1, o1, none⟩) 8 c1] 31) := heap_alloc_new _ _
  have hKA0 := hKA.on hb0
  obtain ⟨kk, ekk⟩ : ∃ kk, Value.agg #[.slice (some ⟨g0, o0, none⟩) 64 c0, .slice (some ⟨g1, o1, none⟩) 8 c1] = kk := ⟨_, rfl⟩
  have ht := fun (V : World) (h : KAt V kk) => reftag_any kk helloW R (by decide) (by omega) V h
  rw [ekk] at hKA0
  subst ekk
  obtain ⟨S, eS⟩ : ∃ S, secB R = S := ⟨_, rfl⟩
  have eS2 := eS
  unfold secB at eS2
  simp only [eS2] at ht
  rw [eS]
  unfold helloW at ht
  obtain ⟨W, hW⟩ : ∃ W, w.alloc (.cells #[.slice (some ⟨g0, o0, none⟩) 64 c0, .slice (some ⟨g1, o1, none⟩) 8 c1] 31) = W := ⟨_, rfl⟩
  rw [hW] at hb0 hc0 hKA0
  have HM1 := Lib.hid hm1; have HM2 := Lib.hid hm2; have HM3 := Lib.hid hm3; have HM4 := Lib.hid hm4; have HTG := Lib.hid ht; have HB := Lib.hid hb0; have HC := Lib.hid hc0; have HKA := Lib.hid hKA0; have HW := Lib.hid hW
  obtain ⟨c12a, c12b⟩ := c12
  obtain ⟨c23a, c23b⟩ := c23
  obtain ⟨c34a, c34b⟩ := c34
  clear hm1 z1 e1 hm2 z2 e2 hm3 z3 e3 hm4 z4 e4 ht hb0 hc0 hKA hKA0 hW hsz eR ey2 ey3 zy2 zy3 eS eS2 eR2 h1 h2 h3 h4 h5
  go_enter Tryz.func9, Tryz.ntmps9
  go_upto_region 1 with fail
  rw [HW.out]
  obtain ⟨n, en⟩ : ∃ n, w.heap.size = n := ⟨_, rfl⟩
  rw [en] at HB HC ⊢
  clear HW hg0 hg1
  go_wp2_with fail
  refine (HM1.out _).mono ?_
  rintro e w1 ⟨rfl, hb⟩
  have HC2 := Lib.hid ((hb.block n (Array.getElem?_eq_some_iff.1 HC.out).1).trans HC.out); have HB2 := Lib.hid (HB.out.trans (hb.mono (by have := HB.out.size; omega))); have HKA2 := Lib.hid (HKA.out.on hb)
  clear hb HM1 HC HB HKA
  have HC := HC2; have HB := HB2; have HKA := HKA2
  clear HC2 HB2 HKA2
  go_wp2_with fail
  refine (HM2.out _).mono ?_
  rintro e w2 ⟨rfl, hb⟩
  have HC2 := Lib.hid ((hb.block n (Array.getElem?_eq_some_iff.1 HC.out).1).trans HC.out); have HB2 := Lib.hid (HB.out.trans (hb.mono (by have := HB.out.size; omega))); have HKA2 := Lib.hid (HKA.out.on hb)
  clear hb HM2 HC HB HKA
  have HC := HC2; have HB := HB2; have HKA := HKA2
  clear HC2 HB2 HKA2
  go_wp2_with fail
  refine (HM3.out _).mono ?_
  rintro e w3 ⟨rfl, hb⟩
  have HC2 := Lib.hid ((hb.block n (Array.getElem?_eq_some_iff.1 HC.out).1).trans HC.out); have HB2 := Lib.hid (HB.out.trans (hb.mono (by have := HB.out.size; omega))); have HKA2 := Lib.hid (HKA.out.on hb)
  clear hb HM3 HC HB HKA
  have HC := HC2; have HB := HB2; have HKA := HKA2
  clear HC2 HB2 HKA2
  go_wp2_with fail
  refine (HM4.out _).mono ?_
  rintro e w4 ⟨rfl, hb⟩
  have HC2 := Lib.hid ((hb.block n (Array.getElem?_eq_some_iff.1 HC.out).1).trans HC.out); have HB2 := Lib.hid (HB.out.trans (hb.mono (by have := HB.out.size; omega))); have HKA2 := Lib.hid (HKA.out.on hb)
  clear hb HM4 HC HB HKA
  have HC := HC2; have HB := HB2; have HKA := HKA2
  clear HC2 HB2 HKA2
  have q0 : w4.cell? ⟨n, 0, none⟩ = some (.slice (some ⟨g0, o0, none⟩) 64 c0) := by rw [cell_of_row _ _ _ _ _ _ HC.out]; rfl
  have q1 : w4.cell? ⟨n, 1, none⟩ = some (.slice (some ⟨g1, o1, none⟩) 8 c1) := by rw [cell_of_row _ _ _ _ _ _ HC.out]; rfl
  go_wp2_with fail
  refine (HTG.out _ HKA.out).mono ?_
  rintro e wz ⟨rfl, hb⟩
  have HB2 := Lib.hid (HB.out.trans (hb.mono (by have := HB.out.size; omega)))
  clear hb HB HTG q0 q1
  go_wp2_with fail
  go_ret
  exact ⟨rfl, by rw [en]; exact HB2.out⟩
theorem refInitiate_any (kv : Value) (i b p s o : ByteArray) (hm : mayH i b p s o) (w : World) (hk : KAt w kv) :
    Calls Tryz.prog 9 #[kv, .string i, .string b, .string p, .string s, .string o] w fun e w' => e = .returned (.string (secB (ptsI i b p s o))) ∧ Below w.heap.size w w' := by
  obtain ⟨h1, h2, h3, h4, h5⟩ := hm
  rcases h5 with h5 | h5
  · obtain rfl := size_nilH o h5
    exact refInitiate_none kv i b p s h1 h2 h3 h4 w hk
  · exact refInitiate_one kv i b p s o h1 h2 h3 h4 h5 w hk
set_option maxHeartbeats 4000000 in
theorem refRespond_none (kv : Value) (i s p b : ByteArray) (h1 : i.size = 32) (h2 : b.size = 32) (h3 : p.size = 32) (h4 : s.size = 32) (w : World) (hk : KAt w kv) :
    Calls Tryz.prog 12 #[kv, .string i, .string s, .string ⟨#[]⟩, .string p, .string b] w fun e w' => e = .returned (.string (secB (ptsR i s ⟨#[]⟩ p b))) ∧ Below w.heap.size w w' := by
  have hm1 := refMult_pt s p h4 h3
  have hm2 := refMult_pt i b h1 h2
  have hm3 := refMult_pt s b h4 h2
  have hsz := ptsR_size i s ⟨#[]⟩ p b
  have z1 := pt_size s p
  have z2 := pt_size i b
  have z3 := pt_size s b
  obtain ⟨R, eR⟩ : ∃ R, ptsR i s ⟨#[]⟩ p b = R := ⟨_, rfl⟩
  have eR2 := eR
  rw [eR] at hsz
  rw [eR]
  unfold ptsR at eR2
  rw [if_pos (show (⟨#[]⟩ : ByteArray).size = 0 from rfl), app_emp'] at eR2
  obtain ⟨x1, e1⟩ : ∃ x, pt s p = x := ⟨_, rfl⟩
  rw [e1] at hm1 z1 eR2
  obtain ⟨x2, e2⟩ : ∃ x, pt i b = x := ⟨_, rfl⟩
  rw [e2] at hm2 z2 eR2
  obtain ⟨x3, e3⟩ : ∃ x, pt s b = x := ⟨_, rfl⟩
  rw [e3] at hm3 z3 eR2
  have c12 := cat_run x1 x2 (by omega)
  obtain ⟨y2, ey2⟩ : ∃ y, x1 ++ x2 = y := ⟨_, rfl⟩
  have zy2 : y2.size = 64 := by rw [← ey2, ByteArray.size_append]; omega
  rw [ey2] at c12 eR2
  have c23 := cat_run y2 x3 (by omega)
  obtain ⟨y3, ey3⟩ : ∃ y, y2 ++ x3 = y := ⟨_, rfl⟩
  have zy3 : y3.size = 96 := by rw [← ey3, ByteArray.size_append]; omega
  rw [ey3] at c23 eR2
  subst eR2
  have hKA := id hk
  obtain ⟨k0, k1, rfl, hK0, hK1⟩ := hk
  obtain ⟨g0, o0, c0, rfl, hg0, -⟩ := hK0
  obtain ⟨g1, o1, c1, rfl, hg1, -⟩ := hK1
  simp only [S8.l_length, keysL_length] at hKA ⊢
  have hb0 : Below w.heap.size w (w.alloc (.cells #[.slice (some ⟨g0, o0, none⟩) 64 c0, .slice (some ⟨g1, o1, none⟩) 8 c1] 31)) := by go_grown
  have hc0 : (w.alloc (.cells #[.slice (some ⟨g0, o0, none⟩) 64 c0, .slice (some ⟨g1, o1, none⟩) 8 c1] 31)).heap[w.heap.size]? = some (.cells #[.slice (some ⟨g0, o0, none⟩) 64 c0, .slice (some ⟨g1, o1, none⟩) 8 c1] 31) := heap_alloc_new _ _
  have hKA0 := hKA.on hb0
  obtain ⟨kk, ekk⟩ : ∃ kk, Value.agg #[.slice (some ⟨g0, o0, none⟩) 64 c0, .slice (some ⟨g1, o1, none⟩) 8 c1] = kk := ⟨_, rfl⟩
  have ht := fun (V : World) (h : KAt V kk) => reftag_any kk helloW y3 (by decide) (by omega) V h
  rw [ekk] at hKA0
  subst ekk
  obtain ⟨S, eS⟩ : ∃ S, secB y3 = S := ⟨_, rfl⟩
  have eS2 := eS
  unfold secB at eS2
  simp only [eS2] at ht
  rw [eS]
  unfold helloW at ht
  obtain ⟨W, hW⟩ : ∃ W, w.alloc (.cells #[.slice (some ⟨g0, o0, none⟩) 64 c0, .slice (some ⟨g1, o1, none⟩) 8 c1] 31) = W := ⟨_, rfl⟩
  rw [hW] at hb0 hc0 hKA0
  have HM1 := Lib.hid hm1; have HM2 := Lib.hid hm2; have HM3 := Lib.hid hm3; have HTG := Lib.hid ht; have HB := Lib.hid hb0; have HC := Lib.hid hc0; have HKA := Lib.hid hKA0; have HW := Lib.hid hW
  obtain ⟨c12a, c12b⟩ := c12
  obtain ⟨c23a, c23b⟩ := c23
  clear hm1 z1 e1 hm2 z2 e2 hm3 z3 e3 ht hb0 hc0 hKA hKA0 hW hsz eR ey2 ey3 zy2 zy3 eS eS2 h1 h2 h3 h4
  go_enter Tryz.func12, Tryz.ntmps12
  go_upto_region 1 with fail
  rw [HW.out]
  obtain ⟨n, en⟩ : ∃ n, w.heap.size = n := ⟨_, rfl⟩
  rw [en] at HB HC ⊢
  clear HW hg0 hg1
  go_wp2_with fail
  refine (HM1.out _).mono ?_
  rintro e w1 ⟨rfl, hb⟩
  have HC2 := Lib.hid ((hb.block n (Array.getElem?_eq_some_iff.1 HC.out).1).trans HC.out); have HB2 := Lib.hid (HB.out.trans (hb.mono (by have := HB.out.size; omega))); have HKA2 := Lib.hid (HKA.out.on hb)
  clear hb HM1 HC HB HKA
  have HC := HC2; have HB := HB2; have HKA := HKA2
  clear HC2 HB2 HKA2
  go_wp2_with fail
  refine (HM2.out _).mono ?_
  rintro e w2 ⟨rfl, hb⟩
  have HC2 := Lib.hid ((hb.block n (Array.getElem?_eq_some_iff.1 HC.out).1).trans HC.out); have HB2 := Lib.hid (HB.out.trans (hb.mono (by have := HB.out.size; omega))); have HKA2 := Lib.hid (HKA.out.on hb)
  clear hb HM2 HC HB HKA
  have HC := HC2; have HB := HB2; have HKA := HKA2
  clear HC2 HB2 HKA2
  go_wp2_with fail
  refine (HM3.out _).mono ?_
  rintro e w3 ⟨rfl, hb⟩
  have HC2 := Lib.hid ((hb.block n (Array.getElem?_eq_some_iff.1 HC.out).1).trans HC.out); have HB2 := Lib.hid (HB.out.trans (hb.mono (by have := HB.out.size; omega))); have HKA2 := Lib.hid (HKA.out.on hb)
  clear hb HM3 HC HB HKA
  have HC := HC2; have HB := HB2; have HKA := HKA2
  clear HC2 HB2 HKA2
  have q0 : w3.cell? ⟨n, 0, none⟩ = some (.slice (some ⟨g0, o0, none⟩) 64 c0) := by rw [cell_of_row _ _ _ _ _ _ HC.out]; rfl
  have q1 : w3.cell? ⟨n, 1, none⟩ = some (.slice (some ⟨g1, o1, none⟩) 8 c1) := by rw [cell_of_row _ _ _ _ _ _ HC.out]; rfl
  go_wp2_with fail
  refine (HTG.out _ HKA.out).mono ?_
  rintro e wz ⟨rfl, hb⟩
  have HB2 := Lib.hid (HB.out.trans (hb.mono (by have := HB.out.size; omega)))
  clear hb HB HTG q0 q1
  go_wp2_with fail
  go_ret
  exact ⟨rfl, by rw [en]; exact HB2.out⟩
set_option maxHeartbeats 4000000 in
theorem refRespond_one (kv : Value) (i s o p b : ByteArray) (h1 : i.size = 32) (h2 : b.size = 32) (h3 : p.size = 32) (h4 : s.size = 32) (h5 : o.size = 32) (w : World) (hk : KAt w kv) :
    Calls Tryz.prog 12 #[kv, .string i, .string s, .string o, .string p, .string b] w fun e w' => e = .returned (.string (secB (ptsR i s o p b))) ∧ Below w.heap.size w w' := by
  have hm1 := refMult_pt s p h4 h3
  have hm2 := refMult_pt i b h1 h2
  have hm3 := refMult_pt s b h4 h2
  have hm4 := refMult_pt o b h5 h2
  have hsz := ptsR_size i s o p b
  have z1 := pt_size s p
  have z2 := pt_size i b
  have z3 := pt_size s b
  have z4 := pt_size o b
  obtain ⟨R, eR⟩ : ∃ R, ptsR i s o p b = R := ⟨_, rfl⟩
  have eR2 := eR
  rw [eR] at hsz
  rw [eR]
  unfold ptsR at eR2
  rw [if_neg (by omega)] at eR2
  obtain ⟨x1, e1⟩ : ∃ x, pt s p = x := ⟨_, rfl⟩
  rw [e1] at hm1 z1 eR2
  obtain ⟨x2, e2⟩ : ∃ x, pt i b = x := ⟨_, rfl⟩
  rw [e2] at hm2 z2 eR2
  obtain ⟨x3, e3⟩ : ∃ x, pt s b = x := ⟨_, rfl⟩
  rw [e3] at hm3 z3 eR2
  obtain ⟨x4, e4⟩ : ∃ x, pt o b = x := ⟨_, rfl⟩
  rw [e4] at hm4 z4 eR2
  have c12 := cat_run x1 x2 (by omega)
  obtain ⟨y2, ey2⟩ : ∃ y, x1 ++ x2 = y := ⟨_, rfl⟩
  have zy2 : y2.size = 64 := by rw [← ey2, ByteArray.size_append]; omega
  rw [ey2] at c12 eR2
  have c23 := cat_run y2 x3 (by omega)
  obtain ⟨y3, ey3⟩ : ∃ y, y2 ++ x3 = y := ⟨_, rfl⟩
  have zy3 : y3.size = 96 := by rw [← ey3, ByteArray.size_append]; omega
  rw [ey3] at c23 eR2
  have c34 := cat_run y3 x4 (by omega)
  rw [eR2] at c34
  have hn : (o.toList == []) = false := by rw [str_nilH, decide_eq_false (by omega)]
  have hKA := id hk
  obtain ⟨k0, k1, rfl, hK0, hK1⟩ := hk
  obtain ⟨g0, o0, c0, rfl, hg0, -⟩ := hK0
  obtain ⟨g1, o1, c1, rfl, hg1, -⟩ := hK1
  simp only [S8.l_length, keysL_length] at hKA ⊢
  have hb0 : Below w.heap.size w (w.alloc (.cells #[.slice (some ⟨g0, o0, none⟩) 64 c0, .slice (some ⟨g1, o1, none⟩) 8 c1] 31)) := by go_grown
  have hc0 : (w.alloc (.cells #[.slice (some ⟨g0, o0, none⟩) 64 c0, .slice (some ⟨g1, o1, none⟩) 8 c1] 31)).heap[w.heap.size]? = some (.cells #[.slice (some ⟨g0, o0, none⟩) 64 c0, .slice (some ⟨g1, o1, none⟩) 8 c1] 31) := heap_alloc_new _ _
  have hKA0 := hKA.on hb0
  obtain ⟨kk, ekk⟩ : ∃ kk, Value.agg #[.slice (some ⟨g0, o0, none⟩) 64 c0, .slice (some ⟨g1, o1, none⟩) 8 c1] = kk := ⟨_, rfl⟩
  have ht := fun (V : World) (h : KAt V kk) => reftag_any kk helloW R (by decide) (by omega) V h
  rw [ekk] at hKA0
  subst ekk
  obtain ⟨S, eS⟩ : ∃ S, secB R = S := ⟨_, rfl⟩
  have eS2 := eS
  unfold secB at eS2
  simp only [eS2] at ht
  rw [eS]
  unfold helloW at ht
  obtain ⟨W, hW⟩ : ∃ W, w.alloc (.cells #[.slice (some ⟨g0, o0, none⟩) 64 c0, .slice (some ⟨g1, o1, none⟩) 8 c1] 31) = W := ⟨_, rfl⟩
  rw [hW] at hb0 hc0 hKA0
  have HM1 := Lib.hid hm1; have HM2 := Lib.hid hm2; have HM3 := Lib.hid hm3; have HM4 := Lib.hid hm4; have HTG := Lib.hid ht; have HB := Lib.hid hb0; have HC := Lib.hid hc0; have HKA := Lib.hid hKA0; have HW := Lib.hid hW
  obtain ⟨c12a, c12b⟩ := c12
  obtain ⟨c23a, c23b⟩ := c23
  obtain ⟨c34a, c34b⟩ := c34
  clear hm1 z1 e1 hm2 z2 e2 hm3 z3 e3 hm4 z4 e4 ht hb0 hc0 hKA hKA0 hW hsz eR ey2 ey3 zy2 zy3 eS eS2 eR2 h1 h2 h3 h4 h5
  go_enter Tryz.func12, Tryz.ntmps12
  go_upto_region 1 with fail
  rw [HW.out]
  obtain ⟨n, en⟩ : ∃ n, w.heap.size = n := ⟨_, rfl⟩
  rw [en] at HB HC ⊢
  clear HW hg0 hg1
  go_wp2_with fail
  refine (HM1.out _).mono ?_
  rintro e w1 ⟨rfl, hb⟩
  have HC2 := Lib.hid ((hb.block n (Array.getElem?_eq_some_iff.1 HC.out).1).trans HC.out); have HB2 := Lib.hid (HB.out.trans (hb.mono (by have := HB.out.size; omega))); have HKA2 := Lib.hid (HKA.out.on hb)
  clear hb HM1 HC HB HKA
  have HC := HC2; have HB := HB2; have HKA := HKA2
  clear HC2 HB2 HKA2
  go_wp2_with fail
  refine (HM2.out _).mono ?_
  rintro e w2 ⟨rfl, hb⟩
  have HC2 := Lib.hid ((hb.block n (Array.getElem?_eq_some_iff.1 HC.out).1).trans HC.out); have HB2 := Lib.hid (HB.out.trans (hb.mono (by have := HB.out.size; omega))); have HKA2 := Lib.hid (HKA.out.on hb)
  clear hb HM2 HC HB HKA
  have HC := HC2; have HB := HB2; have HKA := HKA2
  clear HC2 HB2 HKA2
  go_wp2_with fail
  refine (HM3.out _).mono ?_
  rintro e w3 ⟨rfl, hb⟩
  have HC2 := Lib.hid ((hb.block n (Array.getElem?_eq_some_iff.1 HC.out).1).trans HC.out); have HB2 := Lib.hid (HB.out.trans (hb.mono (by have := HB.out.size; omega))); have HKA2 := Lib.hid (HKA.out.on hb)
  clear hb HM3 HC HB HKA
  have HC := HC2; have HB := HB2; have HKA := HKA2
  clear HC2 HB2 HKA2
  go_wp2_with fail
  refine (HM4.out _).mono ?_
  rintro e w4 ⟨rfl, hb⟩
  have HC2 := Lib.hid ((hb.block n (Array.getElem?_eq_some_iff.1 HC.out).1).trans HC.out); have HB2 := Lib.hid (HB.out.trans (hb.mono (by have := HB.out.size; omega))); have HKA2 := Lib.hid (HKA.out.on hb)
  clear hb HM4 HC HB HKA
  have HC := HC2; have HB := HB2; have HKA := HKA2
  clear HC2 HB2 HKA2
  have q0 : w4.cell? ⟨n, 0, none⟩ = some (.slice (some ⟨g0, o0, none⟩) 64 c0) := by rw [cell_of_row _ _ _ _ _ _ HC.out]; rfl
  have q1 : w4.cell? ⟨n, 1, none⟩ = some (.slice (some ⟨g1, o1, none⟩) 8 c1) := by rw [cell_of_row _ _ _ _ _ _ HC.out]; rfl
  go_wp2_with fail
  refine (HTG.out _ HKA.out).mono ?_
  rintro e wz ⟨rfl, hb⟩
  have HB2 := Lib.hid (HB.out.trans (hb.mono (by have := HB.out.size; omega)))
  clear hb HB HTG q0 q1
  go_wp2_with fail
  go_ret
  exact ⟨rfl, by rw [en]; exact HB2.out⟩
theorem refRespond_any (kv : Value) (i s o p b : ByteArray) (hm : mayH i b p s o) (w : World) (hk : KAt w kv) :
    Calls Tryz.prog 12 #[kv, .string i, .string s, .string o, .string p, .string b] w fun e w' => e = .returned (.string (secB (ptsR i s o p b))) ∧ Below w.heap.size w w' := by
  obtain ⟨h1, h2, h3, h4, h5⟩ := hm
  rcases h5 with h5 | h5
  · obtain rfl := size_nilH o h5
    exact refRespond_none kv i s p b h1 h2 h3 h4 w hk
  · exact refRespond_one kv i s o p b h1 h2 h3 h4 h5 w hk
end Go.Proofs.YtnfhfibbaeiglaaGreatDoor
