/- ChainSteps: any root's step, with any shared point, and any chain's, are as the document says, or refused. -/
import Derived.Test.YtolobdeilfgmnaaDoorVh
import Derived.Test.YtolobdeilfgmnaaDoorVf
import Derived.Test.YtolobdeilfgmnaaDoorEkeys
namespace Go.Proofs.YtolobdeilfgmnaaDoor
open Go.RowKit
set_option maxRecDepth 100000

set_option maxHeartbeats 4000000 in
theorem chainSteps_a (r s c : ByteArray) (hr0 : r.size ≤ maxLen) (hs0 : s.size ≤ maxLen) (hc0 : c.size ≤ maxLen) (hr : (cutS r 40).size = 32) (hs : (cutS s 40).size = 32) (hc : (cutS c 40).size = 32) (w : World) (hF : FirstAt w) (hK : KeysAt w) :
    Calls Tryd.prog 3 #[.string r, .string s, .string c] w fun e w' => e = .returned (.bool true) ∧ Below w.heap.size w w' := by
  have hc1 := cut10_any r hr0
  have hc2 := cut10_any s hs0
  have hc3 := cut10_any c hc0
  obtain ⟨r1, er⟩ : ∃ r1, cutS r 40 = r1 := ⟨_, rfl⟩
  obtain ⟨s1, es⟩ : ∃ s1, cutS s 40 = s1 := ⟨_, rfl⟩
  obtain ⟨c1', ec⟩ : ∃ c1', cutS c 40 = c1' := ⟨_, rfl⟩
  rw [er] at hc1 hr
  rw [es] at hc2 hs
  rw [ec] at hc3 hc
  have HC1 := Lib.hid hc1; have HC2 := Lib.hid hc2; have HC3 := Lib.hid hc3
  have HF := Lib.hid hF; have HK := Lib.hid hK; have HB := Lib.hid (Below.refl w.heap.size w)
  have hz : (⟨#[]⟩ : ByteArray) ++ ⟨#[]⟩ = ⟨#[]⟩ := by rfl
  clear hc1 hc2 hc3 er es ec hr0 hs0 hc0 hF hK
  go_enter Tryd.func3, Tryd.ntmps3
  go_wp2_with fail
  refine (HC1.out _).mono ?_
  rintro e w1 ⟨rfl, rfl⟩
  go_wp2_with fail
  refine (HC2.out _).mono ?_
  rintro e w1 ⟨rfl, rfl⟩
  go_wp2_with fail
  refine (HC3.out _).mono ?_
  rintro e w1 ⟨rfl, rfl⟩
  clear HC1 HC2 HC3
  have br : ((r1.size : Int) == 32) = true := by rw [hr]; rfl
  have bs : ((s1.size : Int) == 32) = true := by rw [hs]; rfl
  have bc : ((c1'.size : Int) == 32) = true := by rw [hc]; rfl
  have bn : ((c1'.size : Int) != 32) = false := by rw [hc]; rfl
  have hR := Root_good r1 s1 hr hs
  have hQ := fun kv => refrootC_any kv r1 s1 (by omega) (by omega)
  obtain ⟨A, eA⟩ : ∃ A, rootA r1 s1 = A := ⟨_, rfl⟩
  obtain ⟨B, eB⟩ : ∃ B, rootB r1 s1 = B := ⟨_, rfl⟩
  simp only [eA, eB] at hR hQ
  clear eA eB
  have HQ := Lib.hid hQ
  clear hQ
  have hS := Step_good c1' hc
  have hP := fun kv => refstepC_any kv c1' (by omega)
  obtain ⟨X, eX⟩ : ∃ X, spA c1' stWord = X := ⟨_, rfl⟩
  obtain ⟨Y, eY⟩ : ∃ Y, spB c1' stWord = Y := ⟨_, rfl⟩
  simp only [eX, eY] at hS hP
  clear eX eY
  have HP := Lib.hid hP
  clear hP
  have HR := Lib.hid hR; have HS := Lib.hid hS
  clear hR hS hr hc hs
  go_wp2_with fail
  refine (HR.out _ HF.out HK.out).mono ?_
  rintro e w2 ⟨rfl, hb⟩
  have HF := Lib.hid (HF.out.on hb); have HK := Lib.hid (HK.out.on hb); have HB := Lib.hid (HB.out.trans (hb.mono HB.out.size))
  clear hb HR
  go_wp2_with fail
  refine (HS.out _ HF.out HK.out).mono ?_
  rintro e w3 ⟨rfl, hb⟩
  have HF := Lib.hid (HF.out.on hb); have HK := Lib.hid (HK.out.on hb); have HB := Lib.hid (HB.out.trans (hb.mono HB.out.size))
  clear hb HS
  go_wp2_with fail
  refine (numbers_all _).mono ?_
  rintro e w4 ⟨kv, rfl, hKA, hb4⟩
  have HF := Lib.hid (HF.out.on hb4); have HK := Lib.hid (HK.out.on hb4); have HB := Lib.hid (HB.out.trans (hb4.mono HB.out.size))
  have hKA' := hKA
  obtain ⟨k0, k2, rfl, hk0, hk2⟩ := hKA'
  obtain ⟨a0, o0, c0, rfl, -, -⟩ := hk0
  obtain ⟨a1, o1, c1, rfl, -, -⟩ := hk2
  simp only [S8.l_length, keysL_length] at hKA ⊢
  have HKA := Lib.hid hKA
  clear hb4 hKA
  go_upto_region 5 with fail
  have hb5 : Below w4.heap.size w4 (w4.alloc (.cells #[.slice (some ⟨a0, o0, none⟩) 64 c0, .slice (some ⟨a1, o1, none⟩) 8 c1] 29)) := by go_grown
  have hc5 : (w4.alloc (.cells #[.slice (some ⟨a0, o0, none⟩) 64 c0, .slice (some ⟨a1, o1, none⟩) 8 c1] 29)).heap[w4.heap.size]? = some (.cells #[.slice (some ⟨a0, o0, none⟩) 64 c0, .slice (some ⟨a1, o1, none⟩) 8 c1] 29) := heap_alloc_new _ _
  obtain ⟨B5, eB⟩ : ∃ B5, w4.heap.size = B5 := ⟨_, rfl⟩
  generalize World.alloc w4 _ = V at hb5 hc5 ⊢
  have HF := Lib.hid (HF.out.on hb5); have HK := Lib.hid (HK.out.on hb5); have HB := Lib.hid (HB.out.trans (hb5.mono HB.out.size)); have HKA := Lib.hid (HKA.out.on hb5)
  rw [eB] at hc5
  rw [eB]
  clear hb5 eB
  have HC := Lib.hid hc5
  have e0 : V.cell? ⟨B5, 0, none⟩ = some (.slice (some ⟨a0, o0, none⟩) 64 c0) := by rw [cell_of_row _ _ _ _ _ _ hc5]; rfl
  have e1 : V.cell? ⟨B5, 1, none⟩ = some (.slice (some ⟨a1, o1, none⟩) 8 c1) := by rw [cell_of_row _ _ _ _ _ _ hc5]; rfl
  clear hc5
  go_wp2_with fail
  refine (HQ.out _ _ HKA.out).mono ?_
  rintro e w10 ⟨rfl, hb⟩
  have HF := Lib.hid (HF.out.on hb); have HK := Lib.hid (HK.out.on hb); have HB := Lib.hid (HB.out.trans (hb.mono HB.out.size))
  have HC2 := Lib.hid ((hb.block B5 (Array.getElem?_eq_some_iff.1 HC.out).1).trans HC.out)
  clear e0 e1 HC
  have HC := HC2
  clear HC2
  have HKA := Lib.hid (HKA.out.on hb)
  have e0 : w10.cell? ⟨B5, 0, none⟩ = some (.slice (some ⟨a0, o0, none⟩) 64 c0) := by rw [cell_of_row _ _ _ _ _ _ HC.out]; rfl
  have e1 : w10.cell? ⟨B5, 1, none⟩ = some (.slice (some ⟨a1, o1, none⟩) 8 c1) := by rw [cell_of_row _ _ _ _ _ _ HC.out]; rfl
  clear hb HQ
  go_wp2_with fail
  refine (alive10_any _ HF.out HK.out).mono ?_
  rintro e w11 ⟨rfl, hb⟩
  have HF := Lib.hid (HF.out.on hb); have HK := Lib.hid (HK.out.on hb); have HB := Lib.hid (HB.out.trans (hb.mono HB.out.size))
  have HC2 := Lib.hid ((hb.block B5 (Array.getElem?_eq_some_iff.1 HC.out).1).trans HC.out)
  clear e0 e1 HC
  have HC := HC2
  clear HC2
  have HKA := Lib.hid (HKA.out.on hb)
  have e0 : w11.cell? ⟨B5, 0, none⟩ = some (.slice (some ⟨a0, o0, none⟩) 64 c0) := by rw [cell_of_row _ _ _ _ _ _ HC.out]; rfl
  have e1 : w11.cell? ⟨B5, 1, none⟩ = some (.slice (some ⟨a1, o1, none⟩) 8 c1) := by rw [cell_of_row _ _ _ _ _ _ HC.out]; rfl
  clear hb
  go_wp2_with fail
  refine (HP.out _ _ HKA.out).mono ?_
  rintro e w12 ⟨rfl, hb⟩
  have HF := Lib.hid (HF.out.on hb); have HK := Lib.hid (HK.out.on hb); have HB := Lib.hid (HB.out.trans (hb.mono HB.out.size))
  clear hb HP
  go_wp2_with fail
  go_ret
  exact ⟨by first | rfl | simp, HB.out⟩
set_option maxHeartbeats 4000000 in
theorem chainSteps_b (r s c : ByteArray) (hr0 : r.size ≤ maxLen) (hs0 : s.size ≤ maxLen) (hc0 : c.size ≤ maxLen) (hr : (cutS r 40).size = 32) (hs : (cutS s 40).size = 32) (hc : ¬ (cutS c 40).size = 32) (w : World) (hF : FirstAt w) (hK : KeysAt w) :
    Calls Tryd.prog 3 #[.string r, .string s, .string c] w fun e w' => e = .returned (.bool true) ∧ Below w.heap.size w w' := by
  have hc1 := cut10_any r hr0
  have hc2 := cut10_any s hs0
  have hc3 := cut10_any c hc0
  obtain ⟨r1, er⟩ : ∃ r1, cutS r 40 = r1 := ⟨_, rfl⟩
  obtain ⟨s1, es⟩ : ∃ s1, cutS s 40 = s1 := ⟨_, rfl⟩
  obtain ⟨c1', ec⟩ : ∃ c1', cutS c 40 = c1' := ⟨_, rfl⟩
  rw [er] at hc1 hr
  rw [es] at hc2 hs
  rw [ec] at hc3 hc
  have HC1 := Lib.hid hc1; have HC2 := Lib.hid hc2; have HC3 := Lib.hid hc3
  have HF := Lib.hid hF; have HK := Lib.hid hK; have HB := Lib.hid (Below.refl w.heap.size w)
  have hz : (⟨#[]⟩ : ByteArray) ++ ⟨#[]⟩ = ⟨#[]⟩ := by rfl
  clear hc1 hc2 hc3 er es ec hr0 hs0 hc0 hF hK
  go_enter Tryd.func3, Tryd.ntmps3
  go_wp2_with fail
  refine (HC1.out _).mono ?_
  rintro e w1 ⟨rfl, rfl⟩
  go_wp2_with fail
  refine (HC2.out _).mono ?_
  rintro e w1 ⟨rfl, rfl⟩
  go_wp2_with fail
  refine (HC3.out _).mono ?_
  rintro e w1 ⟨rfl, rfl⟩
  clear HC1 HC2 HC3
  have br : ((r1.size : Int) == 32) = true := by rw [hr]; rfl
  have bs : ((s1.size : Int) == 32) = true := by rw [hs]; rfl
  have bc : ((c1'.size : Int) == 32) = false := by rw [Bool.eq_false_iff]; intro h; rw [beq_iff_eq] at h; omega
  have bn : ((c1'.size : Int) != 32) = true := by rw [bne, bc]; rfl
  have hR := Root_good r1 s1 hr hs
  have hQ := fun kv => refrootC_any kv r1 s1 (by omega) (by omega)
  obtain ⟨A, eA⟩ : ∃ A, rootA r1 s1 = A := ⟨_, rfl⟩
  obtain ⟨B, eB⟩ : ∃ B, rootB r1 s1 = B := ⟨_, rfl⟩
  simp only [eA, eB] at hR hQ
  clear eA eB
  have HQ := Lib.hid hQ
  clear hQ
  have hS := Step_bad c1' hc
  have HR := Lib.hid hR; have HS := Lib.hid hS
  clear hR hS hr hc hs
  go_wp2_with fail
  refine (HR.out _ HF.out HK.out).mono ?_
  rintro e w2 ⟨rfl, hb⟩
  have HF := Lib.hid (HF.out.on hb); have HK := Lib.hid (HK.out.on hb); have HB := Lib.hid (HB.out.trans (hb.mono HB.out.size))
  clear hb HR
  go_wp2_with fail
  refine (HS.out _).mono ?_
  rintro e w3 ⟨rfl, rfl⟩
  clear HS
  go_wp2_with fail
  refine (numbers_all _).mono ?_
  rintro e w4 ⟨kv, rfl, hKA, hb4⟩
  have HF := Lib.hid (HF.out.on hb4); have HK := Lib.hid (HK.out.on hb4); have HB := Lib.hid (HB.out.trans (hb4.mono HB.out.size))
  have hKA' := hKA
  obtain ⟨k0, k2, rfl, hk0, hk2⟩ := hKA'
  obtain ⟨a0, o0, c0, rfl, -, -⟩ := hk0
  obtain ⟨a1, o1, c1, rfl, -, -⟩ := hk2
  simp only [S8.l_length, keysL_length] at hKA ⊢
  have HKA := Lib.hid hKA
  clear hb4 hKA
  go_upto_region 5 with fail
  have hb5 : Below w4.heap.size w4 (w4.alloc (.cells #[.slice (some ⟨a0, o0, none⟩) 64 c0, .slice (some ⟨a1, o1, none⟩) 8 c1] 29)) := by go_grown
  have hc5 : (w4.alloc (.cells #[.slice (some ⟨a0, o0, none⟩) 64 c0, .slice (some ⟨a1, o1, none⟩) 8 c1] 29)).heap[w4.heap.size]? = some (.cells #[.slice (some ⟨a0, o0, none⟩) 64 c0, .slice (some ⟨a1, o1, none⟩) 8 c1] 29) := heap_alloc_new _ _
  obtain ⟨B5, eB⟩ : ∃ B5, w4.heap.size = B5 := ⟨_, rfl⟩
  generalize World.alloc w4 _ = V at hb5 hc5 ⊢
  have HF := Lib.hid (HF.out.on hb5); have HK := Lib.hid (HK.out.on hb5); have HB := Lib.hid (HB.out.trans (hb5.mono HB.out.size)); have HKA := Lib.hid (HKA.out.on hb5)
  rw [eB] at hc5
  rw [eB]
  clear hb5 eB
  have HC := Lib.hid hc5
  have e0 : V.cell? ⟨B5, 0, none⟩ = some (.slice (some ⟨a0, o0, none⟩) 64 c0) := by rw [cell_of_row _ _ _ _ _ _ hc5]; rfl
  have e1 : V.cell? ⟨B5, 1, none⟩ = some (.slice (some ⟨a1, o1, none⟩) 8 c1) := by rw [cell_of_row _ _ _ _ _ _ hc5]; rfl
  clear hc5
  go_wp2_with fail
  refine (HQ.out _ _ HKA.out).mono ?_
  rintro e w10 ⟨rfl, hb⟩
  have HF := Lib.hid (HF.out.on hb); have HK := Lib.hid (HK.out.on hb); have HB := Lib.hid (HB.out.trans (hb.mono HB.out.size))
  have HC2 := Lib.hid ((hb.block B5 (Array.getElem?_eq_some_iff.1 HC.out).1).trans HC.out)
  clear e0 e1 HC
  have HC := HC2
  clear HC2
  have HKA := Lib.hid (HKA.out.on hb)
  have e0 : w10.cell? ⟨B5, 0, none⟩ = some (.slice (some ⟨a0, o0, none⟩) 64 c0) := by rw [cell_of_row _ _ _ _ _ _ HC.out]; rfl
  have e1 : w10.cell? ⟨B5, 1, none⟩ = some (.slice (some ⟨a1, o1, none⟩) 8 c1) := by rw [cell_of_row _ _ _ _ _ _ HC.out]; rfl
  clear hb HQ
  go_wp2_with fail
  refine (alive10_any _ HF.out HK.out).mono ?_
  rintro e w11 ⟨rfl, hb⟩
  have HF := Lib.hid (HF.out.on hb); have HK := Lib.hid (HK.out.on hb); have HB := Lib.hid (HB.out.trans (hb.mono HB.out.size))
  have HC2 := Lib.hid ((hb.block B5 (Array.getElem?_eq_some_iff.1 HC.out).1).trans HC.out)
  clear e0 e1 HC
  have HC := HC2
  clear HC2
  have HKA := Lib.hid (HKA.out.on hb)
  have e0 : w11.cell? ⟨B5, 0, none⟩ = some (.slice (some ⟨a0, o0, none⟩) 64 c0) := by rw [cell_of_row _ _ _ _ _ _ HC.out]; rfl
  have e1 : w11.cell? ⟨B5, 1, none⟩ = some (.slice (some ⟨a1, o1, none⟩) 8 c1) := by rw [cell_of_row _ _ _ _ _ _ HC.out]; rfl
  clear hb
  go_wp2_with fail
  go_ret
  exact ⟨by first | rfl | simp, HB.out⟩
set_option maxHeartbeats 4000000 in
theorem chainSteps_c (r s c : ByteArray) (hr0 : r.size ≤ maxLen) (hs0 : s.size ≤ maxLen) (hc0 : c.size ≤ maxLen) (hr : (cutS r 40).size = 32) (hs : ¬ (cutS s 40).size = 32) (hc : (cutS c 40).size = 32) (w : World) (hF : FirstAt w) (hK : KeysAt w) :
    Calls Tryd.prog 3 #[.string r, .string s, .string c] w fun e w' => e = .returned (.bool true) ∧ Below w.heap.size w w' := by
  have hc1 := cut10_any r hr0
  have hc2 := cut10_any s hs0
  have hc3 := cut10_any c hc0
  obtain ⟨r1, er⟩ : ∃ r1, cutS r 40 = r1 := ⟨_, rfl⟩
  obtain ⟨s1, es⟩ : ∃ s1, cutS s 40 = s1 := ⟨_, rfl⟩
  obtain ⟨c1', ec⟩ : ∃ c1', cutS c 40 = c1' := ⟨_, rfl⟩
  rw [er] at hc1 hr
  rw [es] at hc2 hs
  rw [ec] at hc3 hc
  have HC1 := Lib.hid hc1; have HC2 := Lib.hid hc2; have HC3 := Lib.hid hc3
  have HF := Lib.hid hF; have HK := Lib.hid hK; have HB := Lib.hid (Below.refl w.heap.size w)
  have hz : (⟨#[]⟩ : ByteArray) ++ ⟨#[]⟩ = ⟨#[]⟩ := by rfl
  clear hc1 hc2 hc3 er es ec hr0 hs0 hc0 hF hK
  go_enter Tryd.func3, Tryd.ntmps3
  go_wp2_with fail
  refine (HC1.out _).mono ?_
  rintro e w1 ⟨rfl, rfl⟩
  go_wp2_with fail
  refine (HC2.out _).mono ?_
  rintro e w1 ⟨rfl, rfl⟩
  go_wp2_with fail
  refine (HC3.out _).mono ?_
  rintro e w1 ⟨rfl, rfl⟩
  clear HC1 HC2 HC3
  have br : ((r1.size : Int) == 32) = true := by rw [hr]; rfl
  have bs : ((s1.size : Int) == 32) = false := by rw [Bool.eq_false_iff]; intro h; rw [beq_iff_eq] at h; omega
  have bc : ((c1'.size : Int) == 32) = true := by rw [hc]; rfl
  have bn : ((c1'.size : Int) != 32) = false := by rw [hc]; rfl
  have hR := Root_bad r1 s1 (fun h => hs h.2)
  have hS := Step_good c1' hc
  have hP := fun kv => refstepC_any kv c1' (by omega)
  obtain ⟨X, eX⟩ : ∃ X, spA c1' stWord = X := ⟨_, rfl⟩
  obtain ⟨Y, eY⟩ : ∃ Y, spB c1' stWord = Y := ⟨_, rfl⟩
  simp only [eX, eY] at hS hP
  clear eX eY
  have HP := Lib.hid hP
  clear hP
  have HR := Lib.hid hR; have HS := Lib.hid hS
  clear hR hS hr hc hs
  go_wp2_with fail
  refine (HR.out _).mono ?_
  rintro e w2 ⟨rfl, rfl⟩
  clear HR
  go_wp2_with fail
  refine (HS.out _ HF.out HK.out).mono ?_
  rintro e w3 ⟨rfl, hb⟩
  have HF := Lib.hid (HF.out.on hb); have HK := Lib.hid (HK.out.on hb); have HB := Lib.hid (HB.out.trans (hb.mono HB.out.size))
  clear hb HS
  go_wp2_with fail
  refine (numbers_all _).mono ?_
  rintro e w4 ⟨kv, rfl, hKA, hb4⟩
  have HF := Lib.hid (HF.out.on hb4); have HK := Lib.hid (HK.out.on hb4); have HB := Lib.hid (HB.out.trans (hb4.mono HB.out.size))
  have hKA' := hKA
  obtain ⟨k0, k2, rfl, hk0, hk2⟩ := hKA'
  obtain ⟨a0, o0, c0, rfl, -, -⟩ := hk0
  obtain ⟨a1, o1, c1, rfl, -, -⟩ := hk2
  simp only [S8.l_length, keysL_length] at hKA ⊢
  have HKA := Lib.hid hKA
  clear hb4 hKA
  go_upto_region 5 with fail
  have hb5 : Below w4.heap.size w4 (w4.alloc (.cells #[.slice (some ⟨a0, o0, none⟩) 64 c0, .slice (some ⟨a1, o1, none⟩) 8 c1] 29)) := by go_grown
  have hc5 : (w4.alloc (.cells #[.slice (some ⟨a0, o0, none⟩) 64 c0, .slice (some ⟨a1, o1, none⟩) 8 c1] 29)).heap[w4.heap.size]? = some (.cells #[.slice (some ⟨a0, o0, none⟩) 64 c0, .slice (some ⟨a1, o1, none⟩) 8 c1] 29) := heap_alloc_new _ _
  obtain ⟨B5, eB⟩ : ∃ B5, w4.heap.size = B5 := ⟨_, rfl⟩
  generalize World.alloc w4 _ = V at hb5 hc5 ⊢
  have HF := Lib.hid (HF.out.on hb5); have HK := Lib.hid (HK.out.on hb5); have HB := Lib.hid (HB.out.trans (hb5.mono HB.out.size)); have HKA := Lib.hid (HKA.out.on hb5)
  rw [eB] at hc5
  rw [eB]
  clear hb5 eB
  have HC := Lib.hid hc5
  have e0 : V.cell? ⟨B5, 0, none⟩ = some (.slice (some ⟨a0, o0, none⟩) 64 c0) := by rw [cell_of_row _ _ _ _ _ _ hc5]; rfl
  have e1 : V.cell? ⟨B5, 1, none⟩ = some (.slice (some ⟨a1, o1, none⟩) 8 c1) := by rw [cell_of_row _ _ _ _ _ _ hc5]; rfl
  clear hc5
  go_wp2_with fail
  refine (alive10_any _ HF.out HK.out).mono ?_
  rintro e w10 ⟨rfl, hb⟩
  have HF := Lib.hid (HF.out.on hb); have HK := Lib.hid (HK.out.on hb); have HB := Lib.hid (HB.out.trans (hb.mono HB.out.size))
  have HC2 := Lib.hid ((hb.block B5 (Array.getElem?_eq_some_iff.1 HC.out).1).trans HC.out)
  clear e0 e1 HC
  have HC := HC2
  clear HC2
  have HKA := Lib.hid (HKA.out.on hb)
  have e0 : w10.cell? ⟨B5, 0, none⟩ = some (.slice (some ⟨a0, o0, none⟩) 64 c0) := by rw [cell_of_row _ _ _ _ _ _ HC.out]; rfl
  have e1 : w10.cell? ⟨B5, 1, none⟩ = some (.slice (some ⟨a1, o1, none⟩) 8 c1) := by rw [cell_of_row _ _ _ _ _ _ HC.out]; rfl
  clear hb
  go_wp2_with fail
  refine (HP.out _ _ HKA.out).mono ?_
  rintro e w11 ⟨rfl, hb⟩
  have HF := Lib.hid (HF.out.on hb); have HK := Lib.hid (HK.out.on hb); have HB := Lib.hid (HB.out.trans (hb.mono HB.out.size))
  clear hb HP
  go_wp2_with fail
  go_ret
  exact ⟨by first | rfl | simp, HB.out⟩
set_option maxHeartbeats 4000000 in
theorem chainSteps_d (r s c : ByteArray) (hr0 : r.size ≤ maxLen) (hs0 : s.size ≤ maxLen) (hc0 : c.size ≤ maxLen) (hr : (cutS r 40).size = 32) (hs : ¬ (cutS s 40).size = 32) (hc : ¬ (cutS c 40).size = 32) (w : World) (hF : FirstAt w) (hK : KeysAt w) :
    Calls Tryd.prog 3 #[.string r, .string s, .string c] w fun e w' => e = .returned (.bool true) ∧ Below w.heap.size w w' := by
  have hc1 := cut10_any r hr0
  have hc2 := cut10_any s hs0
  have hc3 := cut10_any c hc0
  obtain ⟨r1, er⟩ : ∃ r1, cutS r 40 = r1 := ⟨_, rfl⟩
  obtain ⟨s1, es⟩ : ∃ s1, cutS s 40 = s1 := ⟨_, rfl⟩
  obtain ⟨c1', ec⟩ : ∃ c1', cutS c 40 = c1' := ⟨_, rfl⟩
  rw [er] at hc1 hr
  rw [es] at hc2 hs
  rw [ec] at hc3 hc
  have HC1 := Lib.hid hc1; have HC2 := Lib.hid hc2; have HC3 := Lib.hid hc3
  have HF := Lib.hid hF; have HK := Lib.hid hK; have HB := Lib.hid (Below.refl w.heap.size w)
  have hz : (⟨#[]⟩ : ByteArray) ++ ⟨#[]⟩ = ⟨#[]⟩ := by rfl
  clear hc1 hc2 hc3 er es ec hr0 hs0 hc0 hF hK
  go_enter Tryd.func3, Tryd.ntmps3
  go_wp2_with fail
  refine (HC1.out _).mono ?_
  rintro e w1 ⟨rfl, rfl⟩
  go_wp2_with fail
  refine (HC2.out _).mono ?_
  rintro e w1 ⟨rfl, rfl⟩
  go_wp2_with fail
  refine (HC3.out _).mono ?_
  rintro e w1 ⟨rfl, rfl⟩
  clear HC1 HC2 HC3
  have br : ((r1.size : Int) == 32) = true := by rw [hr]; rfl
  have bs : ((s1.size : Int) == 32) = false := by rw [Bool.eq_false_iff]; intro h; rw [beq_iff_eq] at h; omega
  have bc : ((c1'.size : Int) == 32) = false := by rw [Bool.eq_false_iff]; intro h; rw [beq_iff_eq] at h; omega
  have bn : ((c1'.size : Int) != 32) = true := by rw [bne, bc]; rfl
  have hR := Root_bad r1 s1 (fun h => hs h.2)
  have hS := Step_bad c1' hc
  have HR := Lib.hid hR; have HS := Lib.hid hS
  clear hR hS hr hc hs
  go_wp2_with fail
  refine (HR.out _).mono ?_
  rintro e w2 ⟨rfl, rfl⟩
  clear HR
  go_wp2_with fail
  refine (HS.out _).mono ?_
  rintro e w3 ⟨rfl, rfl⟩
  clear HS
  go_wp2_with fail
  refine (numbers_all _).mono ?_
  rintro e w4 ⟨kv, rfl, hKA, hb4⟩
  have HF := Lib.hid (HF.out.on hb4); have HK := Lib.hid (HK.out.on hb4); have HB := Lib.hid (HB.out.trans (hb4.mono HB.out.size))
  have hKA' := hKA
  obtain ⟨k0, k2, rfl, hk0, hk2⟩ := hKA'
  obtain ⟨a0, o0, c0, rfl, -, -⟩ := hk0
  obtain ⟨a1, o1, c1, rfl, -, -⟩ := hk2
  simp only [S8.l_length, keysL_length] at hKA ⊢
  have HKA := Lib.hid hKA
  clear hb4 hKA
  go_upto_region 5 with fail
  have hb5 : Below w4.heap.size w4 (w4.alloc (.cells #[.slice (some ⟨a0, o0, none⟩) 64 c0, .slice (some ⟨a1, o1, none⟩) 8 c1] 29)) := by go_grown
  have hc5 : (w4.alloc (.cells #[.slice (some ⟨a0, o0, none⟩) 64 c0, .slice (some ⟨a1, o1, none⟩) 8 c1] 29)).heap[w4.heap.size]? = some (.cells #[.slice (some ⟨a0, o0, none⟩) 64 c0, .slice (some ⟨a1, o1, none⟩) 8 c1] 29) := heap_alloc_new _ _
  obtain ⟨B5, eB⟩ : ∃ B5, w4.heap.size = B5 := ⟨_, rfl⟩
  generalize World.alloc w4 _ = V at hb5 hc5 ⊢
  have HF := Lib.hid (HF.out.on hb5); have HK := Lib.hid (HK.out.on hb5); have HB := Lib.hid (HB.out.trans (hb5.mono HB.out.size)); have HKA := Lib.hid (HKA.out.on hb5)
  rw [eB] at hc5
  rw [eB]
  clear hb5 eB
  have HC := Lib.hid hc5
  have e0 : V.cell? ⟨B5, 0, none⟩ = some (.slice (some ⟨a0, o0, none⟩) 64 c0) := by rw [cell_of_row _ _ _ _ _ _ hc5]; rfl
  have e1 : V.cell? ⟨B5, 1, none⟩ = some (.slice (some ⟨a1, o1, none⟩) 8 c1) := by rw [cell_of_row _ _ _ _ _ _ hc5]; rfl
  clear hc5
  go_wp2_with fail
  refine (alive10_any _ HF.out HK.out).mono ?_
  rintro e w10 ⟨rfl, hb⟩
  have HF := Lib.hid (HF.out.on hb); have HK := Lib.hid (HK.out.on hb); have HB := Lib.hid (HB.out.trans (hb.mono HB.out.size))
  have HC2 := Lib.hid ((hb.block B5 (Array.getElem?_eq_some_iff.1 HC.out).1).trans HC.out)
  clear e0 e1 HC
  have HC := HC2
  clear HC2
  have HKA := Lib.hid (HKA.out.on hb)
  have e0 : w10.cell? ⟨B5, 0, none⟩ = some (.slice (some ⟨a0, o0, none⟩) 64 c0) := by rw [cell_of_row _ _ _ _ _ _ HC.out]; rfl
  have e1 : w10.cell? ⟨B5, 1, none⟩ = some (.slice (some ⟨a1, o1, none⟩) 8 c1) := by rw [cell_of_row _ _ _ _ _ _ HC.out]; rfl
  clear hb
  go_wp2_with fail
  go_ret
  exact ⟨by first | rfl | simp, HB.out⟩
set_option maxHeartbeats 4000000 in
theorem chainSteps_e (r s c : ByteArray) (hr0 : r.size ≤ maxLen) (hs0 : s.size ≤ maxLen) (hc0 : c.size ≤ maxLen) (hr : ¬ (cutS r 40).size = 32) (hc : (cutS c 40).size = 32) (w : World) (hF : FirstAt w) (hK : KeysAt w) :
    Calls Tryd.prog 3 #[.string r, .string s, .string c] w fun e w' => e = .returned (.bool true) ∧ Below w.heap.size w w' := by
  have hc1 := cut10_any r hr0
  have hc2 := cut10_any s hs0
  have hc3 := cut10_any c hc0
  obtain ⟨r1, er⟩ : ∃ r1, cutS r 40 = r1 := ⟨_, rfl⟩
  obtain ⟨s1, es⟩ : ∃ s1, cutS s 40 = s1 := ⟨_, rfl⟩
  obtain ⟨c1', ec⟩ : ∃ c1', cutS c 40 = c1' := ⟨_, rfl⟩
  rw [er] at hc1 hr
  rw [es] at hc2
  rw [ec] at hc3 hc
  have HC1 := Lib.hid hc1; have HC2 := Lib.hid hc2; have HC3 := Lib.hid hc3
  have HF := Lib.hid hF; have HK := Lib.hid hK; have HB := Lib.hid (Below.refl w.heap.size w)
  have hz : (⟨#[]⟩ : ByteArray) ++ ⟨#[]⟩ = ⟨#[]⟩ := by rfl
  clear hc1 hc2 hc3 er es ec hr0 hs0 hc0 hF hK
  go_enter Tryd.func3, Tryd.ntmps3
  go_wp2_with fail
  refine (HC1.out _).mono ?_
  rintro e w1 ⟨rfl, rfl⟩
  go_wp2_with fail
  refine (HC2.out _).mono ?_
  rintro e w1 ⟨rfl, rfl⟩
  go_wp2_with fail
  refine (HC3.out _).mono ?_
  rintro e w1 ⟨rfl, rfl⟩
  clear HC1 HC2 HC3
  have br : ((r1.size : Int) == 32) = false := by rw [Bool.eq_false_iff]; intro h; rw [beq_iff_eq] at h; omega
  have bc : ((c1'.size : Int) == 32) = true := by rw [hc]; rfl
  have bn : ((c1'.size : Int) != 32) = false := by rw [hc]; rfl
  have hR := Root_bad r1 s1 (fun h => hr h.1)
  have hS := Step_good c1' hc
  have hP := fun kv => refstepC_any kv c1' (by omega)
  obtain ⟨X, eX⟩ : ∃ X, spA c1' stWord = X := ⟨_, rfl⟩
  obtain ⟨Y, eY⟩ : ∃ Y, spB c1' stWord = Y := ⟨_, rfl⟩
  simp only [eX, eY] at hS hP
  clear eX eY
  have HP := Lib.hid hP
  clear hP
  have HR := Lib.hid hR; have HS := Lib.hid hS
  clear hR hS hr hc
  go_wp2_with fail
  refine (HR.out _).mono ?_
  rintro e w2 ⟨rfl, rfl⟩
  clear HR
  go_wp2_with fail
  refine (HS.out _ HF.out HK.out).mono ?_
  rintro e w3 ⟨rfl, hb⟩
  have HF := Lib.hid (HF.out.on hb); have HK := Lib.hid (HK.out.on hb); have HB := Lib.hid (HB.out.trans (hb.mono HB.out.size))
  clear hb HS
  go_wp2_with fail
  refine (numbers_all _).mono ?_
  rintro e w4 ⟨kv, rfl, hKA, hb4⟩
  have HF := Lib.hid (HF.out.on hb4); have HK := Lib.hid (HK.out.on hb4); have HB := Lib.hid (HB.out.trans (hb4.mono HB.out.size))
  have hKA' := hKA
  obtain ⟨k0, k2, rfl, hk0, hk2⟩ := hKA'
  obtain ⟨a0, o0, c0, rfl, -, -⟩ := hk0
  obtain ⟨a1, o1, c1, rfl, -, -⟩ := hk2
  simp only [S8.l_length, keysL_length] at hKA ⊢
  have HKA := Lib.hid hKA
  clear hb4 hKA
  go_upto_region 5 with fail
  have hb5 : Below w4.heap.size w4 (w4.alloc (.cells #[.slice (some ⟨a0, o0, none⟩) 64 c0, .slice (some ⟨a1, o1, none⟩) 8 c1] 29)) := by go_grown
  have hc5 : (w4.alloc (.cells #[.slice (some ⟨a0, o0, none⟩) 64 c0, .slice (some ⟨a1, o1, none⟩) 8 c1] 29)).heap[w4.heap.size]? = some (.cells #[.slice (some ⟨a0, o0, none⟩) 64 c0, .slice (some ⟨a1, o1, none⟩) 8 c1] 29) := heap_alloc_new _ _
  obtain ⟨B5, eB⟩ : ∃ B5, w4.heap.size = B5 := ⟨_, rfl⟩
  generalize World.alloc w4 _ = V at hb5 hc5 ⊢
  have HF := Lib.hid (HF.out.on hb5); have HK := Lib.hid (HK.out.on hb5); have HB := Lib.hid (HB.out.trans (hb5.mono HB.out.size)); have HKA := Lib.hid (HKA.out.on hb5)
  rw [eB] at hc5
  rw [eB]
  clear hb5 eB
  have HC := Lib.hid hc5
  have e0 : V.cell? ⟨B5, 0, none⟩ = some (.slice (some ⟨a0, o0, none⟩) 64 c0) := by rw [cell_of_row _ _ _ _ _ _ hc5]; rfl
  have e1 : V.cell? ⟨B5, 1, none⟩ = some (.slice (some ⟨a1, o1, none⟩) 8 c1) := by rw [cell_of_row _ _ _ _ _ _ hc5]; rfl
  clear hc5
  go_wp2_with fail
  refine (alive10_any _ HF.out HK.out).mono ?_
  rintro e w10 ⟨rfl, hb⟩
  have HF := Lib.hid (HF.out.on hb); have HK := Lib.hid (HK.out.on hb); have HB := Lib.hid (HB.out.trans (hb.mono HB.out.size))
  have HC2 := Lib.hid ((hb.block B5 (Array.getElem?_eq_some_iff.1 HC.out).1).trans HC.out)
  clear e0 e1 HC
  have HC := HC2
  clear HC2
  have HKA := Lib.hid (HKA.out.on hb)
  have e0 : w10.cell? ⟨B5, 0, none⟩ = some (.slice (some ⟨a0, o0, none⟩) 64 c0) := by rw [cell_of_row _ _ _ _ _ _ HC.out]; rfl
  have e1 : w10.cell? ⟨B5, 1, none⟩ = some (.slice (some ⟨a1, o1, none⟩) 8 c1) := by rw [cell_of_row _ _ _ _ _ _ HC.out]; rfl
  clear hb
  go_wp2_with fail
  refine (HP.out _ _ HKA.out).mono ?_
  rintro e w11 ⟨rfl, hb⟩
  have HF := Lib.hid (HF.out.on hb); have HK := Lib.hid (HK.out.on hb); have HB := Lib.hid (HB.out.trans (hb.mono HB.out.size))
  clear hb HP
  go_wp2_with fail
  go_ret
  exact ⟨by first | rfl | simp, HB.out⟩
set_option maxHeartbeats 4000000 in
theorem chainSteps_f (r s c : ByteArray) (hr0 : r.size ≤ maxLen) (hs0 : s.size ≤ maxLen) (hc0 : c.size ≤ maxLen) (hr : ¬ (cutS r 40).size = 32) (hc : ¬ (cutS c 40).size = 32) (w : World) (hF : FirstAt w) (hK : KeysAt w) :
    Calls Tryd.prog 3 #[.string r, .string s, .string c] w fun e w' => e = .returned (.bool true) ∧ Below w.heap.size w w' := by
  have hc1 := cut10_any r hr0
  have hc2 := cut10_any s hs0
  have hc3 := cut10_any c hc0
  obtain ⟨r1, er⟩ : ∃ r1, cutS r 40 = r1 := ⟨_, rfl⟩
  obtain ⟨s1, es⟩ : ∃ s1, cutS s 40 = s1 := ⟨_, rfl⟩
  obtain ⟨c1', ec⟩ : ∃ c1', cutS c 40 = c1' := ⟨_, rfl⟩
  rw [er] at hc1 hr
  rw [es] at hc2
  rw [ec] at hc3 hc
  have HC1 := Lib.hid hc1; have HC2 := Lib.hid hc2; have HC3 := Lib.hid hc3
  have HF := Lib.hid hF; have HK := Lib.hid hK; have HB := Lib.hid (Below.refl w.heap.size w)
  have hz : (⟨#[]⟩ : ByteArray) ++ ⟨#[]⟩ = ⟨#[]⟩ := by rfl
  clear hc1 hc2 hc3 er es ec hr0 hs0 hc0 hF hK
  go_enter Tryd.func3, Tryd.ntmps3
  go_wp2_with fail
  refine (HC1.out _).mono ?_
  rintro e w1 ⟨rfl, rfl⟩
  go_wp2_with fail
  refine (HC2.out _).mono ?_
  rintro e w1 ⟨rfl, rfl⟩
  go_wp2_with fail
  refine (HC3.out _).mono ?_
  rintro e w1 ⟨rfl, rfl⟩
  clear HC1 HC2 HC3
  have br : ((r1.size : Int) == 32) = false := by rw [Bool.eq_false_iff]; intro h; rw [beq_iff_eq] at h; omega
  have bc : ((c1'.size : Int) == 32) = false := by rw [Bool.eq_false_iff]; intro h; rw [beq_iff_eq] at h; omega
  have bn : ((c1'.size : Int) != 32) = true := by rw [bne, bc]; rfl
  have hR := Root_bad r1 s1 (fun h => hr h.1)
  have hS := Step_bad c1' hc
  have HR := Lib.hid hR; have HS := Lib.hid hS
  clear hR hS hr hc
  go_wp2_with fail
  refine (HR.out _).mono ?_
  rintro e w2 ⟨rfl, rfl⟩
  clear HR
  go_wp2_with fail
  refine (HS.out _).mono ?_
  rintro e w3 ⟨rfl, rfl⟩
  clear HS
  go_wp2_with fail
  refine (numbers_all _).mono ?_
  rintro e w4 ⟨kv, rfl, hKA, hb4⟩
  have HF := Lib.hid (HF.out.on hb4); have HK := Lib.hid (HK.out.on hb4); have HB := Lib.hid (HB.out.trans (hb4.mono HB.out.size))
  have hKA' := hKA
  obtain ⟨k0, k2, rfl, hk0, hk2⟩ := hKA'
  obtain ⟨a0, o0, c0, rfl, -, -⟩ := hk0
  obtain ⟨a1, o1, c1, rfl, -, -⟩ := hk2
  simp only [S8.l_length, keysL_length] at hKA ⊢
  have HKA := Lib.hid hKA
  clear hb4 hKA
  go_upto_region 5 with fail
  have hb5 : Below w4.heap.size w4 (w4.alloc (.cells #[.slice (some ⟨a0, o0, none⟩) 64 c0, .slice (some ⟨a1, o1, none⟩) 8 c1] 29)) := by go_grown
  have hc5 : (w4.alloc (.cells #[.slice (some ⟨a0, o0, none⟩) 64 c0, .slice (some ⟨a1, o1, none⟩) 8 c1] 29)).heap[w4.heap.size]? = some (.cells #[.slice (some ⟨a0, o0, none⟩) 64 c0, .slice (some ⟨a1, o1, none⟩) 8 c1] 29) := heap_alloc_new _ _
  obtain ⟨B5, eB⟩ : ∃ B5, w4.heap.size = B5 := ⟨_, rfl⟩
  generalize World.alloc w4 _ = V at hb5 hc5 ⊢
  have HF := Lib.hid (HF.out.on hb5); have HK := Lib.hid (HK.out.on hb5); have HB := Lib.hid (HB.out.trans (hb5.mono HB.out.size)); have HKA := Lib.hid (HKA.out.on hb5)
  rw [eB] at hc5
  rw [eB]
  clear hb5 eB
  have HC := Lib.hid hc5
  have e0 : V.cell? ⟨B5, 0, none⟩ = some (.slice (some ⟨a0, o0, none⟩) 64 c0) := by rw [cell_of_row _ _ _ _ _ _ hc5]; rfl
  have e1 : V.cell? ⟨B5, 1, none⟩ = some (.slice (some ⟨a1, o1, none⟩) 8 c1) := by rw [cell_of_row _ _ _ _ _ _ hc5]; rfl
  clear hc5
  go_wp2_with fail
  refine (alive10_any _ HF.out HK.out).mono ?_
  rintro e w10 ⟨rfl, hb⟩
  have HF := Lib.hid (HF.out.on hb); have HK := Lib.hid (HK.out.on hb); have HB := Lib.hid (HB.out.trans (hb.mono HB.out.size))
  have HC2 := Lib.hid ((hb.block B5 (Array.getElem?_eq_some_iff.1 HC.out).1).trans HC.out)
  clear e0 e1 HC
  have HC := HC2
  clear HC2
  have HKA := Lib.hid (HKA.out.on hb)
  have e0 : w10.cell? ⟨B5, 0, none⟩ = some (.slice (some ⟨a0, o0, none⟩) 64 c0) := by rw [cell_of_row _ _ _ _ _ _ HC.out]; rfl
  have e1 : w10.cell? ⟨B5, 1, none⟩ = some (.slice (some ⟨a1, o1, none⟩) 8 c1) := by rw [cell_of_row _ _ _ _ _ _ HC.out]; rfl
  clear hb
  go_wp2_with fail
  go_ret
  exact ⟨by first | rfl | simp, HB.out⟩
theorem chainSteps_any (r s c : ByteArray) (hr0 : r.size ≤ maxLen) (hs0 : s.size ≤ maxLen) (hc0 : c.size ≤ maxLen) (w : World) (hF : FirstAt w) (hK : KeysAt w) :
    Calls Tryd.prog 3 #[.string r, .string s, .string c] w fun e w' => e = .returned (.bool true) ∧ Below w.heap.size w w' := by
  by_cases hr : (cutS r 40).size = 32
  · by_cases hs : (cutS s 40).size = 32
    · by_cases hc : (cutS c 40).size = 32
      · exact chainSteps_a r s c hr0 hs0 hc0 hr hs hc w hF hK
      · exact chainSteps_b r s c hr0 hs0 hc0 hr hs hc w hF hK
    · by_cases hc : (cutS c 40).size = 32
      · exact chainSteps_c r s c hr0 hs0 hc0 hr hs hc w hF hK
      · exact chainSteps_d r s c hr0 hs0 hc0 hr hs hc w hF hK
  · by_cases hc : (cutS c 40).size = 32
    · exact chainSteps_e r s c hr0 hs0 hc0 hr hc w hF hK
    · exact chainSteps_f r s c hr0 hs0 hc0 hr hc w hF hK
end Go.Proofs.YtolobdeilfgmnaaDoor
