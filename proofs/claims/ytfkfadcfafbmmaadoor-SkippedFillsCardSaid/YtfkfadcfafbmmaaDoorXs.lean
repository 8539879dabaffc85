/- SkippedFills: any table filled, of any chain, is as the document says, or refused. -/
import Derived.Test.YtfkfadcfafbmmaaDoorXk
import Derived.Test.YtfkfadcfafbmmaaDoorXpf
import Derived.Test.YtfkfadcfafbmmaaDoorXm
import Derived.Test.YtfkfadcfafbmmaaDoorBg8
import Derived.Lib.QuietBelow
import Derived.BigQuiet
namespace Go.Proofs.YtfkfadcfafbmmaaDoor
open Go.RowKit Go.Sort
set_option maxRecDepth 100000

set_option maxHeartbeats 16000000 in
theorem skippedFills_wrong (a : Option Addr) (ca : Nat) (l0 : List Kk) (r c0 : ByteArray) (f t : Nat) (hl0 : l0.length ≤ maxLen) (hla : l0.length ≤ ca) (hc0 : c0.size ≤ maxLen) (hf : f < 18446744073709551616) (ht : t < 18446744073709551616) (l : List Kk) (hl : l0.take 22 = l) (c : ByteArray) (hc : cutK c0 40 = c) (hr : ¬ rightK l) (w : World) (hp : KSl w a l0) (hF : FirstAt w) (hK : KeysAt w) :
    Calls Tryd.prog 3 #[.slice a l0.length ca, .string r, .string c0, .int .u64 (f : Int), .int .u64 (t : Int)] w fun e w' => e = .returned (.bool true) ∧ Below w.heap.size w w' := by
  have hll : l.length ≤ 22 := by rw [← hl, List.length_take]; omega
  have hlca : l.length ≤ ca := by rw [← hl, List.length_take]; omega
  have hp1 := hp.take 22
  rw [hl] at hp1
  have hfe := few12_eq a ca l0 hl0 hla
  rw [hl] at hfe
  have hcm : c0.extract 0 (min (c0.size : Int) 40).toNat = c := by rw [← hc]; exact cutK_min c0 40
  have hcs : c.size ≤ 40 := by rw [← hc]; exact cutK_size _ _
  unfold maxLen at hc0
  have hfe2 : ∀ (d : Nat) (os : Array Obj), Calls Tryd.prog 5 #[.slice a l0.length ca] (grow (redrawn w d) os) fun e w' => e = .returned (.slice a l.length ca) ∧ Below (grow (redrawn w d) os).heap.size (grow (redrawn w d) os) w' := fun d os => (hfe _).mono fun _ _ ⟨h1, h2⟩ => ⟨h1, by rw [← h2]; exact Below.refl _ _⟩
  have HFE := Lib.hid hfe2
  clear hfe2
  have HKL := Lib.hid hp1; have HF := Lib.hid hF; have HK := Lib.hid hK; have HLC := Lib.hid hlca; have HB := Lib.hid (Below.refl w.heap.size w)
  have hR := fun (W : World) => rightR_any a ca l (by omega) hlca W
  have hfl := fun (W : World) => Fill_any a ca l r c f t hll hlca hf ht W
  obtain ⟨h1, h2, h3⟩ := fillE_wrong hr r c f t
  rw [h1, h2, h3] at hfl
  rw [decide_eq_false hr] at hR
  have HR := Lib.hid hR; have HFL := Lib.hid hfl
  clear hR hfl hr h1 h2 h3 hp hl hc hl0 hla hp1 hfe hF hK hll hlca hf ht hcs
  go_enter Tryd.func3, Tryd.ntmps3
  go_upto_region 1 with fail
  refine wp_region_quiet_below (by kernel_rfl) (by kernel_rfl) ?_
  iterate 9 (go_big_quiet_step (first | (go_at_call 5; with_reducible exact Calls.regrown_of (HFE.out _ _))))
  refine wpQuiet_nil ?_
  intro _ hw'
  obtain ⟨⟨dq, osq⟩, hw''⟩ := hw'
  subst hw''
  have hb := below_regrown w dq osq
  generalize grow (redrawn w dq) osq = w1 at hb ⊢
  clear hcm hc0 HFE
  have HB2 := Lib.hid (HB.out.trans (hb.mono HB.out.size)); have HKL2 := Lib.hid (HKL.out.on hb); have HF2 := Lib.hid (HF.out.on hb); have HK2 := Lib.hid (HK.out.on hb)
  clear HB HKL HF HK
  have HB := HB2; have HKL := HKL2; have HF := HF2; have HK := HK2
  clear HB2 HKL2 HF2 HK2
  clear hb
  rename_i K hK
  refine hK _ _ ?_
  clear hK K
  go_wp2_with fail
  refine (HFL.out _ HKL.out HF.out HK.out).mono ?_
  rintro e w2 ⟨a2, c2, rfl, hc2, hk, hb⟩
  have HB2 := Lib.hid (HB.out.trans (hb.mono HB.out.size)); have HKL2 := Lib.hid (HKL.out.on hb); have HF2 := Lib.hid (HF.out.on hb); have HK2 := Lib.hid (HK.out.on hb)
  clear HB HKL HF HK
  have HB := HB2; have HKL := HKL2; have HF := HF2; have HK := HK2
  clear HB2 HKL2 HF2 HK2
  clear hb hk hc2 HFL
  go_wp2_with fail
  refine (HR.out _ HKL.out).mono ?_
  rintro e w3 ⟨rfl, hb⟩
  have HB2 := Lib.hid (HB.out.trans (hb.mono HB.out.size)); have HKL2 := Lib.hid (HKL.out.on hb); have HF2 := Lib.hid (HF.out.on hb); have HK2 := Lib.hid (HK.out.on hb)
  clear HB HKL HF HK
  have HB := HB2; have HKL := HKL2; have HF := HF2; have HK := HK2
  clear HB2 HKL2 HF2 HK2
  clear hb HR
  go_wp2_with fail
  refine (alive12_any _).mono ?_
  rintro e w4 ⟨rfl, hb⟩
  have HB2 := Lib.hid (HB.out.trans (hb.mono HB.out.size)); have HKL2 := Lib.hid (HKL.out.on hb); have HF2 := Lib.hid (HF.out.on hb); have HK2 := Lib.hid (HK.out.on hb)
  clear HB HKL HF HK
  have HB := HB2; have HKL := HKL2; have HF := HF2; have HK := HK2
  clear HB2 HKL2 HF2 HK2
  clear hb
  go_wp2_with fail
  go_ret
  exact ⟨by first | rfl | simp, HB.out⟩
set_option maxHeartbeats 16000000 in
theorem skippedFills_right (a : Option Addr) (ca : Nat) (l0 : List Kk) (r c0 : ByteArray) (f t : Nat) (hl0 : l0.length ≤ maxLen) (hla : l0.length ≤ ca) (hc0 : c0.size ≤ maxLen) (hf : f < 18446744073709551616) (ht : t < 18446744073709551616) (l : List Kk) (hl : l0.take 22 = l) (c : ByteArray) (hc : cutK c0 40 = c) (hr : rightK l) (w : World) (hp : KSl w a l0) (hF : FirstAt w) (hK : KeysAt w) :
    Calls Tryd.prog 3 #[.slice a l0.length ca, .string r, .string c0, .int .u64 (f : Int), .int .u64 (t : Int)] w fun e w' => e = .returned (.bool true) ∧ Below w.heap.size w w' := by
  have hll : l.length ≤ 22 := by rw [← hl, List.length_take]; omega
  have hlca : l.length ≤ ca := by rw [← hl, List.length_take]; omega
  have hp1 := hp.take 22
  rw [hl] at hp1
  have hfe := few12_eq a ca l0 hl0 hla
  rw [hl] at hfe
  have hcm : c0.extract 0 (min (c0.size : Int) 40).toNat = c := by rw [← hc]; exact cutK_min c0 40
  have hcs : c.size ≤ 40 := by rw [← hc]; exact cutK_size _ _
  unfold maxLen at hc0
  have hfe2 : ∀ (d : Nat) (os : Array Obj), Calls Tryd.prog 5 #[.slice a l0.length ca] (grow (redrawn w d) os) fun e w' => e = .returned (.slice a l.length ca) ∧ Below (grow (redrawn w d) os).heap.size (grow (redrawn w d) os) w' := fun d os => (hfe _).mono fun _ _ ⟨h1, h2⟩ => ⟨h1, by rw [← h2]; exact Below.refl _ _⟩
  have HFE := Lib.hid hfe2
  clear hfe2
  have HKL := Lib.hid hp1; have HF := Lib.hid hF; have HK := Lib.hid hK; have HLC := Lib.hid hlca; have HB := Lib.hid (Below.refl w.heap.size w)
  have hR := fun (W : World) => rightR_any a ca l (by omega) hlca W
  have hfl := fun (W : World) => Fill_any a ca l r c f t hll hlca hf ht W
  obtain ⟨h1, h2, h3⟩ := fillE_right hr r c f t
  rw [h1, h2, h3] at hfl
  rw [decide_eq_true hr] at hR
  have hrf := fun (kv : Value) (W : World) => fillR_any kv a ca l r c f t hll hlca hf ht W
  have hTl := fillT_length l r c f t hll
  obtain ⟨X, eX⟩ : ∃ X, fillX l r c f t = X := ⟨_, rfl⟩
  obtain ⟨L, eL⟩ : ∃ L, fillT l r c f t = L := ⟨_, rfl⟩
  obtain ⟨C, eC⟩ : ∃ C, fillC l r c f t = C := ⟨_, rfl⟩
  simp only [eX, eL, eC] at hfl hrf
  rw [eL] at hTl
  have hSM := fun (x y : Option Addr) (c c' : Nat) (W : World) => sameR_any x y c c' L L (by omega) W
  rw [decide_eq_true rfl] at hSM
  have HR := Lib.hid hR; have HFL := Lib.hid hfl; have HRF := Lib.hid hrf; have HSM := Lib.hid hSM
  clear hR hfl hrf hSM hTl eX eL eC hr h1 h2 h3 hp hl hc hl0 hla hp1 hfe hF hK hll hlca hf ht hcs
  go_enter Tryd.func3, Tryd.ntmps3
  go_upto_region 1 with fail
  refine wp_region_quiet_below (by kernel_rfl) (by kernel_rfl) ?_
  iterate 9 (go_big_quiet_step (first | (go_at_call 5; with_reducible exact Calls.regrown_of (HFE.out _ _))))
  refine wpQuiet_nil ?_
  intro _ hw'
  obtain ⟨⟨dq, osq⟩, hw''⟩ := hw'
  subst hw''
  have hb := below_regrown w dq osq
  generalize grow (redrawn w dq) osq = w1 at hb ⊢
  clear hcm hc0 HFE
  have HB2 := Lib.hid (HB.out.trans (hb.mono HB.out.size)); have HKL2 := Lib.hid (HKL.out.on hb); have HF2 := Lib.hid (HF.out.on hb); have HK2 := Lib.hid (HK.out.on hb)
  clear HB HKL HF HK
  have HB := HB2; have HKL := HKL2; have HF := HF2; have HK := HK2
  clear HB2 HKL2 HF2 HK2
  clear hb
  rename_i K hK
  refine hK _ _ ?_
  clear hK K
  go_wp2_with fail
  refine (HFL.out _ HKL.out HF.out HK.out).mono ?_
  rintro e w2 ⟨a2, c2, rfl, hc2, hk, hb⟩
  have HB2 := Lib.hid (HB.out.trans (hb.mono HB.out.size)); have HKL2 := Lib.hid (HKL.out.on hb); have HF2 := Lib.hid (HF.out.on hb); have HK2 := Lib.hid (HK.out.on hb)
  clear HB HKL HF HK
  have HB := HB2; have HKL := HKL2; have HF := HF2; have HK := HK2
  clear HB2 HKL2 HF2 HK2
  have HKT := Lib.hid hk
  clear hb hk hc2 HFL
  go_wp2_with fail
  refine (HR.out _ HKL.out).mono ?_
  rintro e w3 ⟨rfl, hb⟩
  have HB2 := Lib.hid (HB.out.trans (hb.mono HB.out.size)); have HKL2 := Lib.hid (HKL.out.on hb); have HF2 := Lib.hid (HF.out.on hb); have HK2 := Lib.hid (HK.out.on hb)
  clear HB HKL HF HK
  have HB := HB2; have HKL := HKL2; have HF := HF2; have HK := HK2
  clear HB2 HKL2 HF2 HK2
  have HKT2 := Lib.hid (HKT.out.on hb)
  clear hb HR HKT
  go_wp2_with fail
  refine (numbers_all _).mono ?_
  rintro e w5 ⟨kv, rfl, hKA, hb⟩
  have HB2 := Lib.hid (HB.out.trans (hb.mono HB.out.size)); have HKL2 := Lib.hid (HKL.out.on hb); have HF2 := Lib.hid (HF.out.on hb); have HK2 := Lib.hid (HK.out.on hb)
  clear HB HKL HF HK
  have HB := HB2; have HKL := HKL2; have HF := HF2; have HK := HK2
  clear HB2 HKL2 HF2 HK2
  have HKA := Lib.hid hKA; have HKT := Lib.hid (HKT2.out.on hb)
  clear hb hKA HKT2
  go_wp2_with fail
  refine (HRF.out _ _ HKA.out HKL.out).mono ?_
  rintro e w6 ⟨a3, c3, rfl, hc3, hk, hb⟩
  have HB2 := Lib.hid (HB.out.trans (hb.mono HB.out.size)); have HKL2 := Lib.hid (HKL.out.on hb); have HF2 := Lib.hid (HF.out.on hb); have HK2 := Lib.hid (HK.out.on hb)
  clear HB HKL HF HK
  have HB := HB2; have HKL := HKL2; have HF := HF2; have HK := HK2
  clear HB2 HKL2 HF2 HK2
  have HKT2 := Lib.hid (HKT.out.on hb); have HKR := Lib.hid hk
  clear hb hk hc3 HRF HKT HKA
  have hal : Below w6.heap.size w6 (w6.alloc (.cells #[.slice a3 L.length c3, .string C, .int .i64 X] 31)) := (Below.refl _ _).alloc (Nat.le_refl _) _
  have hC := heap_alloc_new w6 (.cells #[.slice a3 L.length c3, .string C, .int .i64 X] 31)
  go_upto_region 6 with fail
  obtain ⟨V, eV⟩ : ∃ V, w6.alloc (.cells #[.slice a3 L.length c3, .string C, .int .i64 X] 31) = V := ⟨_, rfl⟩
  obtain ⟨B, eB⟩ : ∃ B, w6.heap.size = B := ⟨_, rfl⟩
  rw [eV] at hal hC ⊢
  rw [eB] at hC ⊢
  have hb : Below w6.heap.size w6 V := hal
  have HB2 := Lib.hid (HB.out.trans (hb.mono HB.out.size)); have HKL2 := Lib.hid (HKL.out.on hb); have HF2 := Lib.hid (HF.out.on hb); have HK2 := Lib.hid (HK.out.on hb)
  clear HB HKL HF HK
  have HB := HB2; have HKL := HKL2; have HF := HF2; have HK := HK2
  clear HB2 HKL2 HF2 HK2
  have HKT := Lib.hid (HKT2.out.on hb); have HKR2 := Lib.hid (HKR.out.on hb); have HC := Lib.hid hC
  clear hb hal hC HKT2 HKR eV
  go_wp2_with fail
  refine (alive12_any _).mono ?_
  rintro e w7 ⟨rfl, hb⟩
  have HB2 := Lib.hid (HB.out.trans (hb.mono HB.out.size)); have HKL2 := Lib.hid (HKL.out.on hb); have HF2 := Lib.hid (HF.out.on hb); have HK2 := Lib.hid (HK.out.on hb)
  clear HB HKL HF HK
  have HB := HB2; have HKL := HKL2; have HF := HF2; have HK := HK2
  clear HB2 HKL2 HF2 HK2
  have HKT2 := Lib.hid (HKT.out.on hb); have HKR := Lib.hid (HKR2.out.on hb); have HC2 := Lib.hid ((hb.block B (Array.getElem?_eq_some_iff.1 HC.out).1).trans HC.out)
  clear hb HKT HKR2 HC
  have e0 : w7.cell? ⟨B, 0, none⟩ = some (.slice a3 L.length c3) := by rw [cell_of_row _ _ _ _ _ _ HC2.out]; rfl
  have e1 : w7.cell? ⟨B, 1, none⟩ = some (.string C) := by rw [cell_of_row _ _ _ _ _ _ HC2.out]; rfl
  have e2 : w7.cell? ⟨B, 2, none⟩ = some (.int .i64 X) := by rw [cell_of_row _ _ _ _ _ _ HC2.out]; rfl
  go_wp2_with fail
  refine (HSM.out _ _ _ _ _ HKT2.out HKR.out).mono ?_
  rintro e w8 ⟨rfl, hb⟩
  have HB2 := Lib.hid (HB.out.trans (hb.mono HB.out.size)); have HKL2 := Lib.hid (HKL.out.on hb); have HF2 := Lib.hid (HF.out.on hb); have HK2 := Lib.hid (HK.out.on hb)
  clear HB HKL HF HK
  have HB := HB2; have HKL := HKL2; have HF := HF2; have HK := HK2
  clear HB2 HKL2 HF2 HK2
  clear hb e0 e1 e2 HSM
  go_wp2_with fail
  go_ret
  exact ⟨by first | rfl | simp, HB.out⟩
theorem skippedFills_any (a : Option Addr) (ca : Nat) (l0 : List Kk) (r c0 : ByteArray) (f t : Nat) (hl0 : l0.length ≤ maxLen) (hla : l0.length ≤ ca) (hc0 : c0.size ≤ maxLen) (hf : f < 18446744073709551616) (ht : t < 18446744073709551616) (w : World) (hp : KSl w a l0) (hF : FirstAt w) (hK : KeysAt w) :
    Calls Tryd.prog 3 #[.slice a l0.length ca, .string r, .string c0, .int .u64 (f : Int), .int .u64 (t : Int)] w fun e w' => e = .returned (.bool true) ∧ Below w.heap.size w w' := by
  by_cases hr : rightK (l0.take 22)
  · exact skippedFills_right a ca l0 r c0 f t hl0 hla hc0 hf ht _ rfl _ rfl hr w hp hF hK
  · exact skippedFills_wrong a ca l0 r c0 f t hl0 hla hc0 hf ht _ rfl _ rfl hr w hp hF hK
end Go.Proofs.YtfkfadcfafbmmaaDoor
