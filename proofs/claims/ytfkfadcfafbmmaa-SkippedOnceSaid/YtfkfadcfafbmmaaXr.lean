/- SkippedOnce: what was put is taken, once; what was put first goes first; a table that may be stays one. -/
import Derived.Test.YtfkfadcfafbmmaaXk
import Derived.Lib.QuietBelow
import Derived.BigQuiet
namespace Go.Proofs.Ytfkfadcfafbmmaa
open Go.RowKit Go.Sort
set_option maxRecDepth 100000

set_option maxHeartbeats 16000000 in
theorem skippedOnce_wrong (a : Option Addr) (ca : Nat) (l0 : List Kk) (k : Kk) (hl0 : l0.length ≤ maxLen) (hla : l0.length ≤ ca) (l : List Kk) (hl : l0.take 22 = l) (hr : ¬ rightK l) (w : World) (hp : KSl w a l0) :
    Calls Try.prog 4 #[.slice a l0.length ca, kkv k] w fun e w' => e = .returned (.bool true) ∧ Below w.heap.size w w' := by
  have hll : l.length ≤ 22 := by rw [← hl, List.length_take]; omega
  have hf1 := few12_any a ca l0 hl0 hla
  have hp1 := hp.take 22
  rw [hl] at hf1 hp1
  have hput := fun (c : Nat) (hc : l.length ≤ c) (W : World) => Put_any a c l k (by omega) hc W
  obtain ⟨hpE, hpT⟩ := put_wrong hr k
  rw [hpE, hpT] at hput
  have HPUT := Lib.hid hput; have HF1 := Lib.hid hf1; have HKL := Lib.hid hp1
  clear hput hf1 hp1 hp hl hl0 hla hll hpE hpT hr
  unfold kkv at HPUT ⊢
  go_enter Try.func4, Try.ntmps4
  go_upto_region 1 with fail
  have hal : Below w.heap.size w (w.alloc (.cells #[.string k.r, .int .u64 (k.n : Int), .string k.k] 25)) := by go_grown
  have hC : (w.alloc (.cells #[.string k.r, .int .u64 (k.n : Int), .string k.k] 25)).heap[w.heap.size]? = some (.cells #[.string k.r, .int .u64 (k.n : Int), .string k.k] 25) := heap_alloc_new _ _
  have HKL2 := Lib.hid (HKL.out.on hal)
  clear HKL
  have HKL := HKL2
  clear HKL2
  obtain ⟨B, eB⟩ : ∃ B, w.heap.size = B := ⟨_, rfl⟩
  rw [eB] at hal hC ⊢
  obtain ⟨W0, eW0⟩ : ∃ W0, w.alloc (.cells #[.string k.r, .int .u64 (k.n : Int), .string k.k] 25) = W0 := ⟨_, rfl⟩
  rw [eW0] at hal hC HKL ⊢
  have HC := Lib.hid hC; have HB := Lib.hid hal
  clear hC hal eW0
  go_wp2_with fail
  refine (HF1.out _).mono ?_
  rintro e w1 ⟨c1, rfl, hc1, rfl⟩
  have HC1 := Lib.hid hc1
  clear HF1 hc1
  have e0 : W0.cell? ⟨B, 0, none⟩ = some (.string k.r) := by rw [cell_of_row _ _ _ _ _ _ HC.out]; rfl
  have e1 : W0.cell? ⟨B, 1, none⟩ = some (.int .u64 (k.n : Int)) := by rw [cell_of_row _ _ _ _ _ _ HC.out]; rfl
  have e2 : W0.cell? ⟨B, 2, none⟩ = some (.string k.k) := by rw [cell_of_row _ _ _ _ _ _ HC.out]; rfl
  go_wp2_with fail
  refine (HPUT.out c1 HC1.out _ HKL.out).mono ?_
  rintro e w1 ⟨a3, c3, rfl, hc3, hk, hb⟩
  have HC2 := Lib.hid ((hb.block B (Array.getElem?_eq_some_iff.1 HC.out).1).trans HC.out); have HB2 := Lib.hid (HB.out.trans (hb.mono (by have := HB.out.size; omega)))
  clear HC HB
  have HC := HC2; have HB := HB2
  clear HC2 HB2
  have HN_ := Lib.hid (HKL.out.on hb)
  clear HKL
  have HKL := HN_
  clear HN_
  have HKP := Lib.hid hk
  clear hb hk HPUT
  clear e0 e1 e2
  go_wp2_with fail
  refine (alive12_any _).mono ?_
  rintro e w2 ⟨rfl, hb⟩
  have HC2 := Lib.hid ((hb.block B (Array.getElem?_eq_some_iff.1 HC.out).1).trans HC.out); have HB2 := Lib.hid (HB.out.trans (hb.mono (by have := HB.out.size; omega)))
  clear HC HB
  have HC := HC2; have HB := HB2
  clear HC2 HB2
  have HN_ := Lib.hid (HKL.out.on hb)
  clear HKL
  have HKL := HN_
  clear HN_
  have HN_ := Lib.hid (HKP.out.on hb)
  clear HKP
  have HKP := HN_
  clear HN_
  clear hb
  go_wp2_with fail
  go_ret
  exact ⟨by first | rfl | simp, by rw [eB]; exact HB.out⟩
set_option maxHeartbeats 16000000 in
theorem skippedOnce_uns (a : Option Addr) (ca : Nat) (l0 : List Kk) (k : Kk) (hl0 : l0.length ≤ maxLen) (hla : l0.length ≤ ca) (l : List Kk) (hl : l0.take 22 = l) (hr : rightK l) (hk : ¬ sizedK k) (w : World) (hp : KSl w a l0) :
    Calls Try.prog 4 #[.slice a l0.length ca, kkv k] w fun e w' => e = .returned (.bool true) ∧ Below w.heap.size w w' := by
  have hll : l.length ≤ 22 := by rw [← hl, List.length_take]; omega
  have hf1 := few12_any a ca l0 hl0 hla
  have hp1 := hp.take 22
  rw [hl] at hf1 hp1
  have hput := fun (c : Nat) (hc : l.length ≤ c) (W : World) => Put_any a c l k (by omega) hc W
  obtain ⟨hpE, hpT⟩ := put_unsized hr hk
  rw [hpE, hpT] at hput
  have HPUT := Lib.hid hput; have HF1 := Lib.hid hf1; have HKL := Lib.hid hp1
  clear hput hf1 hp1 hp hl hl0 hla hll hpE hpT hr hk
  unfold kkv at HPUT ⊢
  go_enter Try.func4, Try.ntmps4
  go_upto_region 1 with fail
  have hal : Below w.heap.size w (w.alloc (.cells #[.string k.r, .int .u64 (k.n : Int), .string k.k] 25)) := by go_grown
  have hC : (w.alloc (.cells #[.string k.r, .int .u64 (k.n : Int), .string k.k] 25)).heap[w.heap.size]? = some (.cells #[.string k.r, .int .u64 (k.n : Int), .string k.k] 25) := heap_alloc_new _ _
  have HKL2 := Lib.hid (HKL.out.on hal)
  clear HKL
  have HKL := HKL2
  clear HKL2
  obtain ⟨B, eB⟩ : ∃ B, w.heap.size = B := ⟨_, rfl⟩
  rw [eB] at hal hC ⊢
  obtain ⟨W0, eW0⟩ : ∃ W0, w.alloc (.cells #[.string k.r, .int .u64 (k.n : Int), .string k.k] 25) = W0 := ⟨_, rfl⟩
  rw [eW0] at hal hC HKL ⊢
  have HC := Lib.hid hC; have HB := Lib.hid hal
  clear hC hal eW0
  go_wp2_with fail
  refine (HF1.out _).mono ?_
  rintro e w1 ⟨c1, rfl, hc1, rfl⟩
  have HC1 := Lib.hid hc1
  clear HF1 hc1
  have e0 : W0.cell? ⟨B, 0, none⟩ = some (.string k.r) := by rw [cell_of_row _ _ _ _ _ _ HC.out]; rfl
  have e1 : W0.cell? ⟨B, 1, none⟩ = some (.int .u64 (k.n : Int)) := by rw [cell_of_row _ _ _ _ _ _ HC.out]; rfl
  have e2 : W0.cell? ⟨B, 2, none⟩ = some (.string k.k) := by rw [cell_of_row _ _ _ _ _ _ HC.out]; rfl
  go_wp2_with fail
  refine (HPUT.out c1 HC1.out _ HKL.out).mono ?_
  rintro e w1 ⟨a3, c3, rfl, hc3, hk, hb⟩
  have HC2 := Lib.hid ((hb.block B (Array.getElem?_eq_some_iff.1 HC.out).1).trans HC.out); have HB2 := Lib.hid (HB.out.trans (hb.mono (by have := HB.out.size; omega)))
  clear HC HB
  have HC := HC2; have HB := HB2
  clear HC2 HB2
  have HN_ := Lib.hid (HKL.out.on hb)
  clear HKL
  have HKL := HN_
  clear HN_
  have HKP := Lib.hid hk
  clear hb hk HPUT
  clear e0 e1 e2
  go_wp2_with fail
  refine (alive12_any _).mono ?_
  rintro e w2 ⟨rfl, hb⟩
  have HC2 := Lib.hid ((hb.block B (Array.getElem?_eq_some_iff.1 HC.out).1).trans HC.out); have HB2 := Lib.hid (HB.out.trans (hb.mono (by have := HB.out.size; omega)))
  clear HC HB
  have HC := HC2; have HB := HB2
  clear HC2 HB2
  have HN_ := Lib.hid (HKL.out.on hb)
  clear HKL
  have HKL := HN_
  clear HN_
  have HN_ := Lib.hid (HKP.out.on hb)
  clear HKP
  have HKP := HN_
  clear HN_
  clear hb
  go_wp2_with fail
  go_ret
  exact ⟨by first | rfl | simp, by rw [eB]; exact HB.out⟩
set_option maxHeartbeats 16000000 in
theorem skippedOnce_old (a : Option Addr) (ca : Nat) (l0 : List Kk) (k : Kk) (hl0 : l0.length ≤ maxLen) (hla : l0.length ≤ ca) (l : List Kk) (hl : l0.take 22 = l) (hr : rightK l) (hk : sizedK k) (hold : ¬ atK l k.r k.n = none) (w : World) (hp : KSl w a l0) :
    Calls Try.prog 4 #[.slice a l0.length ca, kkv k] w fun e w' => e = .returned (.bool true) ∧ Below w.heap.size w w' := by
  have hll : l.length ≤ 22 := by rw [← hl, List.length_take]; omega
  have hf1 := few12_any a ca l0 hl0 hla
  have hp1 := hp.take 22
  rw [hl] at hf1 hp1
  have hput := fun (c : Nat) (hc : l.length ≤ c) (W : World) => Put_any a c l k (by omega) hc W
  obtain ⟨hpE, hpT⟩ := put_old hr hk hold
  rw [hpE, hpT] at hput
  have HPUT := Lib.hid hput; have HF1 := Lib.hid hf1; have HKL := Lib.hid hp1
  clear hput hf1 hp1 hp hl hl0 hla hll hpE hpT hr hk hold
  unfold kkv at HPUT ⊢
  go_enter Try.func4, Try.ntmps4
  go_upto_region 1 with fail
  have hal : Below w.heap.size w (w.alloc (.cells #[.string k.r, .int .u64 (k.n : Int), .string k.k] 25)) := by go_grown
  have hC : (w.alloc (.cells #[.string k.r, .int .u64 (k.n : Int), .string k.k] 25)).heap[w.heap.size]? = some (.cells #[.string k.r, .int .u64 (k.n : Int), .string k.k] 25) := heap_alloc_new _ _
  have HKL2 := Lib.hid (HKL.out.on hal)
  clear HKL
  have HKL := HKL2
  clear HKL2
  obtain ⟨B, eB⟩ : ∃ B, w.heap.size = B := ⟨_, rfl⟩
  rw [eB] at hal hC ⊢
  obtain ⟨W0, eW0⟩ : ∃ W0, w.alloc (.cells #[.string k.r, .int .u64 (k.n : Int), .string k.k] 25) = W0 := ⟨_, rfl⟩
  rw [eW0] at hal hC HKL ⊢
  have HC := Lib.hid hC; have HB := Lib.hid hal
  clear hC hal eW0
  go_wp2_with fail
  refine (HF1.out _).mono ?_
  rintro e w1 ⟨c1, rfl, hc1, rfl⟩
  have HC1 := Lib.hid hc1
  clear HF1 hc1
  have e0 : W0.cell? ⟨B, 0, none⟩ = some (.string k.r) := by rw [cell_of_row _ _ _ _ _ _ HC.out]; rfl
  have e1 : W0.cell? ⟨B, 1, none⟩ = some (.int .u64 (k.n : Int)) := by rw [cell_of_row _ _ _ _ _ _ HC.out]; rfl
  have e2 : W0.cell? ⟨B, 2, none⟩ = some (.string k.k) := by rw [cell_of_row _ _ _ _ _ _ HC.out]; rfl
  go_wp2_with fail
  refine (HPUT.out c1 HC1.out _ HKL.out).mono ?_
  rintro e w1 ⟨a3, c3, rfl, hc3, hk, hb⟩
  have HC2 := Lib.hid ((hb.block B (Array.getElem?_eq_some_iff.1 HC.out).1).trans HC.out); have HB2 := Lib.hid (HB.out.trans (hb.mono (by have := HB.out.size; omega)))
  clear HC HB
  have HC := HC2; have HB := HB2
  clear HC2 HB2
  have HN_ := Lib.hid (HKL.out.on hb)
  clear HKL
  have HKL := HN_
  clear HN_
  have HKP := Lib.hid hk
  clear hb hk HPUT
  clear e0 e1 e2
  go_wp2_with fail
  refine (alive12_any _).mono ?_
  rintro e w2 ⟨rfl, hb⟩
  have HC2 := Lib.hid ((hb.block B (Array.getElem?_eq_some_iff.1 HC.out).1).trans HC.out); have HB2 := Lib.hid (HB.out.trans (hb.mono (by have := HB.out.size; omega)))
  clear HC HB
  have HC := HC2; have HB := HB2
  clear HC2 HB2
  have HN_ := Lib.hid (HKL.out.on hb)
  clear HKL
  have HKL := HN_
  clear HN_
  have HN_ := Lib.hid (HKP.out.on hb)
  clear HKP
  have HKP := HN_
  clear HN_
  clear hb
  go_wp2_with fail
  go_ret
  exact ⟨by first | rfl | simp, by rw [eB]; exact HB.out⟩
set_option maxHeartbeats 16000000 in
theorem skippedOnce_few (a : Option Addr) (ca : Nat) (l0 : List Kk) (k : Kk) (hl0 : l0.length ≤ maxLen) (hla : l0.length ≤ ca) (l : List Kk) (hl : l0.take 22 = l) (hr : rightK l) (hk : sizedK k) (hold : atK l k.r k.n = none) (hful : l.length < 20) (w : World) (hp : KSl w a l0) :
    Calls Try.prog 4 #[.slice a l0.length ca, kkv k] w fun e w' => e = .returned (.bool true) ∧ Below w.heap.size w w' := by
  have hll : l.length ≤ 22 := by rw [← hl, List.length_take]; omega
  have hf1 := few12_any a ca l0 hl0 hla
  have hp1 := hp.take 22
  rw [hl] at hf1 hp1
  have hput := fun (c : Nat) (hc : l.length ≤ c) (W : World) => Put_any a c l k (by omega) hc W
  obtain ⟨hpE, hpT⟩ := put_good hr hk hold
  rw [hpE, hpT] at hput
  have hrP := rightK_put hr hk hold
  have hrM := rightK_kept hr
  have haP := atK_put hold
  have haM := atK_kept hold
  have hwo := without_put l k
  have hlast : (putK l k).getD (keptK l).length k00 = k := by rw [List.getD_eq_getElem?_getD, put_last]; rfl
  obtain ⟨ht1, ht2, ht3⟩ := take_good hrP haP
  obtain ⟨hu1, hu2, hu3⟩ := take_none hrM haM
  obtain ⟨hv1, hv2⟩ := put_old hrP hk (by rw [haP]; simp)
  rw [hlast] at ht2
  rw [hwo] at ht3
  have htk := fun (a : Option Addr) (c : Nat) (hc : (putK l k).length ≤ c) (W : World) => Take_any a c (putK l k) k.r k.n (by have := hrP.few; omega) hc W
  rw [ht1, ht2, ht3] at htk
  have htk2 := fun (a : Option Addr) (c : Nat) (hc : (keptK l).length ≤ c) (W : World) => Take_any a c (keptK l) k.r k.n (by have := hrM.few; omega) hc W
  rw [hu1, hu2, hu3] at htk2
  have hput2 := fun (a : Option Addr) (c : Nat) (hc : (putK l k).length ≤ c) (W : World) => Put_any a c (putK l k) k (by have := hrP.few; omega) hc W
  rw [hv1, hv2] at hput2
  have hRP := fun (a : Option Addr) (c : Nat) (hc : (putK l k).length ≤ c) (W : World) => Right_any a c (putK l k) (by have := hrP.few; omega) hc W
  rw [decide_eq_true hrP] at hRP
  have hRM := fun (a : Option Addr) (c : Nat) (hc : (keptK l).length ≤ c) (W : World) => Right_any a c (keptK l) (by have := hrM.few; omega) hc W
  rw [decide_eq_true hrM] at hRM
  have hSM := fun (a b : Option Addr) (c c' : Nat) (W : World) => sameR_any a b c c' (keptK l) l (by have := hrM.few; omega) W
  rw [decide_eq_true (show keptK l = l by unfold keptK; rw [if_pos hful])] at hSM
  have hPlen : (putK l k).length = (keptK l).length + 1 := by rw [putK_eq, List.length_append, List.length_singleton]
  have hMlen := keptK_length hr.few
  have hlf := hr.few
  have hkd : keptK l = l := by unfold keptK; rw [if_pos hful]
  have hl20i : ((l.length : Int) == 20) = false := by rw [beq_eq_false_iff_ne]; omega
  obtain ⟨P, eP⟩ : ∃ P, putK l k = P := ⟨_, rfl⟩
  obtain ⟨M, eM⟩ : ∃ M, keptK l = M := ⟨_, rfl⟩
  rw [eP] at hPlen hlast
  rw [eM] at hPlen hlast hMlen hkd
  simp only [eP, eM] at hput htk htk2 hput2 hRP hRM hSM
  obtain ⟨nP, enP⟩ : ∃ nP, P.length = nP := ⟨_, rfl⟩
  obtain ⟨nM, enM⟩ : ∃ nM, M.length = nM := ⟨_, rfl⟩
  rw [enP] at hPlen
  rw [enM] at hPlen hMlen hlast
  simp only [enP, enM] at hput htk htk2 hput2 hRP hRM hSM
  have hsub : IntKind.i64.wrap ((nP : Int) - 1) = (nM : Int) := by rw [IntWalk.i64_in _ (by omega)]; omega
  have hlt : (nM : Int) < (nP : Int) := by omega
  have HPL := Lib.hid (And.intro enP (And.intro enM (And.intro hPlen hlast))); have HKD := Lib.hid hkd
  unfold kkv at hput2
  have HPUT := Lib.hid hput; have HF1 := Lib.hid hf1; have HKL := Lib.hid hp1; have HTK := Lib.hid htk; have HTK2 := Lib.hid htk2; have HPUT2 := Lib.hid hput2; have HRP := Lib.hid hRP; have HRM := Lib.hid hRM; have HSM := Lib.hid hSM; have HLL := Lib.hid (And.intro hll hlf)
  clear hput hf1 hp1 hp hl hl0 hla hll hpE hpT hr hk hold hrP hrM haP haM hwo ht1 ht2 ht3 hu1 hu2 hu3 hv1 hv2 htk htk2 hput2 hRP hRM hSM hlf eP eM enP enM hPlen hlast hMlen hkd hful
  unfold kkv at HPUT ⊢
  go_enter Try.func4, Try.ntmps4
  go_upto_region 1 with fail
  have hal : Below w.heap.size w (w.alloc (.cells #[.string k.r, .int .u64 (k.n : Int), .string k.k] 25)) := by go_grown
  have hC : (w.alloc (.cells #[.string k.r, .int .u64 (k.n : Int), .string k.k] 25)).heap[w.heap.size]? = some (.cells #[.string k.r, .int .u64 (k.n : Int), .string k.k] 25) := heap_alloc_new _ _
  have HKL2 := Lib.hid (HKL.out.on hal)
  clear HKL
  have HKL := HKL2
  clear HKL2
  obtain ⟨B, eB⟩ : ∃ B, w.heap.size = B := ⟨_, rfl⟩
  rw [eB] at hal hC ⊢
  obtain ⟨W0, eW0⟩ : ∃ W0, w.alloc (.cells #[.string k.r, .int .u64 (k.n : Int), .string k.k] 25) = W0 := ⟨_, rfl⟩
  rw [eW0] at hal hC HKL ⊢
  have HC := Lib.hid hC; have HB := Lib.hid hal
  clear hC hal eW0
  go_wp2_with fail
  refine (HF1.out _).mono ?_
  rintro e w1 ⟨c1, rfl, hc1, rfl⟩
  have HC1 := Lib.hid hc1
  clear HF1 hc1
  have e0 : W0.cell? ⟨B, 0, none⟩ = some (.string k.r) := by rw [cell_of_row _ _ _ _ _ _ HC.out]; rfl
  have e1 : W0.cell? ⟨B, 1, none⟩ = some (.int .u64 (k.n : Int)) := by rw [cell_of_row _ _ _ _ _ _ HC.out]; rfl
  have e2 : W0.cell? ⟨B, 2, none⟩ = some (.string k.k) := by rw [cell_of_row _ _ _ _ _ _ HC.out]; rfl
  go_wp2_with fail
  refine (HPUT.out c1 HC1.out _ HKL.out).mono ?_
  rintro e w1 ⟨a3, c3, rfl, hc3, hk, hb⟩
  have HC2 := Lib.hid ((hb.block B (Array.getElem?_eq_some_iff.1 HC.out).1).trans HC.out); have HB2 := Lib.hid (HB.out.trans (hb.mono (by have := HB.out.size; omega)))
  clear HC HB
  have HC := HC2; have HB := HB2
  clear HC2 HB2
  have HN_ := Lib.hid (HKL.out.on hb)
  clear HKL
  have HKL := HN_
  clear HN_
  have HKP := Lib.hid hk
  clear hb hk HPUT
  clear e0 e1 e2
  have HC3 := Lib.hid hc3
  clear hc3
  have e0 : w1.cell? ⟨B, 0, none⟩ = some (.string k.r) := by rw [cell_of_row _ _ _ _ _ _ HC.out]; rfl
  have e1 : w1.cell? ⟨B, 1, none⟩ = some (.int .u64 (k.n : Int)) := by rw [cell_of_row _ _ _ _ _ _ HC.out]; rfl
  have e2 : w1.cell? ⟨B, 2, none⟩ = some (.string k.k) := by rw [cell_of_row _ _ _ _ _ _ HC.out]; rfl
  go_wp2_with fail
  refine (HTK.out a3 c3 HC3.out _ HKP.out).mono ?_
  rintro e w2 ⟨a4, c4, rfl, hc4, hk, hb⟩
  have HC2 := Lib.hid ((hb.block B (Array.getElem?_eq_some_iff.1 HC.out).1).trans HC.out); have HB2 := Lib.hid (HB.out.trans (hb.mono (by have := HB.out.size; omega)))
  clear HC HB
  have HC := HC2; have HB := HB2
  clear HC2 HB2
  have HN_ := Lib.hid (HKL.out.on hb)
  clear HKL
  have HKL := HN_
  clear HN_
  have HN_ := Lib.hid (HKP.out.on hb)
  clear HKP
  have HKP := HN_
  clear HN_
  have HKM := Lib.hid hk
  clear hb hk HTK
  clear e0 e1 e2
  have HC4 := Lib.hid hc4
  clear hc4
  have e0 : w2.cell? ⟨B, 0, none⟩ = some (.string k.r) := by rw [cell_of_row _ _ _ _ _ _ HC.out]; rfl
  have e1 : w2.cell? ⟨B, 1, none⟩ = some (.int .u64 (k.n : Int)) := by rw [cell_of_row _ _ _ _ _ _ HC.out]; rfl
  have e2 : w2.cell? ⟨B, 2, none⟩ = some (.string k.k) := by rw [cell_of_row _ _ _ _ _ _ HC.out]; rfl
  go_wp2_with fail
  refine (HTK2.out a4 c4 HC4.out _ HKM.out).mono ?_
  rintro e w3 ⟨a5, c5, rfl, hc5, -, hb⟩
  have HC2 := Lib.hid ((hb.block B (Array.getElem?_eq_some_iff.1 HC.out).1).trans HC.out); have HB2 := Lib.hid (HB.out.trans (hb.mono (by have := HB.out.size; omega)))
  clear HC HB
  have HC := HC2; have HB := HB2
  clear HC2 HB2
  have HN_ := Lib.hid (HKL.out.on hb)
  clear HKL
  have HKL := HN_
  clear HN_
  have HN_ := Lib.hid (HKP.out.on hb)
  clear HKP
  have HKP := HN_
  clear HN_
  have HN_ := Lib.hid (HKM.out.on hb)
  clear HKM
  have HKM := HN_
  clear HN_
  clear hb HTK2 hc5
  clear e0 e1 e2
  have e0 : w3.cell? ⟨B, 0, none⟩ = some (.string k.r) := by rw [cell_of_row _ _ _ _ _ _ HC.out]; rfl
  have e1 : w3.cell? ⟨B, 1, none⟩ = some (.int .u64 (k.n : Int)) := by rw [cell_of_row _ _ _ _ _ _ HC.out]; rfl
  have e2 : w3.cell? ⟨B, 2, none⟩ = some (.string k.k) := by rw [cell_of_row _ _ _ _ _ _ HC.out]; rfl
  go_wp2_with fail
  refine (HPUT2.out a3 c3 HC3.out _ HKP.out).mono ?_
  rintro e w4 ⟨a6, c6, rfl, hc6, -, hb⟩
  have HC2 := Lib.hid ((hb.block B (Array.getElem?_eq_some_iff.1 HC.out).1).trans HC.out); have HB2 := Lib.hid (HB.out.trans (hb.mono (by have := HB.out.size; omega)))
  clear HC HB
  have HC := HC2; have HB := HB2
  clear HC2 HB2
  have HN_ := Lib.hid (HKL.out.on hb)
  clear HKL
  have HKL := HN_
  clear HN_
  have HN_ := Lib.hid (HKP.out.on hb)
  clear HKP
  have HKP := HN_
  clear HN_
  have HN_ := Lib.hid (HKM.out.on hb)
  clear HKM
  have HKM := HN_
  clear HN_
  clear hb HPUT2 hc6
  clear e0 e1 e2
  have hkr : KSl w4 a l := HKL.out
  obtain ⟨gp, op, rfl, hgp, hgc⟩ := HKP.out (by have := HPL.out; omega)
  have hpt := hgc nM (by have := HPL.out; omega)
  rw [HPL.out.2.2.2] at hpt
  have x0 := cell_regrown hpt.c0; have x1 := cell_regrown hpt.c1; have x2 := cell_regrown hpt.c2
  have hHC := HC.out
  have y0 := cell_regrown (show w4.cell? ⟨B, 0, none⟩ = some (.string k.r) by rw [cell_of_row _ _ _ _ _ _ hHC]; rfl)
  have y1 := cell_regrown (show w4.cell? ⟨B, 1, none⟩ = some (.int .u64 (k.n : Int)) by rw [cell_of_row _ _ _ _ _ _ hHC]; rfl)
  have y2 := cell_regrown (show w4.cell? ⟨B, 2, none⟩ = some (.string k.k) by rw [cell_of_row _ _ _ _ _ _ hHC]; rfl)
  have HA := Lib.hid (fun (d : Nat) (os : Array Obj) => alive12_any (grow (redrawn w4 d) os))
  have HRP2 := Lib.hid (fun (d : Nat) (os : Array Obj) => HRP.out (some ⟨gp, op, none⟩) c3 HC3.out (grow (redrawn w4 d) os) (HKP.out.on (below_regrown w4 d os)))
  have HRM2 := Lib.hid (fun (d : Nat) (os : Array Obj) => HRM.out a4 c4 HC4.out (grow (redrawn w4 d) os) (HKM.out.on (below_regrown w4 d os)))
  have HSM2 := Lib.hid (fun (c : Nat) (d : Nat) (os : Array Obj) => HSM.out a4 a c4 c (grow (redrawn w4 d) os) (HKM.out.on (below_regrown w4 d os)) (hkr.on (below_regrown w4 d os)))
  clear hkr hgp hgc hpt hHC HKL HKP HKM HRP HRM HSM HC
  go_upto_region 11 with fail
  refine wp_region_quiet_below (by kernel_rfl) (by kernel_rfl) ?_
  iterate 43 (go_big_quiet_step (first | (go_at_call 12; with_reducible exact Calls.regrown_of (HA.out _ _)) | (go_at_call 8; first | with_reducible exact Calls.regrown_of (HRP2.out _ _) | with_reducible exact Calls.regrown_of (HRM2.out _ _)) | (go_at_call 11; with_reducible exact Calls.regrown_of (HSM2.out _ _ _))))
  refine wpQuiet_nil ?_
  intro _ hw'
  obtain ⟨⟨dq, osq⟩, hw''⟩ := hw'
  subst hw''
  have hb := below_regrown w4 dq osq
  have HB2 := Lib.hid (HB.out.trans (hb.mono (by have := HB.out.size; omega)))
  clear x0 x1 x2 y0 y1 y2 hb HA HRP2 HRM2 HSM2 HB
  generalize grow (redrawn w4 dq) osq = W1 at HB2 ⊢
  rename_i K hK
  refine hK _ _ ?_
  clear hK K
  go_wp2_with fail
  go_ret
  exact ⟨by first | rfl | simp, by rw [eB]; exact HB2.out⟩
set_option maxHeartbeats 16000000 in
theorem skippedOnce_full (a : Option Addr) (ca : Nat) (l0 : List Kk) (k : Kk) (hl0 : l0.length ≤ maxLen) (hla : l0.length ≤ ca) (l : List Kk) (hl : l0.take 22 = l) (hr : rightK l) (hk : sizedK k) (hold : atK l k.r k.n = none) (hful : ¬ l.length < 20) (w : World) (hp : KSl w a l0) :
    Calls Try.prog 4 #[.slice a l0.length ca, kkv k] w fun e w' => e = .returned (.bool true) ∧ Below w.heap.size w w' := by
  have hll : l.length ≤ 22 := by rw [← hl, List.length_take]; omega
  have hf1 := few12_any a ca l0 hl0 hla
  have hp1 := hp.take 22
  rw [hl] at hf1 hp1
  have hput := fun (c : Nat) (hc : l.length ≤ c) (W : World) => Put_any a c l k (by omega) hc W
  obtain ⟨hpE, hpT⟩ := put_good hr hk hold
  rw [hpE, hpT] at hput
  have hrP := rightK_put hr hk hold
  have hrM := rightK_kept hr
  have haP := atK_put hold
  have haM := atK_kept hold
  have hwo := without_put l k
  have hlast : (putK l k).getD (keptK l).length k00 = k := by rw [List.getD_eq_getElem?_getD, put_last]; rfl
  obtain ⟨ht1, ht2, ht3⟩ := take_good hrP haP
  obtain ⟨hu1, hu2, hu3⟩ := take_none hrM haM
  obtain ⟨hv1, hv2⟩ := put_old hrP hk (by rw [haP]; simp)
  rw [hlast] at ht2
  rw [hwo] at ht3
  have htk := fun (a : Option Addr) (c : Nat) (hc : (putK l k).length ≤ c) (W : World) => Take_any a c (putK l k) k.r k.n (by have := hrP.few; omega) hc W
  rw [ht1, ht2, ht3] at htk
  have htk2 := fun (a : Option Addr) (c : Nat) (hc : (keptK l).length ≤ c) (W : World) => Take_any a c (keptK l) k.r k.n (by have := hrM.few; omega) hc W
  rw [hu1, hu2, hu3] at htk2
  have hput2 := fun (a : Option Addr) (c : Nat) (hc : (putK l k).length ≤ c) (W : World) => Put_any a c (putK l k) k (by have := hrP.few; omega) hc W
  rw [hv1, hv2] at hput2
  have hRP := fun (a : Option Addr) (c : Nat) (hc : (putK l k).length ≤ c) (W : World) => Right_any a c (putK l k) (by have := hrP.few; omega) hc W
  rw [decide_eq_true hrP] at hRP
  have hRM := fun (a : Option Addr) (c : Nat) (hc : (keptK l).length ≤ c) (W : World) => Right_any a c (keptK l) (by have := hrM.few; omega) hc W
  rw [decide_eq_true hrM] at hRM
  have hSM := fun (a b : Option Addr) (c c' : Nat) (W : World) => sameR_any a b c c' (keptK l) (l.drop 1) (by have := hrM.few; omega) W
  rw [decide_eq_true (show keptK l = (l.drop 1) by unfold keptK; rw [if_neg hful])] at hSM
  have hPlen : (putK l k).length = (keptK l).length + 1 := by rw [putK_eq, List.length_append, List.length_singleton]
  have hMlen := keptK_length hr.few
  have hlf := hr.few
  rw [List.length_drop] at hSM
  have hl20 : l.length = 20 := by omega
  have hkd : keptK l = l.drop 1 := by unfold keptK; rw [if_neg hful]
  have hMl : (keptK l).length = 19 := by rw [hkd, List.length_drop]; omega
  have HL20 := Lib.hid hl20
  obtain ⟨P, eP⟩ : ∃ P, putK l k = P := ⟨_, rfl⟩
  obtain ⟨M, eM⟩ : ∃ M, keptK l = M := ⟨_, rfl⟩
  rw [eP] at hPlen hlast
  rw [eM] at hPlen hlast hMlen hkd hMl
  simp only [eP, eM] at hput htk htk2 hput2 hRP hRM hSM
  obtain ⟨nP, enP⟩ : ∃ nP, P.length = nP := ⟨_, rfl⟩
  obtain ⟨nM, enM⟩ : ∃ nM, M.length = nM := ⟨_, rfl⟩
  rw [enP] at hPlen
  rw [enM] at hPlen hMlen hlast hMl
  simp only [enP, enM] at hput htk htk2 hput2 hRP hRM hSM
  have hsub : IntKind.i64.wrap ((nP : Int) - 1) = (nM : Int) := by rw [IntWalk.i64_in _ (by omega)]; omega
  have hlt : (nM : Int) < (nP : Int) := by omega
  have HPL := Lib.hid (And.intro enP (And.intro enM (And.intro hPlen hlast))); have HKD := Lib.hid hkd
  unfold kkv at hput2
  have HPUT := Lib.hid hput; have HF1 := Lib.hid hf1; have HKL := Lib.hid hp1; have HTK := Lib.hid htk; have HTK2 := Lib.hid htk2; have HPUT2 := Lib.hid hput2; have HRP := Lib.hid hRP; have HRM := Lib.hid hRM; have HSM := Lib.hid hSM; have HLL := Lib.hid (And.intro hll hlf)
  clear hput hf1 hp1 hp hl hl0 hla hll hpE hpT hr hk hold hrP hrM haP haM hwo ht1 ht2 ht3 hu1 hu2 hu3 hv1 hv2 htk htk2 hput2 hRP hRM hSM hlf eP eM enP enM hPlen hlast hMlen hkd hful hMl hl20
  unfold kkv at HPUT ⊢
  go_enter Try.func4, Try.ntmps4
  go_upto_region 1 with fail
  have hal : Below w.heap.size w (w.alloc (.cells #[.string k.r, .int .u64 (k.n : Int), .string k.k] 25)) := by go_grown
  have hC : (w.alloc (.cells #[.string k.r, .int .u64 (k.n : Int), .string k.k] 25)).heap[w.heap.size]? = some (.cells #[.string k.r, .int .u64 (k.n : Int), .string k.k] 25) := heap_alloc_new _ _
  have HKL2 := Lib.hid (HKL.out.on hal)
  clear HKL
  have HKL := HKL2
  clear HKL2
  obtain ⟨B, eB⟩ : ∃ B, w.heap.size = B := ⟨_, rfl⟩
  rw [eB] at hal hC ⊢
  obtain ⟨W0, eW0⟩ : ∃ W0, w.alloc (.cells #[.string k.r, .int .u64 (k.n : Int), .string k.k] 25) = W0 := ⟨_, rfl⟩
  rw [eW0] at hal hC HKL ⊢
  have HC := Lib.hid hC; have HB := Lib.hid hal
  clear hC hal eW0
  go_wp2_with fail
  refine (HF1.out _).mono ?_
  rintro e w1 ⟨c1, rfl, hc1, rfl⟩
  have HC1 := Lib.hid hc1
  clear HF1 hc1
  have e0 : W0.cell? ⟨B, 0, none⟩ = some (.string k.r) := by rw [cell_of_row _ _ _ _ _ _ HC.out]; rfl
  have e1 : W0.cell? ⟨B, 1, none⟩ = some (.int .u64 (k.n : Int)) := by rw [cell_of_row _ _ _ _ _ _ HC.out]; rfl
  have e2 : W0.cell? ⟨B, 2, none⟩ = some (.string k.k) := by rw [cell_of_row _ _ _ _ _ _ HC.out]; rfl
  go_wp2_with fail
  refine (HPUT.out c1 HC1.out _ HKL.out).mono ?_
  rintro e w1 ⟨a3, c3, rfl, hc3, hk, hb⟩
  have HC2 := Lib.hid ((hb.block B (Array.getElem?_eq_some_iff.1 HC.out).1).trans HC.out); have HB2 := Lib.hid (HB.out.trans (hb.mono (by have := HB.out.size; omega)))
  clear HC HB
  have HC := HC2; have HB := HB2
  clear HC2 HB2
  have HN_ := Lib.hid (HKL.out.on hb)
  clear HKL
  have HKL := HN_
  clear HN_
  have HKP := Lib.hid hk
  clear hb hk HPUT
  clear e0 e1 e2
  have HC3 := Lib.hid hc3
  clear hc3
  have e0 : w1.cell? ⟨B, 0, none⟩ = some (.string k.r) := by rw [cell_of_row _ _ _ _ _ _ HC.out]; rfl
  have e1 : w1.cell? ⟨B, 1, none⟩ = some (.int .u64 (k.n : Int)) := by rw [cell_of_row _ _ _ _ _ _ HC.out]; rfl
  have e2 : w1.cell? ⟨B, 2, none⟩ = some (.string k.k) := by rw [cell_of_row _ _ _ _ _ _ HC.out]; rfl
  go_wp2_with fail
  refine (HTK.out a3 c3 HC3.out _ HKP.out).mono ?_
  rintro e w2 ⟨a4, c4, rfl, hc4, hk, hb⟩
  have HC2 := Lib.hid ((hb.block B (Array.getElem?_eq_some_iff.1 HC.out).1).trans HC.out); have HB2 := Lib.hid (HB.out.trans (hb.mono (by have := HB.out.size; omega)))
  clear HC HB
  have HC := HC2; have HB := HB2
  clear HC2 HB2
  have HN_ := Lib.hid (HKL.out.on hb)
  clear HKL
  have HKL := HN_
  clear HN_
  have HN_ := Lib.hid (HKP.out.on hb)
  clear HKP
  have HKP := HN_
  clear HN_
  have HKM := Lib.hid hk
  clear hb hk HTK
  clear e0 e1 e2
  have HC4 := Lib.hid hc4
  clear hc4
  have e0 : w2.cell? ⟨B, 0, none⟩ = some (.string k.r) := by rw [cell_of_row _ _ _ _ _ _ HC.out]; rfl
  have e1 : w2.cell? ⟨B, 1, none⟩ = some (.int .u64 (k.n : Int)) := by rw [cell_of_row _ _ _ _ _ _ HC.out]; rfl
  have e2 : w2.cell? ⟨B, 2, none⟩ = some (.string k.k) := by rw [cell_of_row _ _ _ _ _ _ HC.out]; rfl
  go_wp2_with fail
  refine (HTK2.out a4 c4 HC4.out _ HKM.out).mono ?_
  rintro e w3 ⟨a5, c5, rfl, hc5, -, hb⟩
  have HC2 := Lib.hid ((hb.block B (Array.getElem?_eq_some_iff.1 HC.out).1).trans HC.out); have HB2 := Lib.hid (HB.out.trans (hb.mono (by have := HB.out.size; omega)))
  clear HC HB
  have HC := HC2; have HB := HB2
  clear HC2 HB2
  have HN_ := Lib.hid (HKL.out.on hb)
  clear HKL
  have HKL := HN_
  clear HN_
  have HN_ := Lib.hid (HKP.out.on hb)
  clear HKP
  have HKP := HN_
  clear HN_
  have HN_ := Lib.hid (HKM.out.on hb)
  clear HKM
  have HKM := HN_
  clear HN_
  clear hb HTK2 hc5
  clear e0 e1 e2
  have e0 : w3.cell? ⟨B, 0, none⟩ = some (.string k.r) := by rw [cell_of_row _ _ _ _ _ _ HC.out]; rfl
  have e1 : w3.cell? ⟨B, 1, none⟩ = some (.int .u64 (k.n : Int)) := by rw [cell_of_row _ _ _ _ _ _ HC.out]; rfl
  have e2 : w3.cell? ⟨B, 2, none⟩ = some (.string k.k) := by rw [cell_of_row _ _ _ _ _ _ HC.out]; rfl
  go_wp2_with fail
  refine (HPUT2.out a3 c3 HC3.out _ HKP.out).mono ?_
  rintro e w4 ⟨a6, c6, rfl, hc6, -, hb⟩
  have HC2 := Lib.hid ((hb.block B (Array.getElem?_eq_some_iff.1 HC.out).1).trans HC.out); have HB2 := Lib.hid (HB.out.trans (hb.mono (by have := HB.out.size; omega)))
  clear HC HB
  have HC := HC2; have HB := HB2
  clear HC2 HB2
  have HN_ := Lib.hid (HKL.out.on hb)
  clear HKL
  have HKL := HN_
  clear HN_
  have HN_ := Lib.hid (HKP.out.on hb)
  clear HKP
  have HKP := HN_
  clear HN_
  have HN_ := Lib.hid (HKM.out.on hb)
  clear HKM
  have HKM := HN_
  clear HN_
  clear hb HPUT2 hc6
  clear e0 e1 e2
  obtain ⟨gl, ol, rfl, hgl, hgc⟩ := HKL.out (by have := HL20.out; omega)
  have hl20i : (l.length : Int) = 20 := by have := HL20.out; omega
  have hc1a : (1 : Int) ≤ (c1 : Int) := by have := HC1.out; have := HL20.out; omega
  have hc1b : ¬ (1 : Int) = (c1 : Int) := by have := HC1.out; have := HL20.out; omega
  have hc1c : (20 : Int) ≤ (c1 : Int) := by have := HC1.out; have := HL20.out; omega
  clear hgl hgc
  have hkr : KSl w4 (some ⟨gl, ol + 3, none⟩) (l.drop 1) := HKL.out.drop 1
  obtain ⟨gp, op, rfl, hgp, hgc⟩ := HKP.out (by have := HPL.out; omega)
  have hpt := hgc nM (by have := HPL.out; omega)
  rw [HPL.out.2.2.2] at hpt
  have x0 := cell_regrown hpt.c0; have x1 := cell_regrown hpt.c1; have x2 := cell_regrown hpt.c2
  have hHC := HC.out
  have y0 := cell_regrown (show w4.cell? ⟨B, 0, none⟩ = some (.string k.r) by rw [cell_of_row _ _ _ _ _ _ hHC]; rfl)
  have y1 := cell_regrown (show w4.cell? ⟨B, 1, none⟩ = some (.int .u64 (k.n : Int)) by rw [cell_of_row _ _ _ _ _ _ hHC]; rfl)
  have y2 := cell_regrown (show w4.cell? ⟨B, 2, none⟩ = some (.string k.k) by rw [cell_of_row _ _ _ _ _ _ hHC]; rfl)
  have HA := Lib.hid (fun (d : Nat) (os : Array Obj) => alive12_any (grow (redrawn w4 d) os))
  have HRP2 := Lib.hid (fun (d : Nat) (os : Array Obj) => HRP.out (some ⟨gp, op, none⟩) c3 HC3.out (grow (redrawn w4 d) os) (HKP.out.on (below_regrown w4 d os)))
  have HRM2 := Lib.hid (fun (d : Nat) (os : Array Obj) => HRM.out a4 c4 HC4.out (grow (redrawn w4 d) os) (HKM.out.on (below_regrown w4 d os)))
  have HSM2 := Lib.hid (fun (c : Nat) (d : Nat) (os : Array Obj) => HSM.out a4 (some ⟨gl, ol + 3, none⟩) c4 c (grow (redrawn w4 d) os) (HKM.out.on (below_regrown w4 d os)) (hkr.on (below_regrown w4 d os)))
  clear hkr hgp hgc hpt hHC HKL HKP HKM HRP HRM HSM HC
  go_upto_region 11 with fail
  refine wp_region_quiet_below (by kernel_rfl) (by kernel_rfl) ?_
  iterate 43 (go_big_quiet_step (first | (go_at_call 12; with_reducible exact Calls.regrown_of (HA.out _ _)) | (go_at_call 8; first | with_reducible exact Calls.regrown_of (HRP2.out _ _) | with_reducible exact Calls.regrown_of (HRM2.out _ _)) | (go_at_call 11; with_reducible exact Calls.regrown_of (HSM2.out _ _ _))))
  refine wpQuiet_nil ?_
  intro _ hw'
  obtain ⟨⟨dq, osq⟩, hw''⟩ := hw'
  subst hw''
  have hb := below_regrown w4 dq osq
  have HB2 := Lib.hid (HB.out.trans (hb.mono (by have := HB.out.size; omega)))
  clear x0 x1 x2 y0 y1 y2 hb HA HRP2 HRM2 HSM2 HB
  generalize grow (redrawn w4 dq) osq = W1 at HB2 ⊢
  rename_i K hK
  refine hK _ _ ?_
  clear hK K
  go_wp2_with fail
  go_ret
  exact ⟨by first | rfl | simp, by rw [eB]; exact HB2.out⟩
theorem skippedOnce_any (a : Option Addr) (ca : Nat) (l0 : List Kk) (k : Kk) (hl0 : l0.length ≤ maxLen) (hla : l0.length ≤ ca) (w : World) (hp : KSl w a l0) :
    Calls Try.prog 4 #[.slice a l0.length ca, kkv k] w fun e w' => e = .returned (.bool true) ∧ Below w.heap.size w w' := by
  by_cases hr : rightK (l0.take 22)
  · by_cases hk : sizedK k
    · by_cases ho : atK (l0.take 22) k.r k.n = none
      · by_cases hf : (l0.take 22).length < 20
        · exact skippedOnce_few a ca l0 k hl0 hla _ rfl hr hk ho hf w hp
        · exact skippedOnce_full a ca l0 k hl0 hla _ rfl hr hk ho hf w hp
      · exact skippedOnce_old a ca l0 k hl0 hla _ rfl hr hk ho w hp
    · exact skippedOnce_uns a ca l0 k hl0 hla _ rfl hr hk w hp
  · exact skippedOnce_wrong a ca l0 k hl0 hla _ rfl hr w hp
end Go.Proofs.Ytfkfadcfafbmmaa
