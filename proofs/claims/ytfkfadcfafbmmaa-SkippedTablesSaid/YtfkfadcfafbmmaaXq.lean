/- SkippedTables: whether any table may be, with any key more, without one, and which two are the same, is as the document says, or refused. -/
import Derived.Test.YtfkfadcfafbmmaaXk
import Derived.Test.YtfkfadcfafbmmaaBg4
import Derived.Test.YtfkfadcfafbmmaaXpl
namespace Go.Proofs.Ytfkfadcfafbmmaa
open Go.RowKit
set_option maxRecDepth 100000

set_option maxHeartbeats 16000000 in
theorem skippedTables_wrong (a b : Option Addr) (ca cb : Nat) (l0 m0 : List Kk) (k : Kk) (r : ByteArray) (n : Nat) (hl0 : l0.length ≤ maxLen) (hm0 : m0.length ≤ maxLen) (hla : l0.length ≤ ca) (hmb : m0.length ≤ cb) (l m : List Kk) (hl : l0.take 22 = l) (hm : m0.take 22 = m) (hr : ¬ rightK l) (w : World) (hp : KSl w a l0) (hq : KSl w b m0) :
    Calls Try.prog 3 #[.slice a l0.length ca, .slice b m0.length cb, kkv k, .string r, .int .u64 (n : Int)] w fun e w' => e = .returned (.bool true) ∧ Below w.heap.size w w' := by
  have hll : l.length ≤ 22 := by rw [← hl, List.length_take]; omega
  have hml : m.length ≤ 22 := by rw [← hm, List.length_take]; omega
  have hf1 := few12_any a ca l0 hl0 hla
  have hf2 := few12_any b cb m0 hm0 hmb
  have hp1 := hp.take 22
  have hq1 := hq.take 22
  rw [hl] at hf1 hp1
  rw [hm] at hf2 hq1
  have hput := fun (c : Nat) (hc : l.length ≤ c) (W : World) => Put_any a c l k (by omega) hc W
  have htk := fun (c : Nat) (hc : l.length ≤ c) (W : World) => Take_any a c l r n (by omega) hc W
  have hpl := putT_length (l := l) k
  have htl := takeT_length (l := l) r n
  obtain ⟨hpE, hpT⟩ := put_wrong hr k
  obtain ⟨htE, htS, htT⟩ := take_wrong hr r n
  rw [hpT] at hpl
  rw [htT] at htl
  rw [hpE, hpT] at hput
  rw [htE, htS, htT] at htk
  have hR := fun (c : Nat) (hc : l.length ≤ c) (W : World) => Right_any a c l (by omega) hc W
  have hRR := fun (c : Nat) (hc : l.length ≤ c) (W : World) => rightR_any a c l (by omega) hc W
  rw [decide_eq_false hr] at hR hRR
  have hLK := fun (c c' : Nat) (W : World) => Like_any a b c c' l m (by omega) W
  have hSM := fun (c c' : Nat) (W : World) => sameR_any a b c c' l m (by omega) W
  obtain ⟨Z, eZ⟩ : ∃ Z, decide (l = m) = Z := ⟨_, rfl⟩
  simp only [eZ] at hLK hSM
  have hLL := fun (c c' : Nat) (W : World) => Like_any a a c c' l l (by omega) W
  rw [decide_eq_true rfl] at hLL
  have HR := Lib.hid hR; have HRR := Lib.hid hRR; have HLK := Lib.hid hLK; have HSM := Lib.hid hSM; have HLL := Lib.hid hLL; have HPUT := Lib.hid hput; have HTK := Lib.hid htk; have HF1 := Lib.hid hf1; have HF2 := Lib.hid hf2; have HKL := Lib.hid hp1; have HKM := Lib.hid hq1
  clear hR hRR hLK hSM hLL hput htk hf1 hf2 hp1 hq1 hp hq hl hm hl0 hm0 hla hmb eZ
  clear hr hpE hpT htE htS htT hpl htl hll hml
  unfold kkv at HPUT ⊢
  go_enter Try.func3, Try.ntmps3
  go_upto_region 1 with fail
  have hal : Below w.heap.size w (w.alloc (.cells #[.string k.r, .int .u64 (k.n : Int), .string k.k] 25)) := by go_grown
  have hC : (w.alloc (.cells #[.string k.r, .int .u64 (k.n : Int), .string k.k] 25)).heap[w.heap.size]? = some (.cells #[.string k.r, .int .u64 (k.n : Int), .string k.k] 25) := heap_alloc_new _ _
  have HKL2 := Lib.hid (HKL.out.on hal); have HKM2 := Lib.hid (HKM.out.on hal)
  clear HKL HKM
  have HKL := HKL2; have HKM := HKM2
  clear HKL2 HKM2
  obtain ⟨B, eB⟩ : ∃ B, w.heap.size = B := ⟨_, rfl⟩
  rw [eB] at hal hC ⊢
  obtain ⟨W0, eW0⟩ : ∃ W0, w.alloc (.cells #[.string k.r, .int .u64 (k.n : Int), .string k.k] 25) = W0 := ⟨_, rfl⟩
  rw [eW0] at hal hC HKL HKM ⊢
  have HC := Lib.hid hC; have HB := Lib.hid hal
  clear hC hal eW0
  go_wp2_with fail
  refine (HF1.out _).mono ?_
  rintro e w1 ⟨c1, rfl, hc1, rfl⟩
  go_wp2_with fail
  refine (HF2.out _).mono ?_
  rintro e w1 ⟨c2, rfl, hc2, rfl⟩
  have HC12 := Lib.hid (And.intro hc1 hc2)
  clear HF1 HF2 hc1 hc2
  have e0 : W0.cell? ⟨B, 0, none⟩ = some (.string k.r) := by rw [cell_of_row _ _ _ _ _ _ HC.out]; rfl
  have e1 : W0.cell? ⟨B, 1, none⟩ = some (.int .u64 (k.n : Int)) := by rw [cell_of_row _ _ _ _ _ _ HC.out]; rfl
  have e2 : W0.cell? ⟨B, 2, none⟩ = some (.string k.k) := by rw [cell_of_row _ _ _ _ _ _ HC.out]; rfl
  go_wp2_with fail
  refine (HPUT.out c1 HC12.out.1 _ HKL.out).mono ?_
  rintro e w1 ⟨a3, c3, rfl, hc3, hk, hb⟩
  have HC2 := Lib.hid ((hb.block B (Array.getElem?_eq_some_iff.1 HC.out).1).trans HC.out); have HB2 := Lib.hid (HB.out.trans (hb.mono (by have := HB.out.size; omega)))
  clear HC HB
  have HC := HC2; have HB := HB2
  clear HC2 HB2
  have HN_ := Lib.hid (HKL.out.on hb)
  clear HKL
  have HKL := HN_
  clear HN_
  have HN_ := Lib.hid (HKM.out.on hb)
  clear HKM
  have HKM := HN_
  clear HN_
  have HKP := Lib.hid hk
  clear hb hk HPUT
  clear e0 e1 e2
  go_wp2_with fail
  refine (HTK.out c1 HC12.out.1 _ HKL.out).mono ?_
  rintro e w2 ⟨a4, c4, rfl, hc4, hk, hb⟩
  have HC2 := Lib.hid ((hb.block B (Array.getElem?_eq_some_iff.1 HC.out).1).trans HC.out); have HB2 := Lib.hid (HB.out.trans (hb.mono (by have := HB.out.size; omega)))
  clear HC HB
  have HC := HC2; have HB := HB2
  clear HC2 HB2
  have HN_ := Lib.hid (HKL.out.on hb)
  clear HKL
  have HKL := HN_
  clear HN_
  have HN_ := Lib.hid (HKM.out.on hb)
  clear HKM
  have HKM := HN_
  clear HN_
  have HN_ := Lib.hid (HKP.out.on hb)
  clear HKP
  have HKP := HN_
  clear HN_
  have HKT := Lib.hid hk
  clear hb hk HTK
  go_wp2_with fail
  refine (HR.out c1 HC12.out.1 _ HKL.out).mono ?_
  rintro e w3 ⟨rfl, hb⟩
  have HC2 := Lib.hid ((hb.block B (Array.getElem?_eq_some_iff.1 HC.out).1).trans HC.out); have HB2 := Lib.hid (HB.out.trans (hb.mono (by have := HB.out.size; omega)))
  clear HC HB
  have HC := HC2; have HB := HB2
  clear HC2 HB2
  have HN_ := Lib.hid (HKL.out.on hb)
  clear HKL
  have HKL := HN_
  clear HN_
  have HN_ := Lib.hid (HKM.out.on hb)
  clear HKM
  have HKM := HN_
  clear HN_
  have HN_ := Lib.hid (HKP.out.on hb)
  clear HKP
  have HKP := HN_
  clear HN_
  have HN_ := Lib.hid (HKT.out.on hb)
  clear HKT
  have HKT := HN_
  clear HN_
  clear hb HR
  go_wp2_with fail
  refine (HRR.out c1 HC12.out.1 _ HKL.out).mono ?_
  rintro e w4 ⟨rfl, hb⟩
  have HC2 := Lib.hid ((hb.block B (Array.getElem?_eq_some_iff.1 HC.out).1).trans HC.out); have HB2 := Lib.hid (HB.out.trans (hb.mono (by have := HB.out.size; omega)))
  clear HC HB
  have HC := HC2; have HB := HB2
  clear HC2 HB2
  have HN_ := Lib.hid (HKL.out.on hb)
  clear HKL
  have HKL := HN_
  clear HN_
  have HN_ := Lib.hid (HKM.out.on hb)
  clear HKM
  have HKM := HN_
  clear HN_
  have HN_ := Lib.hid (HKP.out.on hb)
  clear HKP
  have HKP := HN_
  clear HN_
  have HN_ := Lib.hid (HKT.out.on hb)
  clear HKT
  have HKT := HN_
  clear HN_
  clear hb
  go_wp2_with fail
  refine (HLK.out c1 c2 _ HKL.out HKM.out).mono ?_
  rintro e w5 ⟨rfl, hb⟩
  have HC2 := Lib.hid ((hb.block B (Array.getElem?_eq_some_iff.1 HC.out).1).trans HC.out); have HB2 := Lib.hid (HB.out.trans (hb.mono (by have := HB.out.size; omega)))
  clear HC HB
  have HC := HC2; have HB := HB2
  clear HC2 HB2
  have HN_ := Lib.hid (HKL.out.on hb)
  clear HKL
  have HKL := HN_
  clear HN_
  have HN_ := Lib.hid (HKM.out.on hb)
  clear HKM
  have HKM := HN_
  clear HN_
  have HN_ := Lib.hid (HKP.out.on hb)
  clear HKP
  have HKP := HN_
  clear HN_
  have HN_ := Lib.hid (HKT.out.on hb)
  clear HKT
  have HKT := HN_
  clear HN_
  clear hb HLK
  go_wp2_with fail
  refine (HSM.out c1 c2 _ HKL.out HKM.out).mono ?_
  rintro e w6 ⟨rfl, hb⟩
  have HC2 := Lib.hid ((hb.block B (Array.getElem?_eq_some_iff.1 HC.out).1).trans HC.out); have HB2 := Lib.hid (HB.out.trans (hb.mono (by have := HB.out.size; omega)))
  clear HC HB
  have HC := HC2; have HB := HB2
  clear HC2 HB2
  have HN_ := Lib.hid (HKL.out.on hb)
  clear HKL
  have HKL := HN_
  clear HN_
  have HN_ := Lib.hid (HKM.out.on hb)
  clear HKM
  have HKM := HN_
  clear HN_
  have HN_ := Lib.hid (HKP.out.on hb)
  clear HKP
  have HKP := HN_
  clear HN_
  have HN_ := Lib.hid (HKT.out.on hb)
  clear HKT
  have HKT := HN_
  clear HN_
  clear hb HSM
  go_wp2_with fail
  refine (HLL.out c1 c1 _ HKL.out HKL.out).mono ?_
  rintro e w7 ⟨rfl, hb⟩
  have HC2 := Lib.hid ((hb.block B (Array.getElem?_eq_some_iff.1 HC.out).1).trans HC.out); have HB2 := Lib.hid (HB.out.trans (hb.mono (by have := HB.out.size; omega)))
  clear HC HB
  have HC := HC2; have HB := HB2
  clear HC2 HB2
  have HN_ := Lib.hid (HKL.out.on hb)
  clear HKL
  have HKL := HN_
  clear HN_
  have HN_ := Lib.hid (HKM.out.on hb)
  clear HKM
  have HKM := HN_
  clear HN_
  have HN_ := Lib.hid (HKP.out.on hb)
  clear HKP
  have HKP := HN_
  clear HN_
  have HN_ := Lib.hid (HKT.out.on hb)
  clear HKT
  have HKT := HN_
  clear HN_
  clear hb HLL
  go_wp2_with fail
  refine (alive12_any _).mono ?_
  rintro e w8 ⟨rfl, hb⟩
  have HC2 := Lib.hid ((hb.block B (Array.getElem?_eq_some_iff.1 HC.out).1).trans HC.out); have HB2 := Lib.hid (HB.out.trans (hb.mono (by have := HB.out.size; omega)))
  clear HC HB
  have HC := HC2; have HB := HB2
  clear HC2 HB2
  have HN_ := Lib.hid (HKL.out.on hb)
  clear HKL
  have HKL := HN_
  clear HN_
  have HN_ := Lib.hid (HKM.out.on hb)
  clear HKM
  have HKM := HN_
  clear HN_
  have HN_ := Lib.hid (HKP.out.on hb)
  clear HKP
  have HKP := HN_
  clear HN_
  have HN_ := Lib.hid (HKT.out.on hb)
  clear HKT
  have HKT := HN_
  clear HN_
  clear hb
  go_wp2_with fail
  refine (HRR.out c1 HC12.out.1 _ HKL.out).mono ?_
  rintro e w9 ⟨rfl, hb⟩
  have HC2 := Lib.hid ((hb.block B (Array.getElem?_eq_some_iff.1 HC.out).1).trans HC.out); have HB2 := Lib.hid (HB.out.trans (hb.mono (by have := HB.out.size; omega)))
  clear HC HB
  have HC := HC2; have HB := HB2
  clear HC2 HB2
  have HN_ := Lib.hid (HKL.out.on hb)
  clear HKL
  have HKL := HN_
  clear HN_
  have HN_ := Lib.hid (HKM.out.on hb)
  clear HKM
  have HKM := HN_
  clear HN_
  have HN_ := Lib.hid (HKP.out.on hb)
  clear HKP
  have HKP := HN_
  clear HN_
  have HN_ := Lib.hid (HKT.out.on hb)
  clear HKT
  have HKT := HN_
  clear HN_
  clear hb HRR
  go_wp2_with fail
  go_ret
  exact ⟨by first | rfl | simp, by rw [eB]; exact HB.out⟩
set_option maxHeartbeats 16000000 in
theorem skippedTables_none_uns (a b : Option Addr) (ca cb : Nat) (l0 m0 : List Kk) (k : Kk) (r : ByteArray) (n : Nat) (hl0 : l0.length ≤ maxLen) (hm0 : m0.length ≤ maxLen) (hla : l0.length ≤ ca) (hmb : m0.length ≤ cb) (l m : List Kk) (hl : l0.take 22 = l) (hm : m0.take 22 = m) (hr : rightK l) (hat : atK l r n = none) (hk : ¬ sizedK k) (w : World) (hp : KSl w a l0) (hq : KSl w b m0) :
    Calls Try.prog 3 #[.slice a l0.length ca, .slice b m0.length cb, kkv k, .string r, .int .u64 (n : Int)] w fun e w' => e = .returned (.bool true) ∧ Below w.heap.size w w' := by
  have hll : l.length ≤ 22 := by rw [← hl, List.length_take]; omega
  have hml : m.length ≤ 22 := by rw [← hm, List.length_take]; omega
  have hf1 := few12_any a ca l0 hl0 hla
  have hf2 := few12_any b cb m0 hm0 hmb
  have hp1 := hp.take 22
  have hq1 := hq.take 22
  rw [hl] at hf1 hp1
  rw [hm] at hf2 hq1
  have hput := fun (c : Nat) (hc : l.length ≤ c) (W : World) => Put_any a c l k (by omega) hc W
  have htk := fun (c : Nat) (hc : l.length ≤ c) (W : World) => Take_any a c l r n (by omega) hc W
  have hpl := putT_length (l := l) k
  have htl := takeT_length (l := l) r n
  obtain ⟨htE, htS, htT⟩ := take_none hr hat
  obtain ⟨hpE, hpT⟩ := put_unsized hr hk
  rw [hpT] at hpl
  rw [htT] at htl
  rw [hpE, hpT] at hput
  rw [htE, htS, htT] at htk
  have hR := fun (c : Nat) (hc : l.length ≤ c) (W : World) => Right_any a c l (by omega) hc W
  have hRR := fun (c : Nat) (hc : l.length ≤ c) (W : World) => rightR_any a c l (by omega) hc W
  rw [decide_eq_true hr] at hR hRR
  have hLK := fun (c c' : Nat) (W : World) => Like_any a b c c' l m (by omega) W
  have hSM := fun (c c' : Nat) (W : World) => sameR_any a b c c' l m (by omega) W
  obtain ⟨Z, eZ⟩ : ∃ Z, decide (l = m) = Z := ⟨_, rfl⟩
  simp only [eZ] at hLK hSM
  have hLL := fun (c c' : Nat) (W : World) => Like_any a a c c' l l (by omega) W
  rw [decide_eq_true rfl] at hLL
  have HR := Lib.hid hR; have HRR := Lib.hid hRR; have HLK := Lib.hid hLK; have HSM := Lib.hid hSM; have HLL := Lib.hid hLL; have HPUT := Lib.hid hput; have HTK := Lib.hid htk; have HF1 := Lib.hid hf1; have HF2 := Lib.hid hf2; have HKL := Lib.hid hp1; have HKM := Lib.hid hq1
  clear hR hRR hLK hSM hLL hput htk hf1 hf2 hp1 hq1 hp hq hl hm hl0 hm0 hla hmb eZ
  have hAT := fun (c : Nat) (W : World) => atR_any a c l r n (by omega) W
  have hSZ := fun (W : World) => sizedR_any k W
  rw [show atI l r n = -1 by unfold atI; rw [hat]] at hAT
  rw [decide_eq_false hk] at hSZ
  unfold kkv at hSZ
  have HAT := Lib.hid hAT; have HSZ := Lib.hid hSZ
  clear hAT hSZ hr hat hk hpE hpT htE htS htT hpl htl hll hml
  unfold kkv at HPUT ⊢
  go_enter Try.func3, Try.ntmps3
  go_upto_region 1 with fail
  have hal : Below w.heap.size w (w.alloc (.cells #[.string k.r, .int .u64 (k.n : Int), .string k.k] 25)) := by go_grown
  have hC : (w.alloc (.cells #[.string k.r, .int .u64 (k.n : Int), .string k.k] 25)).heap[w.heap.size]? = some (.cells #[.string k.r, .int .u64 (k.n : Int), .string k.k] 25) := heap_alloc_new _ _
  have HKL2 := Lib.hid (HKL.out.on hal); have HKM2 := Lib.hid (HKM.out.on hal)
  clear HKL HKM
  have HKL := HKL2; have HKM := HKM2
  clear HKL2 HKM2
  obtain ⟨B, eB⟩ : ∃ B, w.heap.size = B := ⟨_, rfl⟩
  rw [eB] at hal hC ⊢
  obtain ⟨W0, eW0⟩ : ∃ W0, w.alloc (.cells #[.string k.r, .int .u64 (k.n : Int), .string k.k] 25) = W0 := ⟨_, rfl⟩
  rw [eW0] at hal hC HKL HKM ⊢
  have HC := Lib.hid hC; have HB := Lib.hid hal
  clear hC hal eW0
  go_wp2_with fail
  refine (HF1.out _).mono ?_
  rintro e w1 ⟨c1, rfl, hc1, rfl⟩
  go_wp2_with fail
  refine (HF2.out _).mono ?_
  rintro e w1 ⟨c2, rfl, hc2, rfl⟩
  have HC12 := Lib.hid (And.intro hc1 hc2)
  clear HF1 HF2 hc1 hc2
  have e0 : W0.cell? ⟨B, 0, none⟩ = some (.string k.r) := by rw [cell_of_row _ _ _ _ _ _ HC.out]; rfl
  have e1 : W0.cell? ⟨B, 1, none⟩ = some (.int .u64 (k.n : Int)) := by rw [cell_of_row _ _ _ _ _ _ HC.out]; rfl
  have e2 : W0.cell? ⟨B, 2, none⟩ = some (.string k.k) := by rw [cell_of_row _ _ _ _ _ _ HC.out]; rfl
  go_wp2_with fail
  refine (HPUT.out c1 HC12.out.1 _ HKL.out).mono ?_
  rintro e w1 ⟨a3, c3, rfl, hc3, hk, hb⟩
  have HC2 := Lib.hid ((hb.block B (Array.getElem?_eq_some_iff.1 HC.out).1).trans HC.out); have HB2 := Lib.hid (HB.out.trans (hb.mono (by have := HB.out.size; omega)))
  clear HC HB
  have HC := HC2; have HB := HB2
  clear HC2 HB2
  have HN_ := Lib.hid (HKL.out.on hb)
  clear HKL
  have HKL := HN_
  clear HN_
  have HN_ := Lib.hid (HKM.out.on hb)
  clear HKM
  have HKM := HN_
  clear HN_
  have HKP := Lib.hid hk
  clear hb hk HPUT
  clear e0 e1 e2
  go_wp2_with fail
  refine (HTK.out c1 HC12.out.1 _ HKL.out).mono ?_
  rintro e w2 ⟨a4, c4, rfl, hc4, hk, hb⟩
  have HC2 := Lib.hid ((hb.block B (Array.getElem?_eq_some_iff.1 HC.out).1).trans HC.out); have HB2 := Lib.hid (HB.out.trans (hb.mono (by have := HB.out.size; omega)))
  clear HC HB
  have HC := HC2; have HB := HB2
  clear HC2 HB2
  have HN_ := Lib.hid (HKL.out.on hb)
  clear HKL
  have HKL := HN_
  clear HN_
  have HN_ := Lib.hid (HKM.out.on hb)
  clear HKM
  have HKM := HN_
  clear HN_
  have HN_ := Lib.hid (HKP.out.on hb)
  clear HKP
  have HKP := HN_
  clear HN_
  have HKT := Lib.hid hk
  clear hb hk HTK
  go_wp2_with fail
  refine (HR.out c1 HC12.out.1 _ HKL.out).mono ?_
  rintro e w3 ⟨rfl, hb⟩
  have HC2 := Lib.hid ((hb.block B (Array.getElem?_eq_some_iff.1 HC.out).1).trans HC.out); have HB2 := Lib.hid (HB.out.trans (hb.mono (by have := HB.out.size; omega)))
  clear HC HB
  have HC := HC2; have HB := HB2
  clear HC2 HB2
  have HN_ := Lib.hid (HKL.out.on hb)
  clear HKL
  have HKL := HN_
  clear HN_
  have HN_ := Lib.hid (HKM.out.on hb)
  clear HKM
  have HKM := HN_
  clear HN_
  have HN_ := Lib.hid (HKP.out.on hb)
  clear HKP
  have HKP := HN_
  clear HN_
  have HN_ := Lib.hid (HKT.out.on hb)
  clear HKT
  have HKT := HN_
  clear HN_
  clear hb HR
  go_wp2_with fail
  refine (HRR.out c1 HC12.out.1 _ HKL.out).mono ?_
  rintro e w4 ⟨rfl, hb⟩
  have HC2 := Lib.hid ((hb.block B (Array.getElem?_eq_some_iff.1 HC.out).1).trans HC.out); have HB2 := Lib.hid (HB.out.trans (hb.mono (by have := HB.out.size; omega)))
  clear HC HB
  have HC := HC2; have HB := HB2
  clear HC2 HB2
  have HN_ := Lib.hid (HKL.out.on hb)
  clear HKL
  have HKL := HN_
  clear HN_
  have HN_ := Lib.hid (HKM.out.on hb)
  clear HKM
  have HKM := HN_
  clear HN_
  have HN_ := Lib.hid (HKP.out.on hb)
  clear HKP
  have HKP := HN_
  clear HN_
  have HN_ := Lib.hid (HKT.out.on hb)
  clear HKT
  have HKT := HN_
  clear HN_
  clear hb
  go_wp2_with fail
  refine (HLK.out c1 c2 _ HKL.out HKM.out).mono ?_
  rintro e w5 ⟨rfl, hb⟩
  have HC2 := Lib.hid ((hb.block B (Array.getElem?_eq_some_iff.1 HC.out).1).trans HC.out); have HB2 := Lib.hid (HB.out.trans (hb.mono (by have := HB.out.size; omega)))
  clear HC HB
  have HC := HC2; have HB := HB2
  clear HC2 HB2
  have HN_ := Lib.hid (HKL.out.on hb)
  clear HKL
  have HKL := HN_
  clear HN_
  have HN_ := Lib.hid (HKM.out.on hb)
  clear HKM
  have HKM := HN_
  clear HN_
  have HN_ := Lib.hid (HKP.out.on hb)
  clear HKP
  have HKP := HN_
  clear HN_
  have HN_ := Lib.hid (HKT.out.on hb)
  clear HKT
  have HKT := HN_
  clear HN_
  clear hb HLK
  go_wp2_with fail
  refine (HSM.out c1 c2 _ HKL.out HKM.out).mono ?_
  rintro e w6 ⟨rfl, hb⟩
  have HC2 := Lib.hid ((hb.block B (Array.getElem?_eq_some_iff.1 HC.out).1).trans HC.out); have HB2 := Lib.hid (HB.out.trans (hb.mono (by have := HB.out.size; omega)))
  clear HC HB
  have HC := HC2; have HB := HB2
  clear HC2 HB2
  have HN_ := Lib.hid (HKL.out.on hb)
  clear HKL
  have HKL := HN_
  clear HN_
  have HN_ := Lib.hid (HKM.out.on hb)
  clear HKM
  have HKM := HN_
  clear HN_
  have HN_ := Lib.hid (HKP.out.on hb)
  clear HKP
  have HKP := HN_
  clear HN_
  have HN_ := Lib.hid (HKT.out.on hb)
  clear HKT
  have HKT := HN_
  clear HN_
  clear hb HSM
  go_wp2_with fail
  refine (HLL.out c1 c1 _ HKL.out HKL.out).mono ?_
  rintro e w7 ⟨rfl, hb⟩
  have HC2 := Lib.hid ((hb.block B (Array.getElem?_eq_some_iff.1 HC.out).1).trans HC.out); have HB2 := Lib.hid (HB.out.trans (hb.mono (by have := HB.out.size; omega)))
  clear HC HB
  have HC := HC2; have HB := HB2
  clear HC2 HB2
  have HN_ := Lib.hid (HKL.out.on hb)
  clear HKL
  have HKL := HN_
  clear HN_
  have HN_ := Lib.hid (HKM.out.on hb)
  clear HKM
  have HKM := HN_
  clear HN_
  have HN_ := Lib.hid (HKP.out.on hb)
  clear HKP
  have HKP := HN_
  clear HN_
  have HN_ := Lib.hid (HKT.out.on hb)
  clear HKT
  have HKT := HN_
  clear HN_
  clear hb HLL
  go_wp2_with fail
  refine (alive12_any _).mono ?_
  rintro e w8 ⟨rfl, hb⟩
  have HC2 := Lib.hid ((hb.block B (Array.getElem?_eq_some_iff.1 HC.out).1).trans HC.out); have HB2 := Lib.hid (HB.out.trans (hb.mono (by have := HB.out.size; omega)))
  clear HC HB
  have HC := HC2; have HB := HB2
  clear HC2 HB2
  have HN_ := Lib.hid (HKL.out.on hb)
  clear HKL
  have HKL := HN_
  clear HN_
  have HN_ := Lib.hid (HKM.out.on hb)
  clear HKM
  have HKM := HN_
  clear HN_
  have HN_ := Lib.hid (HKP.out.on hb)
  clear HKP
  have HKP := HN_
  clear HN_
  have HN_ := Lib.hid (HKT.out.on hb)
  clear HKT
  have HKT := HN_
  clear HN_
  clear hb
  go_wp2_with fail
  refine (HRR.out c1 HC12.out.1 _ HKL.out).mono ?_
  rintro e w9 ⟨rfl, hb⟩
  have HC2 := Lib.hid ((hb.block B (Array.getElem?_eq_some_iff.1 HC.out).1).trans HC.out); have HB2 := Lib.hid (HB.out.trans (hb.mono (by have := HB.out.size; omega)))
  clear HC HB
  have HC := HC2; have HB := HB2
  clear HC2 HB2
  have HN_ := Lib.hid (HKL.out.on hb)
  clear HKL
  have HKL := HN_
  clear HN_
  have HN_ := Lib.hid (HKM.out.on hb)
  clear HKM
  have HKM := HN_
  clear HN_
  have HN_ := Lib.hid (HKP.out.on hb)
  clear HKP
  have HKP := HN_
  clear HN_
  have HN_ := Lib.hid (HKT.out.on hb)
  clear HKT
  have HKT := HN_
  clear HN_
  clear hb HRR
  go_wp2_with fail
  refine (HAT.out c1 _ HKL.out).mono ?_
  rintro e w10 ⟨rfl, hb⟩
  have HC2 := Lib.hid ((hb.block B (Array.getElem?_eq_some_iff.1 HC.out).1).trans HC.out); have HB2 := Lib.hid (HB.out.trans (hb.mono (by have := HB.out.size; omega)))
  clear HC HB
  have HC := HC2; have HB := HB2
  clear HC2 HB2
  have HN_ := Lib.hid (HKL.out.on hb)
  clear HKL
  have HKL := HN_
  clear HN_
  have HN_ := Lib.hid (HKM.out.on hb)
  clear HKM
  have HKM := HN_
  clear HN_
  have HN_ := Lib.hid (HKP.out.on hb)
  clear HKP
  have HKP := HN_
  clear HN_
  have HN_ := Lib.hid (HKT.out.on hb)
  clear HKT
  have HKT := HN_
  clear HN_
  clear hb HAT
  have e0 : w10.cell? ⟨B, 0, none⟩ = some (.string k.r) := by rw [cell_of_row _ _ _ _ _ _ HC.out]; rfl
  have e1 : w10.cell? ⟨B, 1, none⟩ = some (.int .u64 (k.n : Int)) := by rw [cell_of_row _ _ _ _ _ _ HC.out]; rfl
  have e2 : w10.cell? ⟨B, 2, none⟩ = some (.string k.k) := by rw [cell_of_row _ _ _ _ _ _ HC.out]; rfl
  go_wp2_with fail
  refine (HSZ.out _).mono ?_
  rintro e w11 ⟨rfl, hb⟩
  have HC2 := Lib.hid ((hb.block B (Array.getElem?_eq_some_iff.1 HC.out).1).trans HC.out); have HB2 := Lib.hid (HB.out.trans (hb.mono (by have := HB.out.size; omega)))
  clear HC HB
  have HC := HC2; have HB := HB2
  clear HC2 HB2
  have HN_ := Lib.hid (HKL.out.on hb)
  clear HKL
  have HKL := HN_
  clear HN_
  have HN_ := Lib.hid (HKM.out.on hb)
  clear HKM
  have HKM := HN_
  clear HN_
  have HN_ := Lib.hid (HKP.out.on hb)
  clear HKP
  have HKP := HN_
  clear HN_
  have HN_ := Lib.hid (HKT.out.on hb)
  clear HKT
  have HKT := HN_
  clear HN_
  clear hb HSZ
  clear e0 e1 e2
  go_wp2_with fail
  go_ret
  exact ⟨by first | rfl | simp, by rw [eB]; exact HB.out⟩
set_option maxHeartbeats 16000000 in
theorem skippedTables_none_old (a b : Option Addr) (ca cb : Nat) (l0 m0 : List Kk) (k : Kk) (r : ByteArray) (n : Nat) (hl0 : l0.length ≤ maxLen) (hm0 : m0.length ≤ maxLen) (hla : l0.length ≤ ca) (hmb : m0.length ≤ cb) (l m : List Kk) (hl : l0.take 22 = l) (hm : m0.take 22 = m) (hr : rightK l) (hat : atK l r n = none) (hk : sizedK k) (hold : ¬ atK l k.r k.n = none) (w : World) (hp : KSl w a l0) (hq : KSl w b m0) :
    Calls Try.prog 3 #[.slice a l0.length ca, .slice b m0.length cb, kkv k, .string r, .int .u64 (n : Int)] w fun e w' => e = .returned (.bool true) ∧ Below w.heap.size w w' := by
  have hll : l.length ≤ 22 := by rw [← hl, List.length_take]; omega
  have hml : m.length ≤ 22 := by rw [← hm, List.length_take]; omega
  have hf1 := few12_any a ca l0 hl0 hla
  have hf2 := few12_any b cb m0 hm0 hmb
  have hp1 := hp.take 22
  have hq1 := hq.take 22
  rw [hl] at hf1 hp1
  rw [hm] at hf2 hq1
  have hput := fun (c : Nat) (hc : l.length ≤ c) (W : World) => Put_any a c l k (by omega) hc W
  have htk := fun (c : Nat) (hc : l.length ≤ c) (W : World) => Take_any a c l r n (by omega) hc W
  have hpl := putT_length (l := l) k
  have htl := takeT_length (l := l) r n
  obtain ⟨htE, htS, htT⟩ := take_none hr hat
  obtain ⟨hpE, hpT⟩ := put_old hr hk hold
  rw [hpT] at hpl
  rw [htT] at htl
  rw [hpE, hpT] at hput
  rw [htE, htS, htT] at htk
  have hR := fun (c : Nat) (hc : l.length ≤ c) (W : World) => Right_any a c l (by omega) hc W
  have hRR := fun (c : Nat) (hc : l.length ≤ c) (W : World) => rightR_any a c l (by omega) hc W
  rw [decide_eq_true hr] at hR hRR
  have hLK := fun (c c' : Nat) (W : World) => Like_any a b c c' l m (by omega) W
  have hSM := fun (c c' : Nat) (W : World) => sameR_any a b c c' l m (by omega) W
  obtain ⟨Z, eZ⟩ : ∃ Z, decide (l = m) = Z := ⟨_, rfl⟩
  simp only [eZ] at hLK hSM
  have hLL := fun (c c' : Nat) (W : World) => Like_any a a c c' l l (by omega) W
  rw [decide_eq_true rfl] at hLL
  have HR := Lib.hid hR; have HRR := Lib.hid hRR; have HLK := Lib.hid hLK; have HSM := Lib.hid hSM; have HLL := Lib.hid hLL; have HPUT := Lib.hid hput; have HTK := Lib.hid htk; have HF1 := Lib.hid hf1; have HF2 := Lib.hid hf2; have HKL := Lib.hid hp1; have HKM := Lib.hid hq1
  clear hR hRR hLK hSM hLL hput htk hf1 hf2 hp1 hq1 hp hq hl hm hl0 hm0 hla hmb eZ
  have hAT := fun (c : Nat) (W : World) => atR_any a c l r n (by omega) W
  have hSZ := fun (W : World) => sizedR_any k W
  rw [show atI l r n = -1 by unfold atI; rw [hat]] at hAT
  rw [decide_eq_true hk] at hSZ
  have hAK := fun (c : Nat) (W : World) => atR_any a c l k.r k.n (by omega) W
  obtain ⟨j, hj⟩ : ∃ j, atK l k.r k.n = some j := Option.ne_none_iff_exists'.1 hold
  rw [show atI l k.r k.n = (j : Int) by unfold atI; rw [hj]] at hAK
  have hj0 : (0 : Int) ≤ (j : Int) := by omega
  unfold kkv at hSZ
  have HAT := Lib.hid hAT; have HSZ := Lib.hid hSZ; have HAK := Lib.hid hAK
  clear hAT hSZ hr hat hk hpE hpT htE htS htT hpl htl hll hml hAK hold hj
  unfold kkv at HPUT ⊢
  go_enter Try.func3, Try.ntmps3
  go_upto_region 1 with fail
  have hal : Below w.heap.size w (w.alloc (.cells #[.string k.r, .int .u64 (k.n : Int), .string k.k] 25)) := by go_grown
  have hC : (w.alloc (.cells #[.string k.r, .int .u64 (k.n : Int), .string k.k] 25)).heap[w.heap.size]? = some (.cells #[.string k.r, .int .u64 (k.n : Int), .string k.k] 25) := heap_alloc_new _ _
  have HKL2 := Lib.hid (HKL.out.on hal); have HKM2 := Lib.hid (HKM.out.on hal)
  clear HKL HKM
  have HKL := HKL2; have HKM := HKM2
  clear HKL2 HKM2
  obtain ⟨B, eB⟩ : ∃ B, w.heap.size = B := ⟨_, rfl⟩
  rw [eB] at hal hC ⊢
  obtain ⟨W0, eW0⟩ : ∃ W0, w.alloc (.cells #[.string k.r, .int .u64 (k.n : Int), .string k.k] 25) = W0 := ⟨_, rfl⟩
  rw [eW0] at hal hC HKL HKM ⊢
  have HC := Lib.hid hC; have HB := Lib.hid hal
  clear hC hal eW0
  go_wp2_with fail
  refine (HF1.out _).mono ?_
  rintro e w1 ⟨c1, rfl, hc1, rfl⟩
  go_wp2_with fail
  refine (HF2.out _).mono ?_
  rintro e w1 ⟨c2, rfl, hc2, rfl⟩
  have HC12 := Lib.hid (And.intro hc1 hc2)
  clear HF1 HF2 hc1 hc2
  have e0 : W0.cell? ⟨B, 0, none⟩ = some (.string k.r) := by rw [cell_of_row _ _ _ _ _ _ HC.out]; rfl
  have e1 : W0.cell? ⟨B, 1, none⟩ = some (.int .u64 (k.n : Int)) := by rw [cell_of_row _ _ _ _ _ _ HC.out]; rfl
  have e2 : W0.cell? ⟨B, 2, none⟩ = some (.string k.k) := by rw [cell_of_row _ _ _ _ _ _ HC.out]; rfl
  go_wp2_with fail
  refine (HPUT.out c1 HC12.out.1 _ HKL.out).mono ?_
  rintro e w1 ⟨a3, c3, rfl, hc3, hk, hb⟩
  have HC2 := Lib.hid ((hb.block B (Array.getElem?_eq_some_iff.1 HC.out).1).trans HC.out); have HB2 := Lib.hid (HB.out.trans (hb.mono (by have := HB.out.size; omega)))
  clear HC HB
  have HC := HC2; have HB := HB2
  clear HC2 HB2
  have HN_ := Lib.hid (HKL.out.on hb)
  clear HKL
  have HKL := HN_
  clear HN_
  have HN_ := Lib.hid (HKM.out.on hb)
  clear HKM
  have HKM := HN_
  clear HN_
  have HKP := Lib.hid hk
  clear hb hk HPUT
  clear e0 e1 e2
  go_wp2_with fail
  refine (HTK.out c1 HC12.out.1 _ HKL.out).mono ?_
  rintro e w2 ⟨a4, c4, rfl, hc4, hk, hb⟩
  have HC2 := Lib.hid ((hb.block B (Array.getElem?_eq_some_iff.1 HC.out).1).trans HC.out); have HB2 := Lib.hid (HB.out.trans (hb.mono (by have := HB.out.size; omega)))
  clear HC HB
  have HC := HC2; have HB := HB2
  clear HC2 HB2
  have HN_ := Lib.hid (HKL.out.on hb)
  clear HKL
  have HKL := HN_
  clear HN_
  have HN_ := Lib.hid (HKM.out.on hb)
  clear HKM
  have HKM := HN_
  clear HN_
  have HN_ := Lib.hid (HKP.out.on hb)
  clear HKP
  have HKP := HN_
  clear HN_
  have HKT := Lib.hid hk
  clear hb hk HTK
  go_wp2_with fail
  refine (HR.out c1 HC12.out.1 _ HKL.out).mono ?_
  rintro e w3 ⟨rfl, hb⟩
  have HC2 := Lib.hid ((hb.block B (Array.getElem?_eq_some_iff.1 HC.out).1).trans HC.out); have HB2 := Lib.hid (HB.out.trans (hb.mono (by have := HB.out.size; omega)))
  clear HC HB
  have HC := HC2; have HB := HB2
  clear HC2 HB2
  have HN_ := Lib.hid (HKL.out.on hb)
  clear HKL
  have HKL := HN_
  clear HN_
  have HN_ := Lib.hid (HKM.out.on hb)
  clear HKM
  have HKM := HN_
  clear HN_
  have HN_ := Lib.hid (HKP.out.on hb)
  clear HKP
  have HKP := HN_
  clear HN_
  have HN_ := Lib.hid (HKT.out.on hb)
  clear HKT
  have HKT := HN_
  clear HN_
  clear hb HR
  go_wp2_with fail
  refine (HRR.out c1 HC12.out.1 _ HKL.out).mono ?_
  rintro e w4 ⟨rfl, hb⟩
  have HC2 := Lib.hid ((hb.block B (Array.getElem?_eq_some_iff.1 HC.out).1).trans HC.out); have HB2 := Lib.hid (HB.out.trans (hb.mono (by have := HB.out.size; omega)))
  clear HC HB
  have HC := HC2; have HB := HB2
  clear HC2 HB2
  have HN_ := Lib.hid (HKL.out.on hb)
  clear HKL
  have HKL := HN_
  clear HN_
  have HN_ := Lib.hid (HKM.out.on hb)
  clear HKM
  have HKM := HN_
  clear HN_
  have HN_ := Lib.hid (HKP.out.on hb)
  clear HKP
  have HKP := HN_
  clear HN_
  have HN_ := Lib.hid (HKT.out.on hb)
  clear HKT
  have HKT := HN_
  clear HN_
  clear hb
  go_wp2_with fail
  refine (HLK.out c1 c2 _ HKL.out HKM.out).mono ?_
  rintro e w5 ⟨rfl, hb⟩
  have HC2 := Lib.hid ((hb.block B (Array.getElem?_eq_some_iff.1 HC.out).1).trans HC.out); have HB2 := Lib.hid (HB.out.trans (hb.mono (by have := HB.out.size; omega)))
  clear HC HB
  have HC := HC2; have HB := HB2
  clear HC2 HB2
  have HN_ := Lib.hid (HKL.out.on hb)
  clear HKL
  have HKL := HN_
  clear HN_
  have HN_ := Lib.hid (HKM.out.on hb)
  clear HKM
  have HKM := HN_
  clear HN_
  have HN_ := Lib.hid (HKP.out.on hb)
  clear HKP
  have HKP := HN_
  clear HN_
  have HN_ := Lib.hid (HKT.out.on hb)
  clear HKT
  have HKT := HN_
  clear HN_
  clear hb HLK
  go_wp2_with fail
  refine (HSM.out c1 c2 _ HKL.out HKM.out).mono ?_
  rintro e w6 ⟨rfl, hb⟩
  have HC2 := Lib.hid ((hb.block B (Array.getElem?_eq_some_iff.1 HC.out).1).trans HC.out); have HB2 := Lib.hid (HB.out.trans (hb.mono (by have := HB.out.size; omega)))
  clear HC HB
  have HC := HC2; have HB := HB2
  clear HC2 HB2
  have HN_ := Lib.hid (HKL.out.on hb)
  clear HKL
  have HKL := HN_
  clear HN_
  have HN_ := Lib.hid (HKM.out.on hb)
  clear HKM
  have HKM := HN_
  clear HN_
  have HN_ := Lib.hid (HKP.out.on hb)
  clear HKP
  have HKP := HN_
  clear HN_
  have HN_ := Lib.hid (HKT.out.on hb)
  clear HKT
  have HKT := HN_
  clear HN_
  clear hb HSM
  go_wp2_with fail
  refine (HLL.out c1 c1 _ HKL.out HKL.out).mono ?_
  rintro e w7 ⟨rfl, hb⟩
  have HC2 := Lib.hid ((hb.block B (Array.getElem?_eq_some_iff.1 HC.out).1).trans HC.out); have HB2 := Lib.hid (HB.out.trans (hb.mono (by have := HB.out.size; omega)))
  clear HC HB
  have HC := HC2; have HB := HB2
  clear HC2 HB2
  have HN_ := Lib.hid (HKL.out.on hb)
  clear HKL
  have HKL := HN_
  clear HN_
  have HN_ := Lib.hid (HKM.out.on hb)
  clear HKM
  have HKM := HN_
  clear HN_
  have HN_ := Lib.hid (HKP.out.on hb)
  clear HKP
  have HKP := HN_
  clear HN_
  have HN_ := Lib.hid (HKT.out.on hb)
  clear HKT
  have HKT := HN_
  clear HN_
  clear hb HLL
  go_wp2_with fail
  refine (alive12_any _).mono ?_
  rintro e w8 ⟨rfl, hb⟩
  have HC2 := Lib.hid ((hb.block B (Array.getElem?_eq_some_iff.1 HC.out).1).trans HC.out); have HB2 := Lib.hid (HB.out.trans (hb.mono (by have := HB.out.size; omega)))
  clear HC HB
  have HC := HC2; have HB := HB2
  clear HC2 HB2
  have HN_ := Lib.hid (HKL.out.on hb)
  clear HKL
  have HKL := HN_
  clear HN_
  have HN_ := Lib.hid (HKM.out.on hb)
  clear HKM
  have HKM := HN_
  clear HN_
  have HN_ := Lib.hid (HKP.out.on hb)
  clear HKP
  have HKP := HN_
  clear HN_
  have HN_ := Lib.hid (HKT.out.on hb)
  clear HKT
  have HKT := HN_
  clear HN_
  clear hb
  go_wp2_with fail
  refine (HRR.out c1 HC12.out.1 _ HKL.out).mono ?_
  rintro e w9 ⟨rfl, hb⟩
  have HC2 := Lib.hid ((hb.block B (Array.getElem?_eq_some_iff.1 HC.out).1).trans HC.out); have HB2 := Lib.hid (HB.out.trans (hb.mono (by have := HB.out.size; omega)))
  clear HC HB
  have HC := HC2; have HB := HB2
  clear HC2 HB2
  have HN_ := Lib.hid (HKL.out.on hb)
  clear HKL
  have HKL := HN_
  clear HN_
  have HN_ := Lib.hid (HKM.out.on hb)
  clear HKM
  have HKM := HN_
  clear HN_
  have HN_ := Lib.hid (HKP.out.on hb)
  clear HKP
  have HKP := HN_
  clear HN_
  have HN_ := Lib.hid (HKT.out.on hb)
  clear HKT
  have HKT := HN_
  clear HN_
  clear hb HRR
  go_wp2_with fail
  refine (HAT.out c1 _ HKL.out).mono ?_
  rintro e w10 ⟨rfl, hb⟩
  have HC2 := Lib.hid ((hb.block B (Array.getElem?_eq_some_iff.1 HC.out).1).trans HC.out); have HB2 := Lib.hid (HB.out.trans (hb.mono (by have := HB.out.size; omega)))
  clear HC HB
  have HC := HC2; have HB := HB2
  clear HC2 HB2
  have HN_ := Lib.hid (HKL.out.on hb)
  clear HKL
  have HKL := HN_
  clear HN_
  have HN_ := Lib.hid (HKM.out.on hb)
  clear HKM
  have HKM := HN_
  clear HN_
  have HN_ := Lib.hid (HKP.out.on hb)
  clear HKP
  have HKP := HN_
  clear HN_
  have HN_ := Lib.hid (HKT.out.on hb)
  clear HKT
  have HKT := HN_
  clear HN_
  clear hb HAT
  have e0 : w10.cell? ⟨B, 0, none⟩ = some (.string k.r) := by rw [cell_of_row _ _ _ _ _ _ HC.out]; rfl
  have e1 : w10.cell? ⟨B, 1, none⟩ = some (.int .u64 (k.n : Int)) := by rw [cell_of_row _ _ _ _ _ _ HC.out]; rfl
  have e2 : w10.cell? ⟨B, 2, none⟩ = some (.string k.k) := by rw [cell_of_row _ _ _ _ _ _ HC.out]; rfl
  go_wp2_with fail
  refine (HSZ.out _).mono ?_
  rintro e w11 ⟨rfl, hb⟩
  have HC2 := Lib.hid ((hb.block B (Array.getElem?_eq_some_iff.1 HC.out).1).trans HC.out); have HB2 := Lib.hid (HB.out.trans (hb.mono (by have := HB.out.size; omega)))
  clear HC HB
  have HC := HC2; have HB := HB2
  clear HC2 HB2
  have HN_ := Lib.hid (HKL.out.on hb)
  clear HKL
  have HKL := HN_
  clear HN_
  have HN_ := Lib.hid (HKM.out.on hb)
  clear HKM
  have HKM := HN_
  clear HN_
  have HN_ := Lib.hid (HKP.out.on hb)
  clear HKP
  have HKP := HN_
  clear HN_
  have HN_ := Lib.hid (HKT.out.on hb)
  clear HKT
  have HKT := HN_
  clear HN_
  clear hb HSZ
  clear e0 e1 e2
  have e0 : w11.cell? ⟨B, 0, none⟩ = some (.string k.r) := by rw [cell_of_row _ _ _ _ _ _ HC.out]; rfl
  have e1 : w11.cell? ⟨B, 1, none⟩ = some (.int .u64 (k.n : Int)) := by rw [cell_of_row _ _ _ _ _ _ HC.out]; rfl
  have e2 : w11.cell? ⟨B, 2, none⟩ = some (.string k.k) := by rw [cell_of_row _ _ _ _ _ _ HC.out]; rfl
  go_wp2_with fail
  refine (HAK.out c1 _ HKL.out).mono ?_
  rintro e w12 ⟨rfl, hb⟩
  have HC2 := Lib.hid ((hb.block B (Array.getElem?_eq_some_iff.1 HC.out).1).trans HC.out); have HB2 := Lib.hid (HB.out.trans (hb.mono (by have := HB.out.size; omega)))
  clear HC HB
  have HC := HC2; have HB := HB2
  clear HC2 HB2
  have HN_ := Lib.hid (HKL.out.on hb)
  clear HKL
  have HKL := HN_
  clear HN_
  have HN_ := Lib.hid (HKM.out.on hb)
  clear HKM
  have HKM := HN_
  clear HN_
  have HN_ := Lib.hid (HKP.out.on hb)
  clear HKP
  have HKP := HN_
  clear HN_
  have HN_ := Lib.hid (HKT.out.on hb)
  clear HKT
  have HKT := HN_
  clear HN_
  clear hb HAK
  clear e0 e1 e2
  go_wp2_with fail
  go_ret
  exact ⟨by first | rfl | simp, by rw [eB]; exact HB.out⟩
set_option maxHeartbeats 16000000 in
theorem skippedTables_none_ok (a b : Option Addr) (ca cb : Nat) (l0 m0 : List Kk) (k : Kk) (r : ByteArray) (n : Nat) (hl0 : l0.length ≤ maxLen) (hm0 : m0.length ≤ maxLen) (hla : l0.length ≤ ca) (hmb : m0.length ≤ cb) (l m : List Kk) (hl : l0.take 22 = l) (hm : m0.take 22 = m) (hr : rightK l) (hat : atK l r n = none) (hk : sizedK k) (hold : atK l k.r k.n = none) (w : World) (hp : KSl w a l0) (hq : KSl w b m0) :
    Calls Try.prog 3 #[.slice a l0.length ca, .slice b m0.length cb, kkv k, .string r, .int .u64 (n : Int)] w fun e w' => e = .returned (.bool true) ∧ Below w.heap.size w w' := by
  have hll : l.length ≤ 22 := by rw [← hl, List.length_take]; omega
  have hml : m.length ≤ 22 := by rw [← hm, List.length_take]; omega
  have hf1 := few12_any a ca l0 hl0 hla
  have hf2 := few12_any b cb m0 hm0 hmb
  have hp1 := hp.take 22
  have hq1 := hq.take 22
  rw [hl] at hf1 hp1
  rw [hm] at hf2 hq1
  have hput := fun (c : Nat) (hc : l.length ≤ c) (W : World) => Put_any a c l k (by omega) hc W
  have htk := fun (c : Nat) (hc : l.length ≤ c) (W : World) => Take_any a c l r n (by omega) hc W
  have hpl := putT_length (l := l) k
  have htl := takeT_length (l := l) r n
  obtain ⟨htE, htS, htT⟩ := take_none hr hat
  obtain ⟨hpE, hpT⟩ := put_good hr hk hold
  rw [hpT] at hpl
  rw [htT] at htl
  rw [hpE, hpT] at hput
  rw [htE, htS, htT] at htk
  have hR := fun (c : Nat) (hc : l.length ≤ c) (W : World) => Right_any a c l (by omega) hc W
  have hRR := fun (c : Nat) (hc : l.length ≤ c) (W : World) => rightR_any a c l (by omega) hc W
  rw [decide_eq_true hr] at hR hRR
  have hLK := fun (c c' : Nat) (W : World) => Like_any a b c c' l m (by omega) W
  have hSM := fun (c c' : Nat) (W : World) => sameR_any a b c c' l m (by omega) W
  obtain ⟨Z, eZ⟩ : ∃ Z, decide (l = m) = Z := ⟨_, rfl⟩
  simp only [eZ] at hLK hSM
  have hLL := fun (c c' : Nat) (W : World) => Like_any a a c c' l l (by omega) W
  rw [decide_eq_true rfl] at hLL
  have HR := Lib.hid hR; have HRR := Lib.hid hRR; have HLK := Lib.hid hLK; have HSM := Lib.hid hSM; have HLL := Lib.hid hLL; have HPUT := Lib.hid hput; have HTK := Lib.hid htk; have HF1 := Lib.hid hf1; have HF2 := Lib.hid hf2; have HKL := Lib.hid hp1; have HKM := Lib.hid hq1
  clear hR hRR hLK hSM hLL hput htk hf1 hf2 hp1 hq1 hp hq hl hm hl0 hm0 hla hmb eZ
  have hAT := fun (c : Nat) (W : World) => atR_any a c l r n (by omega) W
  have hSZ := fun (W : World) => sizedR_any k W
  rw [show atI l r n = -1 by unfold atI; rw [hat]] at hAT
  rw [decide_eq_true hk] at hSZ
  have hAK := fun (c : Nat) (W : World) => atR_any a c l k.r k.n (by omega) W
  rw [show atI l k.r k.n = -1 by unfold atI; rw [hold]] at hAK
  have hRP := fun (c : Nat) (W : World) => putR_any a c l k (by omega) W
  have hSP := fun (x y : Option Addr) (c c' : Nat) (W : World) => sameR_any x y c c' (putK l k) (putK l k) (by have := hpl; omega) W
  rw [decide_eq_true rfl] at hSP
  unfold kkv at hSZ
  unfold kkv at hRP
  have HAT := Lib.hid hAT; have HSZ := Lib.hid hSZ; have HAK := Lib.hid hAK; have HRP := Lib.hid hRP; have HSP := Lib.hid hSP
  clear hAT hSZ hr hat hk hpE hpT htE htS htT hpl htl hll hml hAK hold hRP hSP
  unfold kkv at HPUT ⊢
  go_enter Try.func3, Try.ntmps3
  go_upto_region 1 with fail
  have hal : Below w.heap.size w (w.alloc (.cells #[.string k.r, .int .u64 (k.n : Int), .string k.k] 25)) := by go_grown
  have hC : (w.alloc (.cells #[.string k.r, .int .u64 (k.n : Int), .string k.k] 25)).heap[w.heap.size]? = some (.cells #[.string k.r, .int .u64 (k.n : Int), .string k.k] 25) := heap_alloc_new _ _
  have HKL2 := Lib.hid (HKL.out.on hal); have HKM2 := Lib.hid (HKM.out.on hal)
  clear HKL HKM
  have HKL := HKL2; have HKM := HKM2
  clear HKL2 HKM2
  obtain ⟨B, eB⟩ : ∃ B, w.heap.size = B := ⟨_, rfl⟩
  rw [eB] at hal hC ⊢
  obtain ⟨W0, eW0⟩ : ∃ W0, w.alloc (.cells #[.string k.r, .int .u64 (k.n : Int), .string k.k] 25) = W0 := ⟨_, rfl⟩
  rw [eW0] at hal hC HKL HKM ⊢
  have HC := Lib.hid hC; have HB := Lib.hid hal
  clear hC hal eW0
  go_wp2_with fail
  refine (HF1.out _).mono ?_
  rintro e w1 ⟨c1, rfl, hc1, rfl⟩
  go_wp2_with fail
  refine (HF2.out _).mono ?_
  rintro e w1 ⟨c2, rfl, hc2, rfl⟩
  have HC12 := Lib.hid (And.intro hc1 hc2)
  clear HF1 HF2 hc1 hc2
  have e0 : W0.cell? ⟨B, 0, none⟩ = some (.string k.r) := by rw [cell_of_row _ _ _ _ _ _ HC.out]; rfl
  have e1 : W0.cell? ⟨B, 1, none⟩ = some (.int .u64 (k.n : Int)) := by rw [cell_of_row _ _ _ _ _ _ HC.out]; rfl
  have e2 : W0.cell? ⟨B, 2, none⟩ = some (.string k.k) := by rw [cell_of_row _ _ _ _ _ _ HC.out]; rfl
  go_wp2_with fail
  refine (HPUT.out c1 HC12.out.1 _ HKL.out).mono ?_
  rintro e w1 ⟨a3, c3, rfl, hc3, hk, hb⟩
  have HC2 := Lib.hid ((hb.block B (Array.getElem?_eq_some_iff.1 HC.out).1).trans HC.out); have HB2 := Lib.hid (HB.out.trans (hb.mono (by have := HB.out.size; omega)))
  clear HC HB
  have HC := HC2; have HB := HB2
  clear HC2 HB2
  have HN_ := Lib.hid (HKL.out.on hb)
  clear HKL
  have HKL := HN_
  clear HN_
  have HN_ := Lib.hid (HKM.out.on hb)
  clear HKM
  have HKM := HN_
  clear HN_
  have HKP := Lib.hid hk
  clear hb hk HPUT
  clear e0 e1 e2
  go_wp2_with fail
  refine (HTK.out c1 HC12.out.1 _ HKL.out).mono ?_
  rintro e w2 ⟨a4, c4, rfl, hc4, hk, hb⟩
  have HC2 := Lib.hid ((hb.block B (Array.getElem?_eq_some_iff.1 HC.out).1).trans HC.out); have HB2 := Lib.hid (HB.out.trans (hb.mono (by have := HB.out.size; omega)))
  clear HC HB
  have HC := HC2; have HB := HB2
  clear HC2 HB2
  have HN_ := Lib.hid (HKL.out.on hb)
  clear HKL
  have HKL := HN_
  clear HN_
  have HN_ := Lib.hid (HKM.out.on hb)
  clear HKM
  have HKM := HN_
  clear HN_
  have HN_ := Lib.hid (HKP.out.on hb)
  clear HKP
  have HKP := HN_
  clear HN_
  have HKT := Lib.hid hk
  clear hb hk HTK
  go_wp2_with fail
  refine (HR.out c1 HC12.out.1 _ HKL.out).mono ?_
  rintro e w3 ⟨rfl, hb⟩
  have HC2 := Lib.hid ((hb.block B (Array.getElem?_eq_some_iff.1 HC.out).1).trans HC.out); have HB2 := Lib.hid (HB.out.trans (hb.mono (by have := HB.out.size; omega)))
  clear HC HB
  have HC := HC2; have HB := HB2
  clear HC2 HB2
  have HN_ := Lib.hid (HKL.out.on hb)
  clear HKL
  have HKL := HN_
  clear HN_
  have HN_ := Lib.hid (HKM.out.on hb)
  clear HKM
  have HKM := HN_
  clear HN_
  have HN_ := Lib.hid (HKP.out.on hb)
  clear HKP
  have HKP := HN_
  clear HN_
  have HN_ := Lib.hid (HKT.out.on hb)
  clear HKT
  have HKT := HN_
  clear HN_
  clear hb HR
  go_wp2_with fail
  refine (HRR.out c1 HC12.out.1 _ HKL.out).mono ?_
  rintro e w4 ⟨rfl, hb⟩
  have HC2 := Lib.hid ((hb.block B (Array.getElem?_eq_some_iff.1 HC.out).1).trans HC.out); have HB2 := Lib.hid (HB.out.trans (hb.mono (by have := HB.out.size; omega)))
  clear HC HB
  have HC := HC2; have HB := HB2
  clear HC2 HB2
  have HN_ := Lib.hid (HKL.out.on hb)
  clear HKL
  have HKL := HN_
  clear HN_
  have HN_ := Lib.hid (HKM.out.on hb)
  clear HKM
  have HKM := HN_
  clear HN_
  have HN_ := Lib.hid (HKP.out.on hb)
  clear HKP
  have HKP := HN_
  clear HN_
  have HN_ := Lib.hid (HKT.out.on hb)
  clear HKT
  have HKT := HN_
  clear HN_
  clear hb
  go_wp2_with fail
  refine (HLK.out c1 c2 _ HKL.out HKM.out).mono ?_
  rintro e w5 ⟨rfl, hb⟩
  have HC2 := Lib.hid ((hb.block B (Array.getElem?_eq_some_iff.1 HC.out).1).trans HC.out); have HB2 := Lib.hid (HB.out.trans (hb.mono (by have := HB.out.size; omega)))
  clear HC HB
  have HC := HC2; have HB := HB2
  clear HC2 HB2
  have HN_ := Lib.hid (HKL.out.on hb)
  clear HKL
  have HKL := HN_
  clear HN_
  have HN_ := Lib.hid (HKM.out.on hb)
  clear HKM
  have HKM := HN_
  clear HN_
  have HN_ := Lib.hid (HKP.out.on hb)
  clear HKP
  have HKP := HN_
  clear HN_
  have HN_ := Lib.hid (HKT.out.on hb)
  clear HKT
  have HKT := HN_
  clear HN_
  clear hb HLK
  go_wp2_with fail
  refine (HSM.out c1 c2 _ HKL.out HKM.out).mono ?_
  rintro e w6 ⟨rfl, hb⟩
  have HC2 := Lib.hid ((hb.block B (Array.getElem?_eq_some_iff.1 HC.out).1).trans HC.out); have HB2 := Lib.hid (HB.out.trans (hb.mono (by have := HB.out.size; omega)))
  clear HC HB
  have HC := HC2; have HB := HB2
  clear HC2 HB2
  have HN_ := Lib.hid (HKL.out.on hb)
  clear HKL
  have HKL := HN_
  clear HN_
  have HN_ := Lib.hid (HKM.out.on hb)
  clear HKM
  have HKM := HN_
  clear HN_
  have HN_ := Lib.hid (HKP.out.on hb)
  clear HKP
  have HKP := HN_
  clear HN_
  have HN_ := Lib.hid (HKT.out.on hb)
  clear HKT
  have HKT := HN_
  clear HN_
  clear hb HSM
  go_wp2_with fail
  refine (HLL.out c1 c1 _ HKL.out HKL.out).mono ?_
  rintro e w7 ⟨rfl, hb⟩
  have HC2 := Lib.hid ((hb.block B (Array.getElem?_eq_some_iff.1 HC.out).1).trans HC.out); have HB2 := Lib.hid (HB.out.trans (hb.mono (by have := HB.out.size; omega)))
  clear HC HB
  have HC := HC2; have HB := HB2
  clear HC2 HB2
  have HN_ := Lib.hid (HKL.out.on hb)
  clear HKL
  have HKL := HN_
  clear HN_
  have HN_ := Lib.hid (HKM.out.on hb)
  clear HKM
  have HKM := HN_
  clear HN_
  have HN_ := Lib.hid (HKP.out.on hb)
  clear HKP
  have HKP := HN_
  clear HN_
  have HN_ := Lib.hid (HKT.out.on hb)
  clear HKT
  have HKT := HN_
  clear HN_
  clear hb HLL
  go_wp2_with fail
  refine (alive12_any _).mono ?_
  rintro e w8 ⟨rfl, hb⟩
  have HC2 := Lib.hid ((hb.block B (Array.getElem?_eq_some_iff.1 HC.out).1).trans HC.out); have HB2 := Lib.hid (HB.out.trans (hb.mono (by have := HB.out.size; omega)))
  clear HC HB
  have HC := HC2; have HB := HB2
  clear HC2 HB2
  have HN_ := Lib.hid (HKL.out.on hb)
  clear HKL
  have HKL := HN_
  clear HN_
  have HN_ := Lib.hid (HKM.out.on hb)
  clear HKM
  have HKM := HN_
  clear HN_
  have HN_ := Lib.hid (HKP.out.on hb)
  clear HKP
  have HKP := HN_
  clear HN_
  have HN_ := Lib.hid (HKT.out.on hb)
  clear HKT
  have HKT := HN_
  clear HN_
  clear hb
  go_wp2_with fail
  refine (HRR.out c1 HC12.out.1 _ HKL.out).mono ?_
  rintro e w9 ⟨rfl, hb⟩
  have HC2 := Lib.hid ((hb.block B (Array.getElem?_eq_some_iff.1 HC.out).1).trans HC.out); have HB2 := Lib.hid (HB.out.trans (hb.mono (by have := HB.out.size; omega)))
  clear HC HB
  have HC := HC2; have HB := HB2
  clear HC2 HB2
  have HN_ := Lib.hid (HKL.out.on hb)
  clear HKL
  have HKL := HN_
  clear HN_
  have HN_ := Lib.hid (HKM.out.on hb)
  clear HKM
  have HKM := HN_
  clear HN_
  have HN_ := Lib.hid (HKP.out.on hb)
  clear HKP
  have HKP := HN_
  clear HN_
  have HN_ := Lib.hid (HKT.out.on hb)
  clear HKT
  have HKT := HN_
  clear HN_
  clear hb HRR
  go_wp2_with fail
  refine (HAT.out c1 _ HKL.out).mono ?_
  rintro e w10 ⟨rfl, hb⟩
  have HC2 := Lib.hid ((hb.block B (Array.getElem?_eq_some_iff.1 HC.out).1).trans HC.out); have HB2 := Lib.hid (HB.out.trans (hb.mono (by have := HB.out.size; omega)))
  clear HC HB
  have HC := HC2; have HB := HB2
  clear HC2 HB2
  have HN_ := Lib.hid (HKL.out.on hb)
  clear HKL
  have HKL := HN_
  clear HN_
  have HN_ := Lib.hid (HKM.out.on hb)
  clear HKM
  have HKM := HN_
  clear HN_
  have HN_ := Lib.hid (HKP.out.on hb)
  clear HKP
  have HKP := HN_
  clear HN_
  have HN_ := Lib.hid (HKT.out.on hb)
  clear HKT
  have HKT := HN_
  clear HN_
  clear hb HAT
  have e0 : w10.cell? ⟨B, 0, none⟩ = some (.string k.r) := by rw [cell_of_row _ _ _ _ _ _ HC.out]; rfl
  have e1 : w10.cell? ⟨B, 1, none⟩ = some (.int .u64 (k.n : Int)) := by rw [cell_of_row _ _ _ _ _ _ HC.out]; rfl
  have e2 : w10.cell? ⟨B, 2, none⟩ = some (.string k.k) := by rw [cell_of_row _ _ _ _ _ _ HC.out]; rfl
  go_wp2_with fail
  refine (HSZ.out _).mono ?_
  rintro e w11 ⟨rfl, hb⟩
  have HC2 := Lib.hid ((hb.block B (Array.getElem?_eq_some_iff.1 HC.out).1).trans HC.out); have HB2 := Lib.hid (HB.out.trans (hb.mono (by have := HB.out.size; omega)))
  clear HC HB
  have HC := HC2; have HB := HB2
  clear HC2 HB2
  have HN_ := Lib.hid (HKL.out.on hb)
  clear HKL
  have HKL := HN_
  clear HN_
  have HN_ := Lib.hid (HKM.out.on hb)
  clear HKM
  have HKM := HN_
  clear HN_
  have HN_ := Lib.hid (HKP.out.on hb)
  clear HKP
  have HKP := HN_
  clear HN_
  have HN_ := Lib.hid (HKT.out.on hb)
  clear HKT
  have HKT := HN_
  clear HN_
  clear hb HSZ
  clear e0 e1 e2
  have e0 : w11.cell? ⟨B, 0, none⟩ = some (.string k.r) := by rw [cell_of_row _ _ _ _ _ _ HC.out]; rfl
  have e1 : w11.cell? ⟨B, 1, none⟩ = some (.int .u64 (k.n : Int)) := by rw [cell_of_row _ _ _ _ _ _ HC.out]; rfl
  have e2 : w11.cell? ⟨B, 2, none⟩ = some (.string k.k) := by rw [cell_of_row _ _ _ _ _ _ HC.out]; rfl
  go_wp2_with fail
  refine (HAK.out c1 _ HKL.out).mono ?_
  rintro e w12 ⟨rfl, hb⟩
  have HC2 := Lib.hid ((hb.block B (Array.getElem?_eq_some_iff.1 HC.out).1).trans HC.out); have HB2 := Lib.hid (HB.out.trans (hb.mono (by have := HB.out.size; omega)))
  clear HC HB
  have HC := HC2; have HB := HB2
  clear HC2 HB2
  have HN_ := Lib.hid (HKL.out.on hb)
  clear HKL
  have HKL := HN_
  clear HN_
  have HN_ := Lib.hid (HKM.out.on hb)
  clear HKM
  have HKM := HN_
  clear HN_
  have HN_ := Lib.hid (HKP.out.on hb)
  clear HKP
  have HKP := HN_
  clear HN_
  have HN_ := Lib.hid (HKT.out.on hb)
  clear HKT
  have HKT := HN_
  clear HN_
  clear hb HAK
  clear e0 e1 e2
  have e0 : w12.cell? ⟨B, 0, none⟩ = some (.string k.r) := by rw [cell_of_row _ _ _ _ _ _ HC.out]; rfl
  have e1 : w12.cell? ⟨B, 1, none⟩ = some (.int .u64 (k.n : Int)) := by rw [cell_of_row _ _ _ _ _ _ HC.out]; rfl
  have e2 : w12.cell? ⟨B, 2, none⟩ = some (.string k.k) := by rw [cell_of_row _ _ _ _ _ _ HC.out]; rfl
  go_wp2_with fail
  refine (HRP.out c1 _ HKL.out).mono ?_
  rintro e w13 ⟨v6, rfl, hO, hb⟩
  have HC2 := Lib.hid ((hb.block B (Array.getElem?_eq_some_iff.1 HC.out).1).trans HC.out); have HB2 := Lib.hid (HB.out.trans (hb.mono (by have := HB.out.size; omega)))
  clear HC HB
  have HC := HC2; have HB := HB2
  clear HC2 HB2
  have HN_ := Lib.hid (HKL.out.on hb)
  clear HKL
  have HKL := HN_
  clear HN_
  have HN_ := Lib.hid (HKM.out.on hb)
  clear HKM
  have HKM := HN_
  clear HN_
  have HN_ := Lib.hid (HKP.out.on hb)
  clear HKP
  have HKP := HN_
  clear HN_
  have HN_ := Lib.hid (HKT.out.on hb)
  clear HKT
  have HKT := HN_
  clear HN_
  clear hb HRP
  clear e0 e1 e2
  obtain ⟨a6, c6, rfl, -, hk⟩ := hO.ksl
  have HKQ := Lib.hid hk
  clear hO hk
  go_wp2_with fail
  refine (HSP.out _ _ _ _ _ HKP.out HKQ.out).mono ?_
  rintro e w14 ⟨rfl, hb⟩
  have HC2 := Lib.hid ((hb.block B (Array.getElem?_eq_some_iff.1 HC.out).1).trans HC.out); have HB2 := Lib.hid (HB.out.trans (hb.mono (by have := HB.out.size; omega)))
  clear HC HB
  have HC := HC2; have HB := HB2
  clear HC2 HB2
  have HN_ := Lib.hid (HKL.out.on hb)
  clear HKL
  have HKL := HN_
  clear HN_
  have HN_ := Lib.hid (HKM.out.on hb)
  clear HKM
  have HKM := HN_
  clear HN_
  have HN_ := Lib.hid (HKP.out.on hb)
  clear HKP
  have HKP := HN_
  clear HN_
  have HN_ := Lib.hid (HKT.out.on hb)
  clear HKT
  have HKT := HN_
  clear HN_
  have HN_ := Lib.hid (HKQ.out.on hb)
  clear HKQ
  have HKQ := HN_
  clear HN_
  clear hb HSP
  go_wp2_with fail
  go_ret
  exact ⟨by first | rfl | simp, by rw [eB]; exact HB.out⟩
set_option maxHeartbeats 16000000 in
theorem skippedTables_some_uns (a b : Option Addr) (ca cb : Nat) (l0 m0 : List Kk) (k : Kk) (r : ByteArray) (n : Nat) (hl0 : l0.length ≤ maxLen) (hm0 : m0.length ≤ maxLen) (hla : l0.length ≤ ca) (hmb : m0.length ≤ cb) (l m : List Kk) (hl : l0.take 22 = l) (hm : m0.take 22 = m) (hr : rightK l) (i : Nat) (hat : atK l r n = some i) (hk : ¬ sizedK k) (w : World) (hp : KSl w a l0) (hq : KSl w b m0) :
    Calls Try.prog 3 #[.slice a l0.length ca, .slice b m0.length cb, kkv k, .string r, .int .u64 (n : Int)] w fun e w' => e = .returned (.bool true) ∧ Below w.heap.size w w' := by
  have hll : l.length ≤ 22 := by rw [← hl, List.length_take]; omega
  have hml : m.length ≤ 22 := by rw [← hm, List.length_take]; omega
  have hf1 := few12_any a ca l0 hl0 hla
  have hf2 := few12_any b cb m0 hm0 hmb
  have hp1 := hp.take 22
  have hq1 := hq.take 22
  rw [hl] at hf1 hp1
  rw [hm] at hf2 hq1
  have hput := fun (c : Nat) (hc : l.length ≤ c) (W : World) => Put_any a c l k (by omega) hc W
  have htk := fun (c : Nat) (hc : l.length ≤ c) (W : World) => Take_any a c l r n (by omega) hc W
  have hpl := putT_length (l := l) k
  have htl := takeT_length (l := l) r n
  obtain ⟨htE, htS, htT⟩ := take_good hr hat
  obtain ⟨hpE, hpT⟩ := put_unsized hr hk
  rw [hpT] at hpl
  rw [htT] at htl
  rw [hpE, hpT] at hput
  rw [htE, htS, htT] at htk
  have hR := fun (c : Nat) (hc : l.length ≤ c) (W : World) => Right_any a c l (by omega) hc W
  have hRR := fun (c : Nat) (hc : l.length ≤ c) (W : World) => rightR_any a c l (by omega) hc W
  rw [decide_eq_true hr] at hR hRR
  have hLK := fun (c c' : Nat) (W : World) => Like_any a b c c' l m (by omega) W
  have hSM := fun (c c' : Nat) (W : World) => sameR_any a b c c' l m (by omega) W
  obtain ⟨Z, eZ⟩ : ∃ Z, decide (l = m) = Z := ⟨_, rfl⟩
  simp only [eZ] at hLK hSM
  have hLL := fun (c c' : Nat) (W : World) => Like_any a a c c' l l (by omega) W
  rw [decide_eq_true rfl] at hLL
  have HR := Lib.hid hR; have HRR := Lib.hid hRR; have HLK := Lib.hid hLK; have HSM := Lib.hid hSM; have HLL := Lib.hid hLL; have HPUT := Lib.hid hput; have HTK := Lib.hid htk; have HF1 := Lib.hid hf1; have HF2 := Lib.hid hf2; have HKL := Lib.hid hp1; have HKM := Lib.hid hq1
  clear hR hRR hLK hSM hLL hput htk hf1 hf2 hp1 hq1 hp hq hl hm hl0 hm0 hla hmb eZ
  have hAT := fun (c : Nat) (W : World) => atR_any a c l r n (by omega) W
  have hSZ := fun (W : World) => sizedR_any k W
  rw [show atI l r n = (i : Int) by unfold atI; rw [hat]] at hAT
  have hi0 : (0 : Int) ≤ (i : Int) := by omega
  have hil := (atK_some hat).1
  have hil2 : (i : Int) < (l.length : Int) := by omega
  have hWO := fun (c : Nat) (W : World) => withoutR_any a c l i (by omega) W
  have hSW := fun (x y : Option Addr) (c c' : Nat) (W : World) => sameR_any x y c c' (withoutK l i) (withoutK l i) (by have := htl; omega) W
  rw [decide_eq_true rfl] at hSW
  obtain ⟨q, eq⟩ : ∃ q, l.getD i k00 = q := ⟨_, rfl⟩
  rw [eq] at HTK
  have HIL := Lib.hid (And.intro hil eq)
  rw [decide_eq_false hk] at hSZ
  unfold kkv at hSZ
  have HAT := Lib.hid hAT; have HSZ := Lib.hid hSZ; have HWO := Lib.hid hWO; have HSW := Lib.hid hSW
  clear hAT hSZ hr hat hk hpE hpT htE htS htT hpl htl hll hml hWO hSW hil eq
  unfold kkv at HPUT ⊢
  go_enter Try.func3, Try.ntmps3
  go_upto_region 1 with fail
  have hal : Below w.heap.size w (w.alloc (.cells #[.string k.r, .int .u64 (k.n : Int), .string k.k] 25)) := by go_grown
  have hC : (w.alloc (.cells #[.string k.r, .int .u64 (k.n : Int), .string k.k] 25)).heap[w.heap.size]? = some (.cells #[.string k.r, .int .u64 (k.n : Int), .string k.k] 25) := heap_alloc_new _ _
  have HKL2 := Lib.hid (HKL.out.on hal); have HKM2 := Lib.hid (HKM.out.on hal)
  clear HKL HKM
  have HKL := HKL2; have HKM := HKM2
  clear HKL2 HKM2
  obtain ⟨B, eB⟩ : ∃ B, w.heap.size = B := ⟨_, rfl⟩
  rw [eB] at hal hC ⊢
  obtain ⟨W0, eW0⟩ : ∃ W0, w.alloc (.cells #[.string k.r, .int .u64 (k.n : Int), .string k.k] 25) = W0 := ⟨_, rfl⟩
  rw [eW0] at hal hC HKL HKM ⊢
  have HC := Lib.hid hC; have HB := Lib.hid hal
  clear hC hal eW0
  go_wp2_with fail
  refine (HF1.out _).mono ?_
  rintro e w1 ⟨c1, rfl, hc1, rfl⟩
  go_wp2_with fail
  refine (HF2.out _).mono ?_
  rintro e w1 ⟨c2, rfl, hc2, rfl⟩
  have HC12 := Lib.hid (And.intro hc1 hc2)
  clear HF1 HF2 hc1 hc2
  have e0 : W0.cell? ⟨B, 0, none⟩ = some (.string k.r) := by rw [cell_of_row _ _ _ _ _ _ HC.out]; rfl
  have e1 : W0.cell? ⟨B, 1, none⟩ = some (.int .u64 (k.n : Int)) := by rw [cell_of_row _ _ _ _ _ _ HC.out]; rfl
  have e2 : W0.cell? ⟨B, 2, none⟩ = some (.string k.k) := by rw [cell_of_row _ _ _ _ _ _ HC.out]; rfl
  go_wp2_with fail
  refine (HPUT.out c1 HC12.out.1 _ HKL.out).mono ?_
  rintro e w1 ⟨a3, c3, rfl, hc3, hk, hb⟩
  have HC2 := Lib.hid ((hb.block B (Array.getElem?_eq_some_iff.1 HC.out).1).trans HC.out); have HB2 := Lib.hid (HB.out.trans (hb.mono (by have := HB.out.size; omega)))
  clear HC HB
  have HC := HC2; have HB := HB2
  clear HC2 HB2
  have HN_ := Lib.hid (HKL.out.on hb)
  clear HKL
  have HKL := HN_
  clear HN_
  have HN_ := Lib.hid (HKM.out.on hb)
  clear HKM
  have HKM := HN_
  clear HN_
  have HKP := Lib.hid hk
  clear hb hk HPUT
  clear e0 e1 e2
  go_wp2_with fail
  refine (HTK.out c1 HC12.out.1 _ HKL.out).mono ?_
  rintro e w2 ⟨a4, c4, rfl, hc4, hk, hb⟩
  have HC2 := Lib.hid ((hb.block B (Array.getElem?_eq_some_iff.1 HC.out).1).trans HC.out); have HB2 := Lib.hid (HB.out.trans (hb.mono (by have := HB.out.size; omega)))
  clear HC HB
  have HC := HC2; have HB := HB2
  clear HC2 HB2
  have HN_ := Lib.hid (HKL.out.on hb)
  clear HKL
  have HKL := HN_
  clear HN_
  have HN_ := Lib.hid (HKM.out.on hb)
  clear HKM
  have HKM := HN_
  clear HN_
  have HN_ := Lib.hid (HKP.out.on hb)
  clear HKP
  have HKP := HN_
  clear HN_
  have HKT := Lib.hid hk
  clear hb hk HTK
  go_wp2_with fail
  refine (HR.out c1 HC12.out.1 _ HKL.out).mono ?_
  rintro e w3 ⟨rfl, hb⟩
  have HC2 := Lib.hid ((hb.block B (Array.getElem?_eq_some_iff.1 HC.out).1).trans HC.out); have HB2 := Lib.hid (HB.out.trans (hb.mono (by have := HB.out.size; omega)))
  clear HC HB
  have HC := HC2; have HB := HB2
  clear HC2 HB2
  have HN_ := Lib.hid (HKL.out.on hb)
  clear HKL
  have HKL := HN_
  clear HN_
  have HN_ := Lib.hid (HKM.out.on hb)
  clear HKM
  have HKM := HN_
  clear HN_
  have HN_ := Lib.hid (HKP.out.on hb)
  clear HKP
  have HKP := HN_
  clear HN_
  have HN_ := Lib.hid (HKT.out.on hb)
  clear HKT
  have HKT := HN_
  clear HN_
  clear hb HR
  go_wp2_with fail
  refine (HRR.out c1 HC12.out.1 _ HKL.out).mono ?_
  rintro e w4 ⟨rfl, hb⟩
  have HC2 := Lib.hid ((hb.block B (Array.getElem?_eq_some_iff.1 HC.out).1).trans HC.out); have HB2 := Lib.hid (HB.out.trans (hb.mono (by have := HB.out.size; omega)))
  clear HC HB
  have HC := HC2; have HB := HB2
  clear HC2 HB2
  have HN_ := Lib.hid (HKL.out.on hb)
  clear HKL
  have HKL := HN_
  clear HN_
  have HN_ := Lib.hid (HKM.out.on hb)
  clear HKM
  have HKM := HN_
  clear HN_
  have HN_ := Lib.hid (HKP.out.on hb)
  clear HKP
  have HKP := HN_
  clear HN_
  have HN_ := Lib.hid (HKT.out.on hb)
  clear HKT
  have HKT := HN_
  clear HN_
  clear hb
  go_wp2_with fail
  refine (HLK.out c1 c2 _ HKL.out HKM.out).mono ?_
  rintro e w5 ⟨rfl, hb⟩
  have HC2 := Lib.hid ((hb.block B (Array.getElem?_eq_some_iff.1 HC.out).1).trans HC.out); have HB2 := Lib.hid (HB.out.trans (hb.mono (by have := HB.out.size; omega)))
  clear HC HB
  have HC := HC2; have HB := HB2
  clear HC2 HB2
  have HN_ := Lib.hid (HKL.out.on hb)
  clear HKL
  have HKL := HN_
  clear HN_
  have HN_ := Lib.hid (HKM.out.on hb)
  clear HKM
  have HKM := HN_
  clear HN_
  have HN_ := Lib.hid (HKP.out.on hb)
  clear HKP
  have HKP := HN_
  clear HN_
  have HN_ := Lib.hid (HKT.out.on hb)
  clear HKT
  have HKT := HN_
  clear HN_
  clear hb HLK
  go_wp2_with fail
  refine (HSM.out c1 c2 _ HKL.out HKM.out).mono ?_
  rintro e w6 ⟨rfl, hb⟩
  have HC2 := Lib.hid ((hb.block B (Array.getElem?_eq_some_iff.1 HC.out).1).trans HC.out); have HB2 := Lib.hid (HB.out.trans (hb.mono (by have := HB.out.size; omega)))
  clear HC HB
  have HC := HC2; have HB := HB2
  clear HC2 HB2
  have HN_ := Lib.hid (HKL.out.on hb)
  clear HKL
  have HKL := HN_
  clear HN_
  have HN_ := Lib.hid (HKM.out.on hb)
  clear HKM
  have HKM := HN_
  clear HN_
  have HN_ := Lib.hid (HKP.out.on hb)
  clear HKP
  have HKP := HN_
  clear HN_
  have HN_ := Lib.hid (HKT.out.on hb)
  clear HKT
  have HKT := HN_
  clear HN_
  clear hb HSM
  go_wp2_with fail
  refine (HLL.out c1 c1 _ HKL.out HKL.out).mono ?_
  rintro e w7 ⟨rfl, hb⟩
  have HC2 := Lib.hid ((hb.block B (Array.getElem?_eq_some_iff.1 HC.out).1).trans HC.out); have HB2 := Lib.hid (HB.out.trans (hb.mono (by have := HB.out.size; omega)))
  clear HC HB
  have HC := HC2; have HB := HB2
  clear HC2 HB2
  have HN_ := Lib.hid (HKL.out.on hb)
  clear HKL
  have HKL := HN_
  clear HN_
  have HN_ := Lib.hid (HKM.out.on hb)
  clear HKM
  have HKM := HN_
  clear HN_
  have HN_ := Lib.hid (HKP.out.on hb)
  clear HKP
  have HKP := HN_
  clear HN_
  have HN_ := Lib.hid (HKT.out.on hb)
  clear HKT
  have HKT := HN_
  clear HN_
  clear hb HLL
  go_wp2_with fail
  refine (alive12_any _).mono ?_
  rintro e w8 ⟨rfl, hb⟩
  have HC2 := Lib.hid ((hb.block B (Array.getElem?_eq_some_iff.1 HC.out).1).trans HC.out); have HB2 := Lib.hid (HB.out.trans (hb.mono (by have := HB.out.size; omega)))
  clear HC HB
  have HC := HC2; have HB := HB2
  clear HC2 HB2
  have HN_ := Lib.hid (HKL.out.on hb)
  clear HKL
  have HKL := HN_
  clear HN_
  have HN_ := Lib.hid (HKM.out.on hb)
  clear HKM
  have HKM := HN_
  clear HN_
  have HN_ := Lib.hid (HKP.out.on hb)
  clear HKP
  have HKP := HN_
  clear HN_
  have HN_ := Lib.hid (HKT.out.on hb)
  clear HKT
  have HKT := HN_
  clear HN_
  clear hb
  go_wp2_with fail
  refine (HRR.out c1 HC12.out.1 _ HKL.out).mono ?_
  rintro e w9 ⟨rfl, hb⟩
  have HC2 := Lib.hid ((hb.block B (Array.getElem?_eq_some_iff.1 HC.out).1).trans HC.out); have HB2 := Lib.hid (HB.out.trans (hb.mono (by have := HB.out.size; omega)))
  clear HC HB
  have HC := HC2; have HB := HB2
  clear HC2 HB2
  have HN_ := Lib.hid (HKL.out.on hb)
  clear HKL
  have HKL := HN_
  clear HN_
  have HN_ := Lib.hid (HKM.out.on hb)
  clear HKM
  have HKM := HN_
  clear HN_
  have HN_ := Lib.hid (HKP.out.on hb)
  clear HKP
  have HKP := HN_
  clear HN_
  have HN_ := Lib.hid (HKT.out.on hb)
  clear HKT
  have HKT := HN_
  clear HN_
  clear hb HRR
  go_wp2_with fail
  refine (HAT.out c1 _ HKL.out).mono ?_
  rintro e w10 ⟨rfl, hb⟩
  have HC2 := Lib.hid ((hb.block B (Array.getElem?_eq_some_iff.1 HC.out).1).trans HC.out); have HB2 := Lib.hid (HB.out.trans (hb.mono (by have := HB.out.size; omega)))
  clear HC HB
  have HC := HC2; have HB := HB2
  clear HC2 HB2
  have HN_ := Lib.hid (HKL.out.on hb)
  clear HKL
  have HKL := HN_
  clear HN_
  have HN_ := Lib.hid (HKM.out.on hb)
  clear HKM
  have HKM := HN_
  clear HN_
  have HN_ := Lib.hid (HKP.out.on hb)
  clear HKP
  have HKP := HN_
  clear HN_
  have HN_ := Lib.hid (HKT.out.on hb)
  clear HKT
  have HKT := HN_
  clear HN_
  clear hb HAT
  obtain ⟨g, off, rfl, hgl, hgc⟩ := HKL.out (by have := HIL.out.1; omega)
  have hpt := hgc i HIL.out.1
  rw [HIL.out.2] at hpt
  have f2 := hpt.c2
  clear hgc hpt hgl
  go_wp2_with fail
  refine (HWO.out c1 _ HKL.out).mono ?_
  rintro e w11 ⟨v5, rfl, hO, hb⟩
  have HC2 := Lib.hid ((hb.block B (Array.getElem?_eq_some_iff.1 HC.out).1).trans HC.out); have HB2 := Lib.hid (HB.out.trans (hb.mono (by have := HB.out.size; omega)))
  clear HC HB
  have HC := HC2; have HB := HB2
  clear HC2 HB2
  have HN_ := Lib.hid (HKL.out.on hb)
  clear HKL
  have HKL := HN_
  clear HN_
  have HN_ := Lib.hid (HKM.out.on hb)
  clear HKM
  have HKM := HN_
  clear HN_
  have HN_ := Lib.hid (HKP.out.on hb)
  clear HKP
  have HKP := HN_
  clear HN_
  have HN_ := Lib.hid (HKT.out.on hb)
  clear HKT
  have HKT := HN_
  clear HN_
  clear hb HWO f2
  obtain ⟨a5, c5, rfl, -, hk⟩ := hO.ksl
  have HKW := Lib.hid hk
  clear hO hk
  go_wp2_with fail
  refine (HSW.out _ _ _ _ _ HKT.out HKW.out).mono ?_
  rintro e w12 ⟨rfl, hb⟩
  have HC2 := Lib.hid ((hb.block B (Array.getElem?_eq_some_iff.1 HC.out).1).trans HC.out); have HB2 := Lib.hid (HB.out.trans (hb.mono (by have := HB.out.size; omega)))
  clear HC HB
  have HC := HC2; have HB := HB2
  clear HC2 HB2
  have HN_ := Lib.hid (HKL.out.on hb)
  clear HKL
  have HKL := HN_
  clear HN_
  have HN_ := Lib.hid (HKM.out.on hb)
  clear HKM
  have HKM := HN_
  clear HN_
  have HN_ := Lib.hid (HKP.out.on hb)
  clear HKP
  have HKP := HN_
  clear HN_
  have HN_ := Lib.hid (HKT.out.on hb)
  clear HKT
  have HKT := HN_
  clear HN_
  have HN_ := Lib.hid (HKW.out.on hb)
  clear HKW
  have HKW := HN_
  clear HN_
  clear hb HSW
  have e0 : w12.cell? ⟨B, 0, none⟩ = some (.string k.r) := by rw [cell_of_row _ _ _ _ _ _ HC.out]; rfl
  have e1 : w12.cell? ⟨B, 1, none⟩ = some (.int .u64 (k.n : Int)) := by rw [cell_of_row _ _ _ _ _ _ HC.out]; rfl
  have e2 : w12.cell? ⟨B, 2, none⟩ = some (.string k.k) := by rw [cell_of_row _ _ _ _ _ _ HC.out]; rfl
  go_wp2_with fail
  refine (HSZ.out _).mono ?_
  rintro e w13 ⟨rfl, hb⟩
  have HC2 := Lib.hid ((hb.block B (Array.getElem?_eq_some_iff.1 HC.out).1).trans HC.out); have HB2 := Lib.hid (HB.out.trans (hb.mono (by have := HB.out.size; omega)))
  clear HC HB
  have HC := HC2; have HB := HB2
  clear HC2 HB2
  have HN_ := Lib.hid (HKL.out.on hb)
  clear HKL
  have HKL := HN_
  clear HN_
  have HN_ := Lib.hid (HKM.out.on hb)
  clear HKM
  have HKM := HN_
  clear HN_
  have HN_ := Lib.hid (HKP.out.on hb)
  clear HKP
  have HKP := HN_
  clear HN_
  have HN_ := Lib.hid (HKT.out.on hb)
  clear HKT
  have HKT := HN_
  clear HN_
  have HN_ := Lib.hid (HKW.out.on hb)
  clear HKW
  have HKW := HN_
  clear HN_
  clear hb HSZ
  clear e0 e1 e2
  go_wp2_with fail
  go_ret
  exact ⟨by first | rfl | simp, by rw [eB]; exact HB.out⟩
set_option maxHeartbeats 16000000 in
theorem skippedTables_some_old (a b : Option Addr) (ca cb : Nat) (l0 m0 : List Kk) (k : Kk) (r : ByteArray) (n : Nat) (hl0 : l0.length ≤ maxLen) (hm0 : m0.length ≤ maxLen) (hla : l0.length ≤ ca) (hmb : m0.length ≤ cb) (l m : List Kk) (hl : l0.take 22 = l) (hm : m0.take 22 = m) (hr : rightK l) (i : Nat) (hat : atK l r n = some i) (hk : sizedK k) (hold : ¬ atK l k.r k.n = none) (w : World) (hp : KSl w a l0) (hq : KSl w b m0) :
    Calls Try.prog 3 #[.slice a l0.length ca, .slice b m0.length cb, kkv k, .string r, .int .u64 (n : Int)] w fun e w' => e = .returned (.bool true) ∧ Below w.heap.size w w' := by
  have hll : l.length ≤ 22 := by rw [← hl, List.length_take]; omega
  have hml : m.length ≤ 22 := by rw [← hm, List.length_take]; omega
  have hf1 := few12_any a ca l0 hl0 hla
  have hf2 := few12_any b cb m0 hm0 hmb
  have hp1 := hp.take 22
  have hq1 := hq.take 22
  rw [hl] at hf1 hp1
  rw [hm] at hf2 hq1
  have hput := fun (c : Nat) (hc : l.length ≤ c) (W : World) => Put_any a c l k (by omega) hc W
  have htk := fun (c : Nat) (hc : l.length ≤ c) (W : World) => Take_any a c l r n (by omega) hc W
  have hpl := putT_length (l := l) k
  have htl := takeT_length (l := l) r n
  obtain ⟨htE, htS, htT⟩ := take_good hr hat
  obtain ⟨hpE, hpT⟩ := put_old hr hk hold
  rw [hpT] at hpl
  rw [htT] at htl
  rw [hpE, hpT] at hput
  rw [htE, htS, htT] at htk
  have hR := fun (c : Nat) (hc : l.length ≤ c) (W : World) => Right_any a c l (by omega) hc W
  have hRR := fun (c : Nat) (hc : l.length ≤ c) (W : World) => rightR_any a c l (by omega) hc W
  rw [decide_eq_true hr] at hR hRR
  have hLK := fun (c c' : Nat) (W : World) => Like_any a b c c' l m (by omega) W
  have hSM := fun (c c' : Nat) (W : World) => sameR_any a b c c' l m (by omega) W
  obtain ⟨Z, eZ⟩ : ∃ Z, decide (l = m) = Z := ⟨_, rfl⟩
  simp only [eZ] at hLK hSM
  have hLL := fun (c c' : Nat) (W : World) => Like_any a a c c' l l (by omega) W
  rw [decide_eq_true rfl] at hLL
  have HR := Lib.hid hR; have HRR := Lib.hid hRR; have HLK := Lib.hid hLK; have HSM := Lib.hid hSM; have HLL := Lib.hid hLL; have HPUT := Lib.hid hput; have HTK := Lib.hid htk; have HF1 := Lib.hid hf1; have HF2 := Lib.hid hf2; have HKL := Lib.hid hp1; have HKM := Lib.hid hq1
  clear hR hRR hLK hSM hLL hput htk hf1 hf2 hp1 hq1 hp hq hl hm hl0 hm0 hla hmb eZ
  have hAT := fun (c : Nat) (W : World) => atR_any a c l r n (by omega) W
  have hSZ := fun (W : World) => sizedR_any k W
  rw [show atI l r n = (i : Int) by unfold atI; rw [hat]] at hAT
  have hi0 : (0 : Int) ≤ (i : Int) := by omega
  have hil := (atK_some hat).1
  have hil2 : (i : Int) < (l.length : Int) := by omega
  have hWO := fun (c : Nat) (W : World) => withoutR_any a c l i (by omega) W
  have hSW := fun (x y : Option Addr) (c c' : Nat) (W : World) => sameR_any x y c c' (withoutK l i) (withoutK l i) (by have := htl; omega) W
  rw [decide_eq_true rfl] at hSW
  obtain ⟨q, eq⟩ : ∃ q, l.getD i k00 = q := ⟨_, rfl⟩
  rw [eq] at HTK
  have HIL := Lib.hid (And.intro hil eq)
  rw [decide_eq_true hk] at hSZ
  have hAK := fun (c : Nat) (W : World) => atR_any a c l k.r k.n (by omega) W
  obtain ⟨j, hj⟩ : ∃ j, atK l k.r k.n = some j := Option.ne_none_iff_exists'.1 hold
  rw [show atI l k.r k.n = (j : Int) by unfold atI; rw [hj]] at hAK
  have hj0 : (0 : Int) ≤ (j : Int) := by omega
  unfold kkv at hSZ
  have HAT := Lib.hid hAT; have HSZ := Lib.hid hSZ; have HWO := Lib.hid hWO; have HSW := Lib.hid hSW; have HAK := Lib.hid hAK
  clear hAT hSZ hr hat hk hpE hpT htE htS htT hpl htl hll hml hWO hSW hil eq hAK hold hj
  unfold kkv at HPUT ⊢
  go_enter Try.func3, Try.ntmps3
  go_upto_region 1 with fail
  have hal : Below w.heap.size w (w.alloc (.cells #[.string k.r, .int .u64 (k.n : Int), .string k.k] 25)) := by go_grown
  have hC : (w.alloc (.cells #[.string k.r, .int .u64 (k.n : Int), .string k.k] 25)).heap[w.heap.size]? = some (.cells #[.string k.r, .int .u64 (k.n : Int), .string k.k] 25) := heap_alloc_new _ _
  have HKL2 := Lib.hid (HKL.out.on hal); have HKM2 := Lib.hid (HKM.out.on hal)
  clear HKL HKM
  have HKL := HKL2; have HKM := HKM2
  clear HKL2 HKM2
  obtain ⟨B, eB⟩ : ∃ B, w.heap.size = B := ⟨_, rfl⟩
  rw [eB] at hal hC ⊢
  obtain ⟨W0, eW0⟩ : ∃ W0, w.alloc (.cells #[.string k.r, .int .u64 (k.n : Int), .string k.k] 25) = W0 := ⟨_, rfl⟩
  rw [eW0] at hal hC HKL HKM ⊢
  have HC := Lib.hid hC; have HB := Lib.hid hal
  clear hC hal eW0
  go_wp2_with fail
  refine (HF1.out _).mono ?_
  rintro e w1 ⟨c1, rfl, hc1, rfl⟩
  go_wp2_with fail
  refine (HF2.out _).mono ?_
  rintro e w1 ⟨c2, rfl, hc2, rfl⟩
  have HC12 := Lib.hid (And.intro hc1 hc2)
  clear HF1 HF2 hc1 hc2
  have e0 : W0.cell? ⟨B, 0, none⟩ = some (.string k.r) := by rw [cell_of_row _ _ _ _ _ _ HC.out]; rfl
  have e1 : W0.cell? ⟨B, 1, none⟩ = some (.int .u64 (k.n : Int)) := by rw [cell_of_row _ _ _ _ _ _ HC.out]; rfl
  have e2 : W0.cell? ⟨B, 2, none⟩ = some (.string k.k) := by rw [cell_of_row _ _ _ _ _ _ HC.out]; rfl
  go_wp2_with fail
  refine (HPUT.out c1 HC12.out.1 _ HKL.out).mono ?_
  rintro e w1 ⟨a3, c3, rfl, hc3, hk, hb⟩
  have HC2 := Lib.hid ((hb.block B (Array.getElem?_eq_some_iff.1 HC.out).1).trans HC.out); have HB2 := Lib.hid (HB.out.trans (hb.mono (by have := HB.out.size; omega)))
  clear HC HB
  have HC := HC2; have HB := HB2
  clear HC2 HB2
  have HN_ := Lib.hid (HKL.out.on hb)
  clear HKL
  have HKL := HN_
  clear HN_
  have HN_ := Lib.hid (HKM.out.on hb)
  clear HKM
  have HKM := HN_
  clear HN_
  have HKP := Lib.hid hk
  clear hb hk HPUT
  clear e0 e1 e2
  go_wp2_with fail
  refine (HTK.out c1 HC12.out.1 _ HKL.out).mono ?_
  rintro e w2 ⟨a4, c4, rfl, hc4, hk, hb⟩
  have HC2 := Lib.hid ((hb.block B (Array.getElem?_eq_some_iff.1 HC.out).1).trans HC.out); have HB2 := Lib.hid (HB.out.trans (hb.mono (by have := HB.out.size; omega)))
  clear HC HB
  have HC := HC2; have HB := HB2
  clear HC2 HB2
  have HN_ := Lib.hid (HKL.out.on hb)
  clear HKL
  have HKL := HN_
  clear HN_
  have HN_ := Lib.hid (HKM.out.on hb)
  clear HKM
  have HKM := HN_
  clear HN_
  have HN_ := Lib.hid (HKP.out.on hb)
  clear HKP
  have HKP := HN_
  clear HN_
  have HKT := Lib.hid hk
  clear hb hk HTK
  go_wp2_with fail
  refine (HR.out c1 HC12.out.1 _ HKL.out).mono ?_
  rintro e w3 ⟨rfl, hb⟩
  have HC2 := Lib.hid ((hb.block B (Array.getElem?_eq_some_iff.1 HC.out).1).trans HC.out); have HB2 := Lib.hid (HB.out.trans (hb.mono (by have := HB.out.size; omega)))
  clear HC HB
  have HC := HC2; have HB := HB2
  clear HC2 HB2
  have HN_ := Lib.hid (HKL.out.on hb)
  clear HKL
  have HKL := HN_
  clear HN_
  have HN_ := Lib.hid (HKM.out.on hb)
  clear HKM
  have HKM := HN_
  clear HN_
  have HN_ := Lib.hid (HKP.out.on hb)
  clear HKP
  have HKP := HN_
  clear HN_
  have HN_ := Lib.hid (HKT.out.on hb)
  clear HKT
  have HKT := HN_
  clear HN_
  clear hb HR
  go_wp2_with fail
  refine (HRR.out c1 HC12.out.1 _ HKL.out).mono ?_
  rintro e w4 ⟨rfl, hb⟩
  have HC2 := Lib.hid ((hb.block B (Array.getElem?_eq_some_iff.1 HC.out).1).trans HC.out); have HB2 := Lib.hid (HB.out.trans (hb.mono (by have := HB.out.size; omega)))
  clear HC HB
  have HC := HC2; have HB := HB2
  clear HC2 HB2
  have HN_ := Lib.hid (HKL.out.on hb)
  clear HKL
  have HKL := HN_
  clear HN_
  have HN_ := Lib.hid (HKM.out.on hb)
  clear HKM
  have HKM := HN_
  clear HN_
  have HN_ := Lib.hid (HKP.out.on hb)
  clear HKP
  have HKP := HN_
  clear HN_
  have HN_ := Lib.hid (HKT.out.on hb)
  clear HKT
  have HKT := HN_
  clear HN_
  clear hb
  go_wp2_with fail
  refine (HLK.out c1 c2 _ HKL.out HKM.out).mono ?_
  rintro e w5 ⟨rfl, hb⟩
  have HC2 := Lib.hid ((hb.block B (Array.getElem?_eq_some_iff.1 HC.out).1).trans HC.out); have HB2 := Lib.hid (HB.out.trans (hb.mono (by have := HB.out.size; omega)))
  clear HC HB
  have HC := HC2; have HB := HB2
  clear HC2 HB2
  have HN_ := Lib.hid (HKL.out.on hb)
  clear HKL
  have HKL := HN_
  clear HN_
  have HN_ := Lib.hid (HKM.out.on hb)
  clear HKM
  have HKM := HN_
  clear HN_
  have HN_ := Lib.hid (HKP.out.on hb)
  clear HKP
  have HKP := HN_
  clear HN_
  have HN_ := Lib.hid (HKT.out.on hb)
  clear HKT
  have HKT := HN_
  clear HN_
  clear hb HLK
  go_wp2_with fail
  refine (HSM.out c1 c2 _ HKL.out HKM.out).mono ?_
  rintro e w6 ⟨rfl, hb⟩
  have HC2 := Lib.hid ((hb.block B (Array.getElem?_eq_some_iff.1 HC.out).1).trans HC.out); have HB2 := Lib.hid (HB.out.trans (hb.mono (by have := HB.out.size; omega)))
  clear HC HB
  have HC := HC2; have HB := HB2
  clear HC2 HB2
  have HN_ := Lib.hid (HKL.out.on hb)
  clear HKL
  have HKL := HN_
  clear HN_
  have HN_ := Lib.hid (HKM.out.on hb)
  clear HKM
  have HKM := HN_
  clear HN_
  have HN_ := Lib.hid (HKP.out.on hb)
  clear HKP
  have HKP := HN_
  clear HN_
  have HN_ := Lib.hid (HKT.out.on hb)
  clear HKT
  have HKT := HN_
  clear HN_
  clear hb HSM
  go_wp2_with fail
  refine (HLL.out c1 c1 _ HKL.out HKL.out).mono ?_
  rintro e w7 ⟨rfl, hb⟩
  have HC2 := Lib.hid ((hb.block B (Array.getElem?_eq_some_iff.1 HC.out).1).trans HC.out); have HB2 := Lib.hid (HB.out.trans (hb.mono (by have := HB.out.size; omega)))
  clear HC HB
  have HC := HC2; have HB := HB2
  clear HC2 HB2
  have HN_ := Lib.hid (HKL.out.on hb)
  clear HKL
  have HKL := HN_
  clear HN_
  have HN_ := Lib.hid (HKM.out.on hb)
  clear HKM
  have HKM := HN_
  clear HN_
  have HN_ := Lib.hid (HKP.out.on hb)
  clear HKP
  have HKP := HN_
  clear HN_
  have HN_ := Lib.hid (HKT.out.on hb)
  clear HKT
  have HKT := HN_
  clear HN_
  clear hb HLL
  go_wp2_with fail
  refine (alive12_any _).mono ?_
  rintro e w8 ⟨rfl, hb⟩
  have HC2 := Lib.hid ((hb.block B (Array.getElem?_eq_some_iff.1 HC.out).1).trans HC.out); have HB2 := Lib.hid (HB.out.trans (hb.mono (by have := HB.out.size; omega)))
  clear HC HB
  have HC := HC2; have HB := HB2
  clear HC2 HB2
  have HN_ := Lib.hid (HKL.out.on hb)
  clear HKL
  have HKL := HN_
  clear HN_
  have HN_ := Lib.hid (HKM.out.on hb)
  clear HKM
  have HKM := HN_
  clear HN_
  have HN_ := Lib.hid (HKP.out.on hb)
  clear HKP
  have HKP := HN_
  clear HN_
  have HN_ := Lib.hid (HKT.out.on hb)
  clear HKT
  have HKT := HN_
  clear HN_
  clear hb
  go_wp2_with fail
  refine (HRR.out c1 HC12.out.1 _ HKL.out).mono ?_
  rintro e w9 ⟨rfl, hb⟩
  have HC2 := Lib.hid ((hb.block B (Array.getElem?_eq_some_iff.1 HC.out).1).trans HC.out); have HB2 := Lib.hid (HB.out.trans (hb.mono (by have := HB.out.size; omega)))
  clear HC HB
  have HC := HC2; have HB := HB2
  clear HC2 HB2
  have HN_ := Lib.hid (HKL.out.on hb)
  clear HKL
  have HKL := HN_
  clear HN_
  have HN_ := Lib.hid (HKM.out.on hb)
  clear HKM
  have HKM := HN_
  clear HN_
  have HN_ := Lib.hid (HKP.out.on hb)
  clear HKP
  have HKP := HN_
  clear HN_
  have HN_ := Lib.hid (HKT.out.on hb)
  clear HKT
  have HKT := HN_
  clear HN_
  clear hb HRR
  go_wp2_with fail
  refine (HAT.out c1 _ HKL.out).mono ?_
  rintro e w10 ⟨rfl, hb⟩
  have HC2 := Lib.hid ((hb.block B (Array.getElem?_eq_some_iff.1 HC.out).1).trans HC.out); have HB2 := Lib.hid (HB.out.trans (hb.mono (by have := HB.out.size; omega)))
  clear HC HB
  have HC := HC2; have HB := HB2
  clear HC2 HB2
  have HN_ := Lib.hid (HKL.out.on hb)
  clear HKL
  have HKL := HN_
  clear HN_
  have HN_ := Lib.hid (HKM.out.on hb)
  clear HKM
  have HKM := HN_
  clear HN_
  have HN_ := Lib.hid (HKP.out.on hb)
  clear HKP
  have HKP := HN_
  clear HN_
  have HN_ := Lib.hid (HKT.out.on hb)
  clear HKT
  have HKT := HN_
  clear HN_
  clear hb HAT
  obtain ⟨g, off, rfl, hgl, hgc⟩ := HKL.out (by have := HIL.out.1; omega)
  have hpt := hgc i HIL.out.1
  rw [HIL.out.2] at hpt
  have f2 := hpt.c2
  clear hgc hpt hgl
  go_wp2_with fail
  refine (HWO.out c1 _ HKL.out).mono ?_
  rintro e w11 ⟨v5, rfl, hO, hb⟩
  have HC2 := Lib.hid ((hb.block B (Array.getElem?_eq_some_iff.1 HC.out).1).trans HC.out); have HB2 := Lib.hid (HB.out.trans (hb.mono (by have := HB.out.size; omega)))
  clear HC HB
  have HC := HC2; have HB := HB2
  clear HC2 HB2
  have HN_ := Lib.hid (HKL.out.on hb)
  clear HKL
  have HKL := HN_
  clear HN_
  have HN_ := Lib.hid (HKM.out.on hb)
  clear HKM
  have HKM := HN_
  clear HN_
  have HN_ := Lib.hid (HKP.out.on hb)
  clear HKP
  have HKP := HN_
  clear HN_
  have HN_ := Lib.hid (HKT.out.on hb)
  clear HKT
  have HKT := HN_
  clear HN_
  clear hb HWO f2
  obtain ⟨a5, c5, rfl, -, hk⟩ := hO.ksl
  have HKW := Lib.hid hk
  clear hO hk
  go_wp2_with fail
  refine (HSW.out _ _ _ _ _ HKT.out HKW.out).mono ?_
  rintro e w12 ⟨rfl, hb⟩
  have HC2 := Lib.hid ((hb.block B (Array.getElem?_eq_some_iff.1 HC.out).1).trans HC.out); have HB2 := Lib.hid (HB.out.trans (hb.mono (by have := HB.out.size; omega)))
  clear HC HB
  have HC := HC2; have HB := HB2
  clear HC2 HB2
  have HN_ := Lib.hid (HKL.out.on hb)
  clear HKL
  have HKL := HN_
  clear HN_
  have HN_ := Lib.hid (HKM.out.on hb)
  clear HKM
  have HKM := HN_
  clear HN_
  have HN_ := Lib.hid (HKP.out.on hb)
  clear HKP
  have HKP := HN_
  clear HN_
  have HN_ := Lib.hid (HKT.out.on hb)
  clear HKT
  have HKT := HN_
  clear HN_
  have HN_ := Lib.hid (HKW.out.on hb)
  clear HKW
  have HKW := HN_
  clear HN_
  clear hb HSW
  have e0 : w12.cell? ⟨B, 0, none⟩ = some (.string k.r) := by rw [cell_of_row _ _ _ _ _ _ HC.out]; rfl
  have e1 : w12.cell? ⟨B, 1, none⟩ = some (.int .u64 (k.n : Int)) := by rw [cell_of_row _ _ _ _ _ _ HC.out]; rfl
  have e2 : w12.cell? ⟨B, 2, none⟩ = some (.string k.k) := by rw [cell_of_row _ _ _ _ _ _ HC.out]; rfl
  go_wp2_with fail
  refine (HSZ.out _).mono ?_
  rintro e w13 ⟨rfl, hb⟩
  have HC2 := Lib.hid ((hb.block B (Array.getElem?_eq_some_iff.1 HC.out).1).trans HC.out); have HB2 := Lib.hid (HB.out.trans (hb.mono (by have := HB.out.size; omega)))
  clear HC HB
  have HC := HC2; have HB := HB2
  clear HC2 HB2
  have HN_ := Lib.hid (HKL.out.on hb)
  clear HKL
  have HKL := HN_
  clear HN_
  have HN_ := Lib.hid (HKM.out.on hb)
  clear HKM
  have HKM := HN_
  clear HN_
  have HN_ := Lib.hid (HKP.out.on hb)
  clear HKP
  have HKP := HN_
  clear HN_
  have HN_ := Lib.hid (HKT.out.on hb)
  clear HKT
  have HKT := HN_
  clear HN_
  have HN_ := Lib.hid (HKW.out.on hb)
  clear HKW
  have HKW := HN_
  clear HN_
  clear hb HSZ
  clear e0 e1 e2
  have e0 : w13.cell? ⟨B, 0, none⟩ = some (.string k.r) := by rw [cell_of_row _ _ _ _ _ _ HC.out]; rfl
  have e1 : w13.cell? ⟨B, 1, none⟩ = some (.int .u64 (k.n : Int)) := by rw [cell_of_row _ _ _ _ _ _ HC.out]; rfl
  have e2 : w13.cell? ⟨B, 2, none⟩ = some (.string k.k) := by rw [cell_of_row _ _ _ _ _ _ HC.out]; rfl
  go_wp2_with fail
  refine (HAK.out c1 _ HKL.out).mono ?_
  rintro e w14 ⟨rfl, hb⟩
  have HC2 := Lib.hid ((hb.block B (Array.getElem?_eq_some_iff.1 HC.out).1).trans HC.out); have HB2 := Lib.hid (HB.out.trans (hb.mono (by have := HB.out.size; omega)))
  clear HC HB
  have HC := HC2; have HB := HB2
  clear HC2 HB2
  have HN_ := Lib.hid (HKL.out.on hb)
  clear HKL
  have HKL := HN_
  clear HN_
  have HN_ := Lib.hid (HKM.out.on hb)
  clear HKM
  have HKM := HN_
  clear HN_
  have HN_ := Lib.hid (HKP.out.on hb)
  clear HKP
  have HKP := HN_
  clear HN_
  have HN_ := Lib.hid (HKT.out.on hb)
  clear HKT
  have HKT := HN_
  clear HN_
  have HN_ := Lib.hid (HKW.out.on hb)
  clear HKW
  have HKW := HN_
  clear HN_
  clear hb HAK
  clear e0 e1 e2
  go_wp2_with fail
  go_ret
  exact ⟨by first | rfl | simp, by rw [eB]; exact HB.out⟩
set_option maxHeartbeats 16000000 in
theorem skippedTables_some_ok (a b : Option Addr) (ca cb : Nat) (l0 m0 : List Kk) (k : Kk) (r : ByteArray) (n : Nat) (hl0 : l0.length ≤ maxLen) (hm0 : m0.length ≤ maxLen) (hla : l0.length ≤ ca) (hmb : m0.length ≤ cb) (l m : List Kk) (hl : l0.take 22 = l) (hm : m0.take 22 = m) (hr : rightK l) (i : Nat) (hat : atK l r n = some i) (hk : sizedK k) (hold : atK l k.r k.n = none) (w : World) (hp : KSl w a l0) (hq : KSl w b m0) :
    Calls Try.prog 3 #[.slice a l0.length ca, .slice b m0.length cb, kkv k, .string r, .int .u64 (n : Int)] w fun e w' => e = .returned (.bool true) ∧ Below w.heap.size w w' := by
  have hll : l.length ≤ 22 := by rw [← hl, List.length_take]; omega
  have hml : m.length ≤ 22 := by rw [← hm, List.length_take]; omega
  have hf1 := few12_any a ca l0 hl0 hla
  have hf2 := few12_any b cb m0 hm0 hmb
  have hp1 := hp.take 22
  have hq1 := hq.take 22
  rw [hl] at hf1 hp1
  rw [hm] at hf2 hq1
  have hput := fun (c : Nat) (hc : l.length ≤ c) (W : World) => Put_any a c l k (by omega) hc W
  have htk := fun (c : Nat) (hc : l.length ≤ c) (W : World) => Take_any a c l r n (by omega) hc W
  have hpl := putT_length (l := l) k
  have htl := takeT_length (l := l) r n
  obtain ⟨htE, htS, htT⟩ := take_good hr hat
  obtain ⟨hpE, hpT⟩ := put_good hr hk hold
  rw [hpT] at hpl
  rw [htT] at htl
  rw [hpE, hpT] at hput
  rw [htE, htS, htT] at htk
  have hR := fun (c : Nat) (hc : l.length ≤ c) (W : World) => Right_any a c l (by omega) hc W
  have hRR := fun (c : Nat) (hc : l.length ≤ c) (W : World) => rightR_any a c l (by omega) hc W
  rw [decide_eq_true hr] at hR hRR
  have hLK := fun (c c' : Nat) (W : World) => Like_any a b c c' l m (by omega) W
  have hSM := fun (c c' : Nat) (W : World) => sameR_any a b c c' l m (by omega) W
  obtain ⟨Z, eZ⟩ : ∃ Z, decide (l = m) = Z := ⟨_, rfl⟩
  simp only [eZ] at hLK hSM
  have hLL := fun (c c' : Nat) (W : World) => Like_any a a c c' l l (by omega) W
  rw [decide_eq_true rfl] at hLL
  have HR := Lib.hid hR; have HRR := Lib.hid hRR; have HLK := Lib.hid hLK; have HSM := Lib.hid hSM; have HLL := Lib.hid hLL; have HPUT := Lib.hid hput; have HTK := Lib.hid htk; have HF1 := Lib.hid hf1; have HF2 := Lib.hid hf2; have HKL := Lib.hid hp1; have HKM := Lib.hid hq1
  clear hR hRR hLK hSM hLL hput htk hf1 hf2 hp1 hq1 hp hq hl hm hl0 hm0 hla hmb eZ
  have hAT := fun (c : Nat) (W : World) => atR_any a c l r n (by omega) W
  have hSZ := fun (W : World) => sizedR_any k W
  rw [show atI l r n = (i : Int) by unfold atI; rw [hat]] at hAT
  have hi0 : (0 : Int) ≤ (i : Int) := by omega
  have hil := (atK_some hat).1
  have hil2 : (i : Int) < (l.length : Int) := by omega
  have hWO := fun (c : Nat) (W : World) => withoutR_any a c l i (by omega) W
  have hSW := fun (x y : Option Addr) (c c' : Nat) (W : World) => sameR_any x y c c' (withoutK l i) (withoutK l i) (by have := htl; omega) W
  rw [decide_eq_true rfl] at hSW
  obtain ⟨q, eq⟩ : ∃ q, l.getD i k00 = q := ⟨_, rfl⟩
  rw [eq] at HTK
  have HIL := Lib.hid (And.intro hil eq)
  rw [decide_eq_true hk] at hSZ
  have hAK := fun (c : Nat) (W : World) => atR_any a c l k.r k.n (by omega) W
  rw [show atI l k.r k.n = -1 by unfold atI; rw [hold]] at hAK
  have hRP := fun (c : Nat) (W : World) => putR_any a c l k (by omega) W
  have hSP := fun (x y : Option Addr) (c c' : Nat) (W : World) => sameR_any x y c c' (putK l k) (putK l k) (by have := hpl; omega) W
  rw [decide_eq_true rfl] at hSP
  unfold kkv at hSZ
  unfold kkv at hRP
  have HAT := Lib.hid hAT; have HSZ := Lib.hid hSZ; have HWO := Lib.hid hWO; have HSW := Lib.hid hSW; have HAK := Lib.hid hAK; have HRP := Lib.hid hRP; have HSP := Lib.hid hSP
  clear hAT hSZ hr hat hk hpE hpT htE htS htT hpl htl hll hml hWO hSW hil eq hAK hold hRP hSP
  unfold kkv at HPUT ⊢
  go_enter Try.func3, Try.ntmps3
  go_upto_region 1 with fail
  have hal : Below w.heap.size w (w.alloc (.cells #[.string k.r, .int .u64 (k.n : Int), .string k.k] 25)) := by go_grown
  have hC : (w.alloc (.cells #[.string k.r, .int .u64 (k.n : Int), .string k.k] 25)).heap[w.heap.size]? = some (.cells #[.string k.r, .int .u64 (k.n : Int), .string k.k] 25) := heap_alloc_new _ _
  have HKL2 := Lib.hid (HKL.out.on hal); have HKM2 := Lib.hid (HKM.out.on hal)
  clear HKL HKM
  have HKL := HKL2; have HKM := HKM2
  clear HKL2 HKM2
  obtain ⟨B, eB⟩ : ∃ B, w.heap.size = B := ⟨_, rfl⟩
  rw [eB] at hal hC ⊢
  obtain ⟨W0, eW0⟩ : ∃ W0, w.alloc (.cells #[.string k.r, .int .u64 (k.n : Int), .string k.k] 25) = W0 := ⟨_, rfl⟩
  rw [eW0] at hal hC HKL HKM ⊢
  have HC := Lib.hid hC; have HB := Lib.hid hal
  clear hC hal eW0
  go_wp2_with fail
  refine (HF1.out _).mono ?_
  rintro e w1 ⟨c1, rfl, hc1, rfl⟩
  go_wp2_with fail
  refine (HF2.out _).mono ?_
  rintro e w1 ⟨c2, rfl, hc2, rfl⟩
  have HC12 := Lib.hid (And.intro hc1 hc2)
  clear HF1 HF2 hc1 hc2
  have e0 : W0.cell? ⟨B, 0, none⟩ = some (.string k.r) := by rw [cell_of_row _ _ _ _ _ _ HC.out]; rfl
  have e1 : W0.cell? ⟨B, 1, none⟩ = some (.int .u64 (k.n : Int)) := by rw [cell_of_row _ _ _ _ _ _ HC.out]; rfl
  have e2 : W0.cell? ⟨B, 2, none⟩ = some (.string k.k) := by rw [cell_of_row _ _ _ _ _ _ HC.out]; rfl
  go_wp2_with fail
  refine (HPUT.out c1 HC12.out.1 _ HKL.out).mono ?_
  rintro e w1 ⟨a3, c3, rfl, hc3, hk, hb⟩
  have HC2 := Lib.hid ((hb.block B (Array.getElem?_eq_some_iff.1 HC.out).1).trans HC.out); have HB2 := Lib.hid (HB.out.trans (hb.mono (by have := HB.out.size; omega)))
  clear HC HB
  have HC := HC2; have HB := HB2
  clear HC2 HB2
  have HN_ := Lib.hid (HKL.out.on hb)
  clear HKL
  have HKL := HN_
  clear HN_
  have HN_ := Lib.hid (HKM.out.on hb)
  clear HKM
  have HKM := HN_
  clear HN_
  have HKP := Lib.hid hk
  clear hb hk HPUT
  clear e0 e1 e2
  go_wp2_with fail
  refine (HTK.out c1 HC12.out.1 _ HKL.out).mono ?_
  rintro e w2 ⟨a4, c4, rfl, hc4, hk, hb⟩
  have HC2 := Lib.hid ((hb.block B (Array.getElem?_eq_some_iff.1 HC.out).1).trans HC.out); have HB2 := Lib.hid (HB.out.trans (hb.mono (by have := HB.out.size; omega)))
  clear HC HB
  have HC := HC2; have HB := HB2
  clear HC2 HB2
  have HN_ := Lib.hid (HKL.out.on hb)
  clear HKL
  have HKL := HN_
  clear HN_
  have HN_ := Lib.hid (HKM.out.on hb)
  clear HKM
  have HKM := HN_
  clear HN_
  have HN_ := Lib.hid (HKP.out.on hb)
  clear HKP
  have HKP := HN_
  clear HN_
  have HKT := Lib.hid hk
  clear hb hk HTK
  go_wp2_with fail
  refine (HR.out c1 HC12.out.1 _ HKL.out).mono ?_
  rintro e w3 ⟨rfl, hb⟩
  have HC2 := Lib.hid ((hb.block B (Array.getElem?_eq_some_iff.1 HC.out).1).trans HC.out); have HB2 := Lib.hid (HB.out.trans (hb.mono (by have := HB.out.size; omega)))
  clear HC HB
  have HC := HC2; have HB := HB2
  clear HC2 HB2
  have HN_ := Lib.hid (HKL.out.on hb)
  clear HKL
  have HKL := HN_
  clear HN_
  have HN_ := Lib.hid (HKM.out.on hb)
  clear HKM
  have HKM := HN_
  clear HN_
  have HN_ := Lib.hid (HKP.out.on hb)
  clear HKP
  have HKP := HN_
  clear HN_
  have HN_ := Lib.hid (HKT.out.on hb)
  clear HKT
  have HKT := HN_
  clear HN_
  clear hb HR
  go_wp2_with fail
  refine (HRR.out c1 HC12.out.1 _ HKL.out).mono ?_
  rintro e w4 ⟨rfl, hb⟩
  have HC2 := Lib.hid ((hb.block B (Array.getElem?_eq_some_iff.1 HC.out).1).trans HC.out); have HB2 := Lib.hid (HB.out.trans (hb.mono (by have := HB.out.size; omega)))
  clear HC HB
  have HC := HC2; have HB := HB2
  clear HC2 HB2
  have HN_ := Lib.hid (HKL.out.on hb)
  clear HKL
  have HKL := HN_
  clear HN_
  have HN_ := Lib.hid (HKM.out.on hb)
  clear HKM
  have HKM := HN_
  clear HN_
  have HN_ := Lib.hid (HKP.out.on hb)
  clear HKP
  have HKP := HN_
  clear HN_
  have HN_ := Lib.hid (HKT.out.on hb)
  clear HKT
  have HKT := HN_
  clear HN_
  clear hb
  go_wp2_with fail
  refine (HLK.out c1 c2 _ HKL.out HKM.out).mono ?_
  rintro e w5 ⟨rfl, hb⟩
  have HC2 := Lib.hid ((hb.block B (Array.getElem?_eq_some_iff.1 HC.out).1).trans HC.out); have HB2 := Lib.hid (HB.out.trans (hb.mono (by have := HB.out.size; omega)))
  clear HC HB
  have HC := HC2; have HB := HB2
  clear HC2 HB2
  have HN_ := Lib.hid (HKL.out.on hb)
  clear HKL
  have HKL := HN_
  clear HN_
  have HN_ := Lib.hid (HKM.out.on hb)
  clear HKM
  have HKM := HN_
  clear HN_
  have HN_ := Lib.hid (HKP.out.on hb)
  clear HKP
  have HKP := HN_
  clear HN_
  have HN_ := Lib.hid (HKT.out.on hb)
  clear HKT
  have HKT := HN_
  clear HN_
  clear hb HLK
  go_wp2_with fail
  refine (HSM.out c1 c2 _ HKL.out HKM.out).mono ?_
  rintro e w6 ⟨rfl, hb⟩
  have HC2 := Lib.hid ((hb.block B (Array.getElem?_eq_some_iff.1 HC.out).1).trans HC.out); have HB2 := Lib.hid (HB.out.trans (hb.mono (by have := HB.out.size; omega)))
  clear HC HB
  have HC := HC2; have HB := HB2
  clear HC2 HB2
  have HN_ := Lib.hid (HKL.out.on hb)
  clear HKL
  have HKL := HN_
  clear HN_
  have HN_ := Lib.hid (HKM.out.on hb)
  clear HKM
  have HKM := HN_
  clear HN_
  have HN_ := Lib.hid (HKP.out.on hb)
  clear HKP
  have HKP := HN_
  clear HN_
  have HN_ := Lib.hid (HKT.out.on hb)
  clear HKT
  have HKT := HN_
  clear HN_
  clear hb HSM
  go_wp2_with fail
  refine (HLL.out c1 c1 _ HKL.out HKL.out).mono ?_
  rintro e w7 ⟨rfl, hb⟩
  have HC2 := Lib.hid ((hb.block B (Array.getElem?_eq_some_iff.1 HC.out).1).trans HC.out); have HB2 := Lib.hid (HB.out.trans (hb.mono (by have := HB.out.size; omega)))
  clear HC HB
  have HC := HC2; have HB := HB2
  clear HC2 HB2
  have HN_ := Lib.hid (HKL.out.on hb)
  clear HKL
  have HKL := HN_
  clear HN_
  have HN_ := Lib.hid (HKM.out.on hb)
  clear HKM
  have HKM := HN_
  clear HN_
  have HN_ := Lib.hid (HKP.out.on hb)
  clear HKP
  have HKP := HN_
  clear HN_
  have HN_ := Lib.hid (HKT.out.on hb)
  clear HKT
  have HKT := HN_
  clear HN_
  clear hb HLL
  go_wp2_with fail
  refine (alive12_any _).mono ?_
  rintro e w8 ⟨rfl, hb⟩
  have HC2 := Lib.hid ((hb.block B (Array.getElem?_eq_some_iff.1 HC.out).1).trans HC.out); have HB2 := Lib.hid (HB.out.trans (hb.mono (by have := HB.out.size; omega)))
  clear HC HB
  have HC := HC2; have HB := HB2
  clear HC2 HB2
  have HN_ := Lib.hid (HKL.out.on hb)
  clear HKL
  have HKL := HN_
  clear HN_
  have HN_ := Lib.hid (HKM.out.on hb)
  clear HKM
  have HKM := HN_
  clear HN_
  have HN_ := Lib.hid (HKP.out.on hb)
  clear HKP
  have HKP := HN_
  clear HN_
  have HN_ := Lib.hid (HKT.out.on hb)
  clear HKT
  have HKT := HN_
  clear HN_
  clear hb
  go_wp2_with fail
  refine (HRR.out c1 HC12.out.1 _ HKL.out).mono ?_
  rintro e w9 ⟨rfl, hb⟩
  have HC2 := Lib.hid ((hb.block B (Array.getElem?_eq_some_iff.1 HC.out).1).trans HC.out); have HB2 := Lib.hid (HB.out.trans (hb.mono (by have := HB.out.size; omega)))
  clear HC HB
  have HC := HC2; have HB := HB2
  clear HC2 HB2
  have HN_ := Lib.hid (HKL.out.on hb)
  clear HKL
  have HKL := HN_
  clear HN_
  have HN_ := Lib.hid (HKM.out.on hb)
  clear HKM
  have HKM := HN_
  clear HN_
  have HN_ := Lib.hid (HKP.out.on hb)
  clear HKP
  have HKP := HN_
  clear HN_
  have HN_ := Lib.hid (HKT.out.on hb)
  clear HKT
  have HKT := HN_
  clear HN_
  clear hb HRR
  go_wp2_with fail
  refine (HAT.out c1 _ HKL.out).mono ?_
  rintro e w10 ⟨rfl, hb⟩
  have HC2 := Lib.hid ((hb.block B (Array.getElem?_eq_some_iff.1 HC.out).1).trans HC.out); have HB2 := Lib.hid (HB.out.trans (hb.mono (by have := HB.out.size; omega)))
  clear HC HB
  have HC := HC2; have HB := HB2
  clear HC2 HB2
  have HN_ := Lib.hid (HKL.out.on hb)
  clear HKL
  have HKL := HN_
  clear HN_
  have HN_ := Lib.hid (HKM.out.on hb)
  clear HKM
  have HKM := HN_
  clear HN_
  have HN_ := Lib.hid (HKP.out.on hb)
  clear HKP
  have HKP := HN_
  clear HN_
  have HN_ := Lib.hid (HKT.out.on hb)
  clear HKT
  have HKT := HN_
  clear HN_
  clear hb HAT
  obtain ⟨g, off, rfl, hgl, hgc⟩ := HKL.out (by have := HIL.out.1; omega)
  have hpt := hgc i HIL.out.1
  rw [HIL.out.2] at hpt
  have f2 := hpt.c2
  clear hgc hpt hgl
  go_wp2_with fail
  refine (HWO.out c1 _ HKL.out).mono ?_
  rintro e w11 ⟨v5, rfl, hO, hb⟩
  have HC2 := Lib.hid ((hb.block B (Array.getElem?_eq_some_iff.1 HC.out).1).trans HC.out); have HB2 := Lib.hid (HB.out.trans (hb.mono (by have := HB.out.size; omega)))
  clear HC HB
  have HC := HC2; have HB := HB2
  clear HC2 HB2
  have HN_ := Lib.hid (HKL.out.on hb)
  clear HKL
  have HKL := HN_
  clear HN_
  have HN_ := Lib.hid (HKM.out.on hb)
  clear HKM
  have HKM := HN_
  clear HN_
  have HN_ := Lib.hid (HKP.out.on hb)
  clear HKP
  have HKP := HN_
  clear HN_
  have HN_ := Lib.hid (HKT.out.on hb)
  clear HKT
  have HKT := HN_
  clear HN_
  clear hb HWO f2
  obtain ⟨a5, c5, rfl, -, hk⟩ := hO.ksl
  have HKW := Lib.hid hk
  clear hO hk
  go_wp2_with fail
  refine (HSW.out _ _ _ _ _ HKT.out HKW.out).mono ?_
  rintro e w12 ⟨rfl, hb⟩
  have HC2 := Lib.hid ((hb.block B (Array.getElem?_eq_some_iff.1 HC.out).1).trans HC.out); have HB2 := Lib.hid (HB.out.trans (hb.mono (by have := HB.out.size; omega)))
  clear HC HB
  have HC := HC2; have HB := HB2
  clear HC2 HB2
  have HN_ := Lib.hid (HKL.out.on hb)
  clear HKL
  have HKL := HN_
  clear HN_
  have HN_ := Lib.hid (HKM.out.on hb)
  clear HKM
  have HKM := HN_
  clear HN_
  have HN_ := Lib.hid (HKP.out.on hb)
  clear HKP
  have HKP := HN_
  clear HN_
  have HN_ := Lib.hid (HKT.out.on hb)
  clear HKT
  have HKT := HN_
  clear HN_
  have HN_ := Lib.hid (HKW.out.on hb)
  clear HKW
  have HKW := HN_
  clear HN_
  clear hb HSW
  have e0 : w12.cell? ⟨B, 0, none⟩ = some (.string k.r) := by rw [cell_of_row _ _ _ _ _ _ HC.out]; rfl
  have e1 : w12.cell? ⟨B, 1, none⟩ = some (.int .u64 (k.n : Int)) := by rw [cell_of_row _ _ _ _ _ _ HC.out]; rfl
  have e2 : w12.cell? ⟨B, 2, none⟩ = some (.string k.k) := by rw [cell_of_row _ _ _ _ _ _ HC.out]; rfl
  go_wp2_with fail
  refine (HSZ.out _).mono ?_
  rintro e w13 ⟨rfl, hb⟩
  have HC2 := Lib.hid ((hb.block B (Array.getElem?_eq_some_iff.1 HC.out).1).trans HC.out); have HB2 := Lib.hid (HB.out.trans (hb.mono (by have := HB.out.size; omega)))
  clear HC HB
  have HC := HC2; have HB := HB2
  clear HC2 HB2
  have HN_ := Lib.hid (HKL.out.on hb)
  clear HKL
  have HKL := HN_
  clear HN_
  have HN_ := Lib.hid (HKM.out.on hb)
  clear HKM
  have HKM := HN_
  clear HN_
  have HN_ := Lib.hid (HKP.out.on hb)
  clear HKP
  have HKP := HN_
  clear HN_
  have HN_ := Lib.hid (HKT.out.on hb)
  clear HKT
  have HKT := HN_
  clear HN_
  have HN_ := Lib.hid (HKW.out.on hb)
  clear HKW
  have HKW := HN_
  clear HN_
  clear hb HSZ
  clear e0 e1 e2
  have e0 : w13.cell? ⟨B, 0, none⟩ = some (.string k.r) := by rw [cell_of_row _ _ _ _ _ _ HC.out]; rfl
  have e1 : w13.cell? ⟨B, 1, none⟩ = some (.int .u64 (k.n : Int)) := by rw [cell_of_row _ _ _ _ _ _ HC.out]; rfl
  have e2 : w13.cell? ⟨B, 2, none⟩ = some (.string k.k) := by rw [cell_of_row _ _ _ _ _ _ HC.out]; rfl
  go_wp2_with fail
  refine (HAK.out c1 _ HKL.out).mono ?_
  rintro e w14 ⟨rfl, hb⟩
  have HC2 := Lib.hid ((hb.block B (Array.getElem?_eq_some_iff.1 HC.out).1).trans HC.out); have HB2 := Lib.hid (HB.out.trans (hb.mono (by have := HB.out.size; omega)))
  clear HC HB
  have HC := HC2; have HB := HB2
  clear HC2 HB2
  have HN_ := Lib.hid (HKL.out.on hb)
  clear HKL
  have HKL := HN_
  clear HN_
  have HN_ := Lib.hid (HKM.out.on hb)
  clear HKM
  have HKM := HN_
  clear HN_
  have HN_ := Lib.hid (HKP.out.on hb)
  clear HKP
  have HKP := HN_
  clear HN_
  have HN_ := Lib.hid (HKT.out.on hb)
  clear HKT
  have HKT := HN_
  clear HN_
  have HN_ := Lib.hid (HKW.out.on hb)
  clear HKW
  have HKW := HN_
  clear HN_
  clear hb HAK
  clear e0 e1 e2
  have e0 : w14.cell? ⟨B, 0, none⟩ = some (.string k.r) := by rw [cell_of_row _ _ _ _ _ _ HC.out]; rfl
  have e1 : w14.cell? ⟨B, 1, none⟩ = some (.int .u64 (k.n : Int)) := by rw [cell_of_row _ _ _ _ _ _ HC.out]; rfl
  have e2 : w14.cell? ⟨B, 2, none⟩ = some (.string k.k) := by rw [cell_of_row _ _ _ _ _ _ HC.out]; rfl
  go_wp2_with fail
  refine (HRP.out c1 _ HKL.out).mono ?_
  rintro e w15 ⟨v6, rfl, hO, hb⟩
  have HC2 := Lib.hid ((hb.block B (Array.getElem?_eq_some_iff.1 HC.out).1).trans HC.out); have HB2 := Lib.hid (HB.out.trans (hb.mono (by have := HB.out.size; omega)))
  clear HC HB
  have HC := HC2; have HB := HB2
  clear HC2 HB2
  have HN_ := Lib.hid (HKL.out.on hb)
  clear HKL
  have HKL := HN_
  clear HN_
  have HN_ := Lib.hid (HKM.out.on hb)
  clear HKM
  have HKM := HN_
  clear HN_
  have HN_ := Lib.hid (HKP.out.on hb)
  clear HKP
  have HKP := HN_
  clear HN_
  have HN_ := Lib.hid (HKT.out.on hb)
  clear HKT
  have HKT := HN_
  clear HN_
  have HN_ := Lib.hid (HKW.out.on hb)
  clear HKW
  have HKW := HN_
  clear HN_
  clear hb HRP
  clear e0 e1 e2
  obtain ⟨a6, c6, rfl, -, hk⟩ := hO.ksl
  have HKQ := Lib.hid hk
  clear hO hk
  go_wp2_with fail
  refine (HSP.out _ _ _ _ _ HKP.out HKQ.out).mono ?_
  rintro e w16 ⟨rfl, hb⟩
  have HC2 := Lib.hid ((hb.block B (Array.getElem?_eq_some_iff.1 HC.out).1).trans HC.out); have HB2 := Lib.hid (HB.out.trans (hb.mono (by have := HB.out.size; omega)))
  clear HC HB
  have HC := HC2; have HB := HB2
  clear HC2 HB2
  have HN_ := Lib.hid (HKL.out.on hb)
  clear HKL
  have HKL := HN_
  clear HN_
  have HN_ := Lib.hid (HKM.out.on hb)
  clear HKM
  have HKM := HN_
  clear HN_
  have HN_ := Lib.hid (HKP.out.on hb)
  clear HKP
  have HKP := HN_
  clear HN_
  have HN_ := Lib.hid (HKT.out.on hb)
  clear HKT
  have HKT := HN_
  clear HN_
  have HN_ := Lib.hid (HKW.out.on hb)
  clear HKW
  have HKW := HN_
  clear HN_
  have HN_ := Lib.hid (HKQ.out.on hb)
  clear HKQ
  have HKQ := HN_
  clear HN_
  clear hb HSP
  go_wp2_with fail
  go_ret
  exact ⟨by first | rfl | simp, by rw [eB]; exact HB.out⟩
theorem skippedTables_any (a b : Option Addr) (ca cb : Nat) (l0 m0 : List Kk) (k : Kk) (r : ByteArray) (n : Nat) (hl0 : l0.length ≤ maxLen) (hm0 : m0.length ≤ maxLen) (hla : l0.length ≤ ca) (hmb : m0.length ≤ cb) (w : World) (hp : KSl w a l0) (hq : KSl w b m0) :
    Calls Try.prog 3 #[.slice a l0.length ca, .slice b m0.length cb, kkv k, .string r, .int .u64 (n : Int)] w fun e w' => e = .returned (.bool true) ∧ Below w.heap.size w w' := by
  by_cases hr : rightK (l0.take 22)
  · cases hat : atK (l0.take 22) r n with
    | none =>
      by_cases hk : sizedK k
      · by_cases ho : atK (l0.take 22) k.r k.n = none
        · exact skippedTables_none_ok a b ca cb l0 m0 k r n hl0 hm0 hla hmb _ _ rfl rfl hr hat hk ho w hp hq
        · exact skippedTables_none_old a b ca cb l0 m0 k r n hl0 hm0 hla hmb _ _ rfl rfl hr hat hk ho w hp hq
      · exact skippedTables_none_uns a b ca cb l0 m0 k r n hl0 hm0 hla hmb _ _ rfl rfl hr hat hk w hp hq
    | some i =>
      by_cases hk : sizedK k
      · by_cases ho : atK (l0.take 22) k.r k.n = none
        · exact skippedTables_some_ok a b ca cb l0 m0 k r n hl0 hm0 hla hmb _ _ rfl rfl hr i hat hk ho w hp hq
        · exact skippedTables_some_old a b ca cb l0 m0 k r n hl0 hm0 hla hmb _ _ rfl rfl hr i hat hk ho w hp hq
      · exact skippedTables_some_uns a b ca cb l0 m0 k r n hl0 hm0 hla hmb _ _ rfl rfl hr i hat hk w hp hq
  · exact skippedTables_wrong a b ca cb l0 m0 k r n hl0 hm0 hla hmb _ _ rfl rfl hr w hp hq
end Go.Proofs.Ytfkfadcfafbmmaa
