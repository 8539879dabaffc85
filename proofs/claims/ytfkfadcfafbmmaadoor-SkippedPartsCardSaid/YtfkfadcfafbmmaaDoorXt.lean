/- SkippedParts: filled up to a number, and from there on, is filled at once; the chain behind is the same. -/
import Derived.Test.YtfkfadcfafbmmaaDoorXk
import Derived.Test.YtfkfadcfafbmmaaDoorXpf
namespace Go.Proofs.YtfkfadcfafbmmaaDoor
open Go.RowKit Go.Sort
set_option maxRecDepth 100000

def modN (i : Int) (m : Nat) : Nat := ((i.tmod m + m) % m).toNat
theorem modN_lt (i : Int) (m : Nat) (hm : 0 < m) : modN i m < m := by
  unfold modN
  have h1 := Int.emod_nonneg (i.tmod m + m) (show (m : Int) ≠ 0 by omega)
  have h2 := Int.emod_lt_of_pos (i.tmod m + m) (show (0 : Int) < m by omega)
  omega
theorem modN_ex (i : Int) (m : Nat) (hm : 0 < m) (hm2 : m ≤ 100) : ∃ t : Int, i.tmod m = t ∧ -100 ≤ t ∧ t ≤ 100 ∧ (t + m).tmod m = (modN i m : Int) := by
  have h1 : -(m : Int) < i.tmod m := by have := Int.lt_tmod_of_pos i (show (0 : Int) < m by omega); omega
  have h2 : i.tmod m < m := Int.tmod_lt_of_pos i (by omega)
  refine ⟨i.tmod m, rfl, by omega, by omega, ?_⟩
  rw [Int.tmod_eq_emod_of_nonneg (by omega)]
  unfold modN
  have h3 := Int.emod_nonneg (i.tmod m + m) (show (m : Int) ≠ 0 by omega)
  omega
set_option maxHeartbeats 16000000 in
theorem skippedParts_wrong (a : Option Addr) (ca : Nat) (l0 : List Kk) (r c : ByteArray) (f0 : Nat) (i j : Int) (hl0 : l0.length ≤ maxLen) (hla : l0.length ≤ ca) (hf0 : f0 < 18446744073709551616) (l : List Kk) (hl : l0.take 22 = l) (hr : ¬ rightK l) (w : World) (hp : KSl w a l0) (hF : FirstAt w) (hK : KeysAt w) :
    Calls Tryd.prog 4 #[.slice a l0.length ca, .string r, .string c, .int .u64 (f0 : Int), .int .i64 i, .int .i64 j] w fun e w' => e = .returned (.bool true) ∧ Below w.heap.size w w' := by
  have hll : l.length ≤ 22 := by rw [← hl, List.length_take]; omega
  have hlca : l.length ≤ ca := by rw [← hl, List.length_take]; omega
  have hp1 := hp.take 22
  rw [hl] at hp1
  have hfe := few12_eq a ca l0 hl0 hla
  rw [hl] at hfe
  obtain ⟨f, ef⟩ : ∃ f, f0 % 1000 = f := ⟨_, rfl⟩
  obtain ⟨A, eA⟩ : ∃ A, modN i 6 = A := ⟨_, rfl⟩
  obtain ⟨Bn, eBn⟩ : ∃ Bn, modN j 5 = Bn := ⟨_, rfl⟩
  obtain ⟨t1, ht1, ht1a, ht1b, ht1c⟩ := modN_ex i 6 (by decide) (by decide)
  obtain ⟨t2, ht2, ht2a, ht2b, ht2c⟩ := modN_ex j 5 (by decide) (by decide)
  have hA5 : A < 6 := by rw [← eA]; exact modN_lt i 6 (by decide)
  have hB4 : Bn < 5 := by rw [← eBn]; exact modN_lt j 5 (by decide)
  rw [eA] at ht1c
  rw [eBn] at ht2c
  replace ht1 : i.tmod 6 = t1 := ht1
  replace ht2 : j.tmod 5 = t2 := ht2
  replace ht1c : (t1 + 6).tmod 6 = (A : Int) := ht1c
  replace ht2c : (t2 + 5).tmod 5 = (Bn : Int) := ht2c
  have q0 : (f0 : Int).tmod 1000 = (f : Int) := by rw [Int.tmod_eq_emod_of_nonneg (by omega)]; omega
  have hf1 : f < 1000 := by omega
  have q1 : IntKind.i64.wrap t1 = t1 := IntWalk.i64_in _ (by omega)
  have q2 : IntKind.i64.wrap (t1 + 6) = t1 + 6 := IntWalk.i64_in _ (by omega)
  have q3 : IntKind.i64.wrap (A : Int) = (A : Int) := IntWalk.i64_in _ (by omega)
  have q4 : IntKind.i64.wrap t2 = t2 := IntWalk.i64_in _ (by omega)
  have q5 : IntKind.i64.wrap (t2 + 5) = t2 + 5 := IntWalk.i64_in _ (by omega)
  have q6 : IntKind.i64.wrap (Bn : Int) = (Bn : Int) := IntWalk.i64_in _ (by omega)
  obtain ⟨s, es⟩ : ∃ s, A + Bn = s := ⟨_, rfl⟩
  have hs : (A : Int) + (Bn : Int) = (s : Int) := by omega
  have q7 : IntKind.i64.wrap (s : Int) = (s : Int) := IntWalk.i64_in _ (by omega)
  have q8 : IntKind.u64.wrap (A : Int) = (A : Int) := IntWalk.u64_in _ (by omega)
  have q9 : IntKind.u64.wrap (s : Int) = (s : Int) := IntWalk.u64_in _ (by omega)
  obtain ⟨x1, ex1⟩ : ∃ x1, f + A = x1 := ⟨_, rfl⟩
  obtain ⟨x2, ex2⟩ : ∃ x2, f + s = x2 := ⟨_, rfl⟩
  have hx1 : (f : Int) + (A : Int) = (x1 : Int) := by omega
  have hx2 : (f : Int) + (s : Int) = (x2 : Int) := by omega
  have q10 : IntKind.u64.wrap (x1 : Int) = (x1 : Int) := IntWalk.u64_in _ (by omega)
  have q11 : IntKind.u64.wrap (x2 : Int) = (x2 : Int) := IntWalk.u64_in _ (by omega)
  have q12 : IntKind.u64.wrap (f : Int) = (f : Int) := IntWalk.u64_in _ (by omega)
  have hf2 : f < 18446744073709551616 := by omega
  have hx1l : x1 < 18446744073709551616 := by omega
  have hx2l : x2 < 18446744073709551616 := by omega
  have HKL := Lib.hid hp1; have HF := Lib.hid hF; have HK := Lib.hid hK; have HB := Lib.hid (Below.refl w.heap.size w)
  have hfl1 := fun (W : World) => Fill_any a ca l r c f x1 hll hlca hf2 hx1l W
  have hfl2 := fun (W : World) => Fill_any a ca l r c f x2 hll hlca hf2 hx2l W
  obtain ⟨ua, ub, uc⟩ := fillE_wrong hr r c f x1
  obtain ⟨va, vb, vc⟩ := fillE_wrong hr r c f x2
  rw [ua, ub, uc] at hfl1
  rw [va, vb, vc] at hfl2
  clear hr ua ub uc va vb vc
  have HFL1 := Lib.hid hfl1; have HFL2 := Lib.hid hfl2
  clear hfl1 hfl2
  have HFE := Lib.hid hfe
  clear hfe hp hl hl0 hla hp1 hF hK hll hlca hf0 ef eA eBn hA5 hB4 hf1 es ex1 ex2 hf2 hx1l hx2l
  go_enter Tryd.func4, Tryd.ntmps4
  go_wp2_with fail
  refine (HFE.out _).mono ?_
  rintro e w1 ⟨rfl, rfl⟩
  clear HFE
  go_wp2_with fail
  refine (HFL1.out _ HKL.out HF.out HK.out).mono ?_
  rintro e w2 ⟨a2, c2, rfl, hc2, hk, hb⟩
  have HB2 := Lib.hid (HB.out.trans (hb.mono HB.out.size)); have HKL2 := Lib.hid (HKL.out.on hb); have HF2 := Lib.hid (HF.out.on hb); have HK2 := Lib.hid (HK.out.on hb)
  clear HB HKL HF HK
  have HB := HB2; have HKL := HKL2; have HF := HF2; have HK := HK2
  clear HB2 HKL2 HF2 HK2
  have HK1 := Lib.hid (And.intro hk hc2)
  clear hb hk hc2 HFL1
  go_wp2_with fail
  refine (HFL2.out _ HKL.out HF.out HK.out).mono ?_
  rintro e w3 ⟨a3, c3, rfl, hc3, hk, hb⟩
  have HB2 := Lib.hid (HB.out.trans (hb.mono HB.out.size)); have HKL2 := Lib.hid (HKL.out.on hb); have HF2 := Lib.hid (HF.out.on hb); have HK2 := Lib.hid (HK.out.on hb)
  clear HB HKL HF HK
  have HB := HB2; have HKL := HKL2; have HF := HF2; have HK := HK2
  clear HB2 HKL2 HF2 HK2
  have HK2 := Lib.hid (HK1.out.1.on hb); have HC2 := Lib.hid HK1.out.2; have HK3 := Lib.hid hk
  clear hb hk hc3 HFL2 HK1
  go_wp2_with fail
  refine (alive12_any _).mono ?_
  rintro e w4 ⟨rfl, hb⟩
  have HB2 := Lib.hid (HB.out.trans (hb.mono HB.out.size)); have HKL2 := Lib.hid (HKL.out.on hb); have HF2 := Lib.hid (HF.out.on hb); have HK2 := Lib.hid (HK.out.on hb)
  clear HB HKL HF HK
  have HB := HB2; have HKL := HKL2; have HF := HF2; have HK := HK2
  clear HB2 HKL2 HF2 HK2
  clear hb HK2 HC2 HK3
  go_wp2_with fail
  go_ret
  exact ⟨by first | rfl | simp, HB.out⟩
set_option maxHeartbeats 16000000 in
theorem skippedParts_size (a : Option Addr) (ca : Nat) (l0 : List Kk) (r c : ByteArray) (f0 : Nat) (i j : Int) (hl0 : l0.length ≤ maxLen) (hla : l0.length ≤ ca) (hf0 : f0 < 18446744073709551616) (l : List Kk) (hl : l0.take 22 = l) (hr : rightK l) (hz : ¬ (r.size = 32 ∧ c.size = 32)) (w : World) (hp : KSl w a l0) (hF : FirstAt w) (hK : KeysAt w) :
    Calls Tryd.prog 4 #[.slice a l0.length ca, .string r, .string c, .int .u64 (f0 : Int), .int .i64 i, .int .i64 j] w fun e w' => e = .returned (.bool true) ∧ Below w.heap.size w w' := by
  have hll : l.length ≤ 22 := by rw [← hl, List.length_take]; omega
  have hlca : l.length ≤ ca := by rw [← hl, List.length_take]; omega
  have hp1 := hp.take 22
  rw [hl] at hp1
  have hfe := few12_eq a ca l0 hl0 hla
  rw [hl] at hfe
  obtain ⟨f, ef⟩ : ∃ f, f0 % 1000 = f := ⟨_, rfl⟩
  obtain ⟨A, eA⟩ : ∃ A, modN i 6 = A := ⟨_, rfl⟩
  obtain ⟨Bn, eBn⟩ : ∃ Bn, modN j 5 = Bn := ⟨_, rfl⟩
  obtain ⟨t1, ht1, ht1a, ht1b, ht1c⟩ := modN_ex i 6 (by decide) (by decide)
  obtain ⟨t2, ht2, ht2a, ht2b, ht2c⟩ := modN_ex j 5 (by decide) (by decide)
  have hA5 : A < 6 := by rw [← eA]; exact modN_lt i 6 (by decide)
  have hB4 : Bn < 5 := by rw [← eBn]; exact modN_lt j 5 (by decide)
  rw [eA] at ht1c
  rw [eBn] at ht2c
  replace ht1 : i.tmod 6 = t1 := ht1
  replace ht2 : j.tmod 5 = t2 := ht2
  replace ht1c : (t1 + 6).tmod 6 = (A : Int) := ht1c
  replace ht2c : (t2 + 5).tmod 5 = (Bn : Int) := ht2c
  have q0 : (f0 : Int).tmod 1000 = (f : Int) := by rw [Int.tmod_eq_emod_of_nonneg (by omega)]; omega
  have hf1 : f < 1000 := by omega
  have q1 : IntKind.i64.wrap t1 = t1 := IntWalk.i64_in _ (by omega)
  have q2 : IntKind.i64.wrap (t1 + 6) = t1 + 6 := IntWalk.i64_in _ (by omega)
  have q3 : IntKind.i64.wrap (A : Int) = (A : Int) := IntWalk.i64_in _ (by omega)
  have q4 : IntKind.i64.wrap t2 = t2 := IntWalk.i64_in _ (by omega)
  have q5 : IntKind.i64.wrap (t2 + 5) = t2 + 5 := IntWalk.i64_in _ (by omega)
  have q6 : IntKind.i64.wrap (Bn : Int) = (Bn : Int) := IntWalk.i64_in _ (by omega)
  obtain ⟨s, es⟩ : ∃ s, A + Bn = s := ⟨_, rfl⟩
  have hs : (A : Int) + (Bn : Int) = (s : Int) := by omega
  have q7 : IntKind.i64.wrap (s : Int) = (s : Int) := IntWalk.i64_in _ (by omega)
  have q8 : IntKind.u64.wrap (A : Int) = (A : Int) := IntWalk.u64_in _ (by omega)
  have q9 : IntKind.u64.wrap (s : Int) = (s : Int) := IntWalk.u64_in _ (by omega)
  obtain ⟨x1, ex1⟩ : ∃ x1, f + A = x1 := ⟨_, rfl⟩
  obtain ⟨x2, ex2⟩ : ∃ x2, f + s = x2 := ⟨_, rfl⟩
  have hx1 : (f : Int) + (A : Int) = (x1 : Int) := by omega
  have hx2 : (f : Int) + (s : Int) = (x2 : Int) := by omega
  have q10 : IntKind.u64.wrap (x1 : Int) = (x1 : Int) := IntWalk.u64_in _ (by omega)
  have q11 : IntKind.u64.wrap (x2 : Int) = (x2 : Int) := IntWalk.u64_in _ (by omega)
  have q12 : IntKind.u64.wrap (f : Int) = (f : Int) := IntWalk.u64_in _ (by omega)
  have hf2 : f < 18446744073709551616 := by omega
  have hx1l : x1 < 18446744073709551616 := by omega
  have hx2l : x2 < 18446744073709551616 := by omega
  have HKL := Lib.hid hp1; have HF := Lib.hid hF; have HK := Lib.hid hK; have HB := Lib.hid (Below.refl w.heap.size w)
  have hfl1 := fun (W : World) => Fill_any a ca l r c f x1 hll hlca hf2 hx1l W
  have hfl2 := fun (W : World) => Fill_any a ca l r c f x2 hll hlca hf2 hx2l W
  obtain ⟨ua, ub, uc⟩ := fillE_right hr r c f x1
  obtain ⟨va, vb, vc⟩ := fillE_right hr r c f x2
  obtain ⟨ya, yb, yc⟩ := fill_size (l := l) (f := f) (t := x1) hz
  obtain ⟨za, zb, zc⟩ := fill_size (l := l) (f := f) (t := x2) hz
  rw [ua, ub, uc, ya, yb, yc] at hfl1
  rw [va, vb, vc, za, zb, zc] at hfl2
  clear hr hz ua ub uc va vb vc ya yb yc za zb zc
  have HFL1 := Lib.hid hfl1; have HFL2 := Lib.hid hfl2
  clear hfl1 hfl2
  have HFE := Lib.hid hfe
  clear hfe hp hl hl0 hla hp1 hF hK hll hlca hf0 ef eA eBn hA5 hB4 hf1 es ex1 ex2 hf2 hx1l hx2l
  go_enter Tryd.func4, Tryd.ntmps4
  go_wp2_with fail
  refine (HFE.out _).mono ?_
  rintro e w1 ⟨rfl, rfl⟩
  clear HFE
  go_wp2_with fail
  refine (HFL1.out _ HKL.out HF.out HK.out).mono ?_
  rintro e w2 ⟨a2, c2, rfl, hc2, hk, hb⟩
  have HB2 := Lib.hid (HB.out.trans (hb.mono HB.out.size)); have HKL2 := Lib.hid (HKL.out.on hb); have HF2 := Lib.hid (HF.out.on hb); have HK2 := Lib.hid (HK.out.on hb)
  clear HB HKL HF HK
  have HB := HB2; have HKL := HKL2; have HF := HF2; have HK := HK2
  clear HB2 HKL2 HF2 HK2
  have HK1 := Lib.hid (And.intro hk hc2)
  clear hb hk hc2 HFL1
  go_wp2_with fail
  refine (HFL2.out _ HKL.out HF.out HK.out).mono ?_
  rintro e w3 ⟨a3, c3, rfl, hc3, hk, hb⟩
  have HB2 := Lib.hid (HB.out.trans (hb.mono HB.out.size)); have HKL2 := Lib.hid (HKL.out.on hb); have HF2 := Lib.hid (HF.out.on hb); have HK2 := Lib.hid (HK.out.on hb)
  clear HB HKL HF HK
  have HB := HB2; have HKL := HKL2; have HF := HF2; have HK := HK2
  clear HB2 HKL2 HF2 HK2
  have HK2 := Lib.hid (HK1.out.1.on hb); have HC2 := Lib.hid HK1.out.2; have HK3 := Lib.hid hk
  clear hb hk hc3 HFL2 HK1
  go_wp2_with fail
  refine (alive12_any _).mono ?_
  rintro e w4 ⟨rfl, hb⟩
  have HB2 := Lib.hid (HB.out.trans (hb.mono HB.out.size)); have HKL2 := Lib.hid (HKL.out.on hb); have HF2 := Lib.hid (HF.out.on hb); have HK2 := Lib.hid (HK.out.on hb)
  clear HB HKL HF HK
  have HB := HB2; have HKL := HKL2; have HF := HF2; have HK := HK2
  clear HB2 HKL2 HF2 HK2
  clear hb HK2 HC2 HK3
  go_wp2_with fail
  go_ret
  exact ⟨by first | rfl | simp, HB.out⟩
set_option maxHeartbeats 16000000 in
theorem skippedParts_old2 (a : Option Addr) (ca : Nat) (l0 : List Kk) (r c : ByteArray) (f0 : Nat) (i j : Int) (hl0 : l0.length ≤ maxLen) (hla : l0.length ≤ ca) (hf0 : f0 < 18446744073709551616) (l : List Kk) (hl : l0.take 22 = l) (hr : rightK l) (hz : r.size = 32 ∧ c.size = 32) (hn : ¬ freeK l r (f0 % 1000) (modN i 6)) (hm : ¬ freeK l r (f0 % 1000) (modN i 6 + modN j 5)) (w : World) (hp : KSl w a l0) (hF : FirstAt w) (hK : KeysAt w) :
    Calls Tryd.prog 4 #[.slice a l0.length ca, .string r, .string c, .int .u64 (f0 : Int), .int .i64 i, .int .i64 j] w fun e w' => e = .returned (.bool true) ∧ Below w.heap.size w w' := by
  have hll : l.length ≤ 22 := by rw [← hl, List.length_take]; omega
  have hlca : l.length ≤ ca := by rw [← hl, List.length_take]; omega
  have hp1 := hp.take 22
  rw [hl] at hp1
  have hfe := few12_eq a ca l0 hl0 hla
  rw [hl] at hfe
  obtain ⟨f, ef⟩ : ∃ f, f0 % 1000 = f := ⟨_, rfl⟩
  obtain ⟨A, eA⟩ : ∃ A, modN i 6 = A := ⟨_, rfl⟩
  obtain ⟨Bn, eBn⟩ : ∃ Bn, modN j 5 = Bn := ⟨_, rfl⟩
  obtain ⟨t1, ht1, ht1a, ht1b, ht1c⟩ := modN_ex i 6 (by decide) (by decide)
  obtain ⟨t2, ht2, ht2a, ht2b, ht2c⟩ := modN_ex j 5 (by decide) (by decide)
  have hA5 : A < 6 := by rw [← eA]; exact modN_lt i 6 (by decide)
  have hB4 : Bn < 5 := by rw [← eBn]; exact modN_lt j 5 (by decide)
  rw [eA] at ht1c
  rw [eBn] at ht2c
  replace ht1 : i.tmod 6 = t1 := ht1
  replace ht2 : j.tmod 5 = t2 := ht2
  replace ht1c : (t1 + 6).tmod 6 = (A : Int) := ht1c
  replace ht2c : (t2 + 5).tmod 5 = (Bn : Int) := ht2c
  have q0 : (f0 : Int).tmod 1000 = (f : Int) := by rw [Int.tmod_eq_emod_of_nonneg (by omega)]; omega
  have hf1 : f < 1000 := by omega
  have q1 : IntKind.i64.wrap t1 = t1 := IntWalk.i64_in _ (by omega)
  have q2 : IntKind.i64.wrap (t1 + 6) = t1 + 6 := IntWalk.i64_in _ (by omega)
  have q3 : IntKind.i64.wrap (A : Int) = (A : Int) := IntWalk.i64_in _ (by omega)
  have q4 : IntKind.i64.wrap t2 = t2 := IntWalk.i64_in _ (by omega)
  have q5 : IntKind.i64.wrap (t2 + 5) = t2 + 5 := IntWalk.i64_in _ (by omega)
  have q6 : IntKind.i64.wrap (Bn : Int) = (Bn : Int) := IntWalk.i64_in _ (by omega)
  obtain ⟨s, es⟩ : ∃ s, A + Bn = s := ⟨_, rfl⟩
  have hs : (A : Int) + (Bn : Int) = (s : Int) := by omega
  have q7 : IntKind.i64.wrap (s : Int) = (s : Int) := IntWalk.i64_in _ (by omega)
  have q8 : IntKind.u64.wrap (A : Int) = (A : Int) := IntWalk.u64_in _ (by omega)
  have q9 : IntKind.u64.wrap (s : Int) = (s : Int) := IntWalk.u64_in _ (by omega)
  obtain ⟨x1, ex1⟩ : ∃ x1, f + A = x1 := ⟨_, rfl⟩
  obtain ⟨x2, ex2⟩ : ∃ x2, f + s = x2 := ⟨_, rfl⟩
  have hx1 : (f : Int) + (A : Int) = (x1 : Int) := by omega
  have hx2 : (f : Int) + (s : Int) = (x2 : Int) := by omega
  have q10 : IntKind.u64.wrap (x1 : Int) = (x1 : Int) := IntWalk.u64_in _ (by omega)
  have q11 : IntKind.u64.wrap (x2 : Int) = (x2 : Int) := IntWalk.u64_in _ (by omega)
  have q12 : IntKind.u64.wrap (f : Int) = (f : Int) := IntWalk.u64_in _ (by omega)
  have hf2 : f < 18446744073709551616 := by omega
  have hx1l : x1 < 18446744073709551616 := by omega
  have hx2l : x2 < 18446744073709551616 := by omega
  have HKL := Lib.hid hp1; have HF := Lib.hid hF; have HK := Lib.hid hK; have HB := Lib.hid (Below.refl w.heap.size w)
  have hfl1 := fun (W : World) => Fill_any a ca l r c f x1 hll hlca hf2 hx1l W
  have hfl2 := fun (W : World) => Fill_any a ca l r c f x2 hll hlca hf2 hx2l W
  rw [ef, eA] at hn
  rw [ef, eA, eBn, es] at hm
  obtain ⟨ua, ub, uc⟩ := fillE_right hr r c f x1
  obtain ⟨va, vb, vc⟩ := fillE_right hr r c f x2
  obtain ⟨ya, yb, yc⟩ := fill_old (l := l) (f := f) (t := x1) hz ⟨by omega, by omega⟩ (by rw [show x1 - f = A by omega]; exact hn)
  obtain ⟨za, zb, zc⟩ := fill_old (l := l) (f := f) (t := x2) hz ⟨by omega, by omega⟩ (by rw [show x2 - f = s by omega]; exact hm)
  rw [ua, ub, uc, ya, yb, yc] at hfl1
  rw [va, vb, vc, za, zb, zc] at hfl2
  clear hr hz hn hm ua ub uc va vb vc ya yb yc za zb zc
  have HFL1 := Lib.hid hfl1; have HFL2 := Lib.hid hfl2
  clear hfl1 hfl2
  have HFE := Lib.hid hfe
  clear hfe hp hl hl0 hla hp1 hF hK hll hlca hf0 ef eA eBn hA5 hB4 hf1 es ex1 ex2 hf2 hx1l hx2l
  go_enter Tryd.func4, Tryd.ntmps4
  go_wp2_with fail
  refine (HFE.out _).mono ?_
  rintro e w1 ⟨rfl, rfl⟩
  clear HFE
  go_wp2_with fail
  refine (HFL1.out _ HKL.out HF.out HK.out).mono ?_
  rintro e w2 ⟨a2, c2, rfl, hc2, hk, hb⟩
  have HB2 := Lib.hid (HB.out.trans (hb.mono HB.out.size)); have HKL2 := Lib.hid (HKL.out.on hb); have HF2 := Lib.hid (HF.out.on hb); have HK2 := Lib.hid (HK.out.on hb)
  clear HB HKL HF HK
  have HB := HB2; have HKL := HKL2; have HF := HF2; have HK := HK2
  clear HB2 HKL2 HF2 HK2
  have HK1 := Lib.hid (And.intro hk hc2)
  clear hb hk hc2 HFL1
  go_wp2_with fail
  refine (HFL2.out _ HKL.out HF.out HK.out).mono ?_
  rintro e w3 ⟨a3, c3, rfl, hc3, hk, hb⟩
  have HB2 := Lib.hid (HB.out.trans (hb.mono HB.out.size)); have HKL2 := Lib.hid (HKL.out.on hb); have HF2 := Lib.hid (HF.out.on hb); have HK2 := Lib.hid (HK.out.on hb)
  clear HB HKL HF HK
  have HB := HB2; have HKL := HKL2; have HF := HF2; have HK := HK2
  clear HB2 HKL2 HF2 HK2
  have HK2 := Lib.hid (HK1.out.1.on hb); have HC2 := Lib.hid HK1.out.2; have HK3 := Lib.hid hk
  clear hb hk hc3 HFL2 HK1
  go_wp2_with fail
  refine (alive12_any _).mono ?_
  rintro e w4 ⟨rfl, hb⟩
  have HB2 := Lib.hid (HB.out.trans (hb.mono HB.out.size)); have HKL2 := Lib.hid (HKL.out.on hb); have HF2 := Lib.hid (HF.out.on hb); have HK2 := Lib.hid (HK.out.on hb)
  clear HB HKL HF HK
  have HB := HB2; have HKL := HKL2; have HF := HF2; have HK := HK2
  clear HB2 HKL2 HF2 HK2
  clear hb HK2 HC2 HK3
  go_wp2_with fail
  go_ret
  exact ⟨by first | rfl | simp, HB.out⟩
set_option maxHeartbeats 16000000 in
theorem skippedParts_old1 (a : Option Addr) (ca : Nat) (l0 : List Kk) (r c : ByteArray) (f0 : Nat) (i j : Int) (hl0 : l0.length ≤ maxLen) (hla : l0.length ≤ ca) (hf0 : f0 < 18446744073709551616) (l : List Kk) (hl : l0.take 22 = l) (hr : rightK l) (hz : r.size = 32 ∧ c.size = 32) (hn : freeK l r (f0 % 1000) (modN i 6)) (hm : ¬ freeK l r (f0 % 1000) (modN i 6 + modN j 5)) (w : World) (hp : KSl w a l0) (hF : FirstAt w) (hK : KeysAt w) :
    Calls Tryd.prog 4 #[.slice a l0.length ca, .string r, .string c, .int .u64 (f0 : Int), .int .i64 i, .int .i64 j] w fun e w' => e = .returned (.bool true) ∧ Below w.heap.size w w' := by
  have hll : l.length ≤ 22 := by rw [← hl, List.length_take]; omega
  have hlca : l.length ≤ ca := by rw [← hl, List.length_take]; omega
  have hp1 := hp.take 22
  rw [hl] at hp1
  have hfe := few12_eq a ca l0 hl0 hla
  rw [hl] at hfe
  obtain ⟨f, ef⟩ : ∃ f, f0 % 1000 = f := ⟨_, rfl⟩
  obtain ⟨A, eA⟩ : ∃ A, modN i 6 = A := ⟨_, rfl⟩
  obtain ⟨Bn, eBn⟩ : ∃ Bn, modN j 5 = Bn := ⟨_, rfl⟩
  obtain ⟨t1, ht1, ht1a, ht1b, ht1c⟩ := modN_ex i 6 (by decide) (by decide)
  obtain ⟨t2, ht2, ht2a, ht2b, ht2c⟩ := modN_ex j 5 (by decide) (by decide)
  have hA5 : A < 6 := by rw [← eA]; exact modN_lt i 6 (by decide)
  have hB4 : Bn < 5 := by rw [← eBn]; exact modN_lt j 5 (by decide)
  rw [eA] at ht1c
  rw [eBn] at ht2c
  replace ht1 : i.tmod 6 = t1 := ht1
  replace ht2 : j.tmod 5 = t2 := ht2
  replace ht1c : (t1 + 6).tmod 6 = (A : Int) := ht1c
  replace ht2c : (t2 + 5).tmod 5 = (Bn : Int) := ht2c
  have q0 : (f0 : Int).tmod 1000 = (f : Int) := by rw [Int.tmod_eq_emod_of_nonneg (by omega)]; omega
  have hf1 : f < 1000 := by omega
  have q1 : IntKind.i64.wrap t1 = t1 := IntWalk.i64_in _ (by omega)
  have q2 : IntKind.i64.wrap (t1 + 6) = t1 + 6 := IntWalk.i64_in _ (by omega)
  have q3 : IntKind.i64.wrap (A : Int) = (A : Int) := IntWalk.i64_in _ (by omega)
  have q4 : IntKind.i64.wrap t2 = t2 := IntWalk.i64_in _ (by omega)
  have q5 : IntKind.i64.wrap (t2 + 5) = t2 + 5 := IntWalk.i64_in _ (by omega)
  have q6 : IntKind.i64.wrap (Bn : Int) = (Bn : Int) := IntWalk.i64_in _ (by omega)
  obtain ⟨s, es⟩ : ∃ s, A + Bn = s := ⟨_, rfl⟩
  have hs : (A : Int) + (Bn : Int) = (s : Int) := by omega
  have q7 : IntKind.i64.wrap (s : Int) = (s : Int) := IntWalk.i64_in _ (by omega)
  have q8 : IntKind.u64.wrap (A : Int) = (A : Int) := IntWalk.u64_in _ (by omega)
  have q9 : IntKind.u64.wrap (s : Int) = (s : Int) := IntWalk.u64_in _ (by omega)
  obtain ⟨x1, ex1⟩ : ∃ x1, f + A = x1 := ⟨_, rfl⟩
  obtain ⟨x2, ex2⟩ : ∃ x2, f + s = x2 := ⟨_, rfl⟩
  have hx1 : (f : Int) + (A : Int) = (x1 : Int) := by omega
  have hx2 : (f : Int) + (s : Int) = (x2 : Int) := by omega
  have q10 : IntKind.u64.wrap (x1 : Int) = (x1 : Int) := IntWalk.u64_in _ (by omega)
  have q11 : IntKind.u64.wrap (x2 : Int) = (x2 : Int) := IntWalk.u64_in _ (by omega)
  have q12 : IntKind.u64.wrap (f : Int) = (f : Int) := IntWalk.u64_in _ (by omega)
  have hf2 : f < 18446744073709551616 := by omega
  have hx1l : x1 < 18446744073709551616 := by omega
  have hx2l : x2 < 18446744073709551616 := by omega
  have HKL := Lib.hid hp1; have HF := Lib.hid hF; have HK := Lib.hid hK; have HB := Lib.hid (Below.refl w.heap.size w)
  have hfl1 := fun (W : World) => Fill_any a ca l r c f x1 hll hlca hf2 hx1l W
  have hfl2 := fun (W : World) => Fill_any a ca l r c f x2 hll hlca hf2 hx2l W
  rw [ef, eA] at hn
  rw [ef, eA, eBn, es] at hm
  obtain ⟨ua, ub, uc⟩ := fillE_right hr r c f x1
  obtain ⟨va, vb, vc⟩ := fillE_right hr r c f x2
  obtain ⟨ya, yb, yc⟩ := fill_good (l := l) (f := f) (t := x1) hz ⟨by omega, by omega⟩ (by rw [show x1 - f = A by omega]; exact hn)
  obtain ⟨za, zb, zc⟩ := fill_old (l := l) (f := f) (t := x2) hz ⟨by omega, by omega⟩ (by rw [show x2 - f = s by omega]; exact hm)
  rw [ua, ub, uc, ya, yb, yc] at hfl1
  rw [va, vb, vc, za, zb, zc] at hfl2
  clear hr hz hn hm ua ub uc va vb vc ya yb yc za zb zc
  have HFL1 := Lib.hid hfl1; have HFL2 := Lib.hid hfl2
  clear hfl1 hfl2
  have HFE := Lib.hid hfe
  clear hfe hp hl hl0 hla hp1 hF hK hll hlca hf0 ef eA eBn hA5 hB4 hf1 es ex1 ex2 hf2 hx1l hx2l
  go_enter Tryd.func4, Tryd.ntmps4
  go_wp2_with fail
  refine (HFE.out _).mono ?_
  rintro e w1 ⟨rfl, rfl⟩
  clear HFE
  go_wp2_with fail
  refine (HFL1.out _ HKL.out HF.out HK.out).mono ?_
  rintro e w2 ⟨a2, c2, rfl, hc2, hk, hb⟩
  have HB2 := Lib.hid (HB.out.trans (hb.mono HB.out.size)); have HKL2 := Lib.hid (HKL.out.on hb); have HF2 := Lib.hid (HF.out.on hb); have HK2 := Lib.hid (HK.out.on hb)
  clear HB HKL HF HK
  have HB := HB2; have HKL := HKL2; have HF := HF2; have HK := HK2
  clear HB2 HKL2 HF2 HK2
  have HK1 := Lib.hid (And.intro hk hc2)
  clear hb hk hc2 HFL1
  go_wp2_with fail
  refine (HFL2.out _ HKL.out HF.out HK.out).mono ?_
  rintro e w3 ⟨a3, c3, rfl, hc3, hk, hb⟩
  have HB2 := Lib.hid (HB.out.trans (hb.mono HB.out.size)); have HKL2 := Lib.hid (HKL.out.on hb); have HF2 := Lib.hid (HF.out.on hb); have HK2 := Lib.hid (HK.out.on hb)
  clear HB HKL HF HK
  have HB := HB2; have HKL := HKL2; have HF := HF2; have HK := HK2
  clear HB2 HKL2 HF2 HK2
  have HK2 := Lib.hid (HK1.out.1.on hb); have HC2 := Lib.hid HK1.out.2; have HK3 := Lib.hid hk
  clear hb hk hc3 HFL2 HK1
  go_wp2_with fail
  refine (alive12_any _).mono ?_
  rintro e w4 ⟨rfl, hb⟩
  have HB2 := Lib.hid (HB.out.trans (hb.mono HB.out.size)); have HKL2 := Lib.hid (HKL.out.on hb); have HF2 := Lib.hid (HF.out.on hb); have HK2 := Lib.hid (HK.out.on hb)
  clear HB HKL HF HK
  have HB := HB2; have HKL := HKL2; have HF := HF2; have HK := HK2
  clear HB2 HKL2 HF2 HK2
  clear hb HK2 HC2 HK3
  go_wp2_with fail
  go_ret
  exact ⟨by first | rfl | simp, HB.out⟩
set_option maxHeartbeats 16000000 in
theorem skippedParts_good (a : Option Addr) (ca : Nat) (l0 : List Kk) (r c : ByteArray) (f0 : Nat) (i j : Int) (hl0 : l0.length ≤ maxLen) (hla : l0.length ≤ ca) (hf0 : f0 < 18446744073709551616) (l : List Kk) (hl : l0.take 22 = l) (hr : rightK l) (hz : r.size = 32 ∧ c.size = 32) (hm : freeK l r (f0 % 1000) (modN i 6 + modN j 5)) (w : World) (hp : KSl w a l0) (hF : FirstAt w) (hK : KeysAt w) :
    Calls Tryd.prog 4 #[.slice a l0.length ca, .string r, .string c, .int .u64 (f0 : Int), .int .i64 i, .int .i64 j] w fun e w' => e = .returned (.bool true) ∧ Below w.heap.size w w' := by
  have hll : l.length ≤ 22 := by rw [← hl, List.length_take]; omega
  have hlca : l.length ≤ ca := by rw [← hl, List.length_take]; omega
  have hp1 := hp.take 22
  rw [hl] at hp1
  have hfe := few12_eq a ca l0 hl0 hla
  rw [hl] at hfe
  obtain ⟨f, ef⟩ : ∃ f, f0 % 1000 = f := ⟨_, rfl⟩
  obtain ⟨A, eA⟩ : ∃ A, modN i 6 = A := ⟨_, rfl⟩
  obtain ⟨Bn, eBn⟩ : ∃ Bn, modN j 5 = Bn := ⟨_, rfl⟩
  obtain ⟨t1, ht1, ht1a, ht1b, ht1c⟩ := modN_ex i 6 (by decide) (by decide)
  obtain ⟨t2, ht2, ht2a, ht2b, ht2c⟩ := modN_ex j 5 (by decide) (by decide)
  have hA5 : A < 6 := by rw [← eA]; exact modN_lt i 6 (by decide)
  have hB4 : Bn < 5 := by rw [← eBn]; exact modN_lt j 5 (by decide)
  rw [eA] at ht1c
  rw [eBn] at ht2c
  replace ht1 : i.tmod 6 = t1 := ht1
  replace ht2 : j.tmod 5 = t2 := ht2
  replace ht1c : (t1 + 6).tmod 6 = (A : Int) := ht1c
  replace ht2c : (t2 + 5).tmod 5 = (Bn : Int) := ht2c
  have q0 : (f0 : Int).tmod 1000 = (f : Int) := by rw [Int.tmod_eq_emod_of_nonneg (by omega)]; omega
  have hf1 : f < 1000 := by omega
  have q1 : IntKind.i64.wrap t1 = t1 := IntWalk.i64_in _ (by omega)
  have q2 : IntKind.i64.wrap (t1 + 6) = t1 + 6 := IntWalk.i64_in _ (by omega)
  have q3 : IntKind.i64.wrap (A : Int) = (A : Int) := IntWalk.i64_in _ (by omega)
  have q4 : IntKind.i64.wrap t2 = t2 := IntWalk.i64_in _ (by omega)
  have q5 : IntKind.i64.wrap (t2 + 5) = t2 + 5 := IntWalk.i64_in _ (by omega)
  have q6 : IntKind.i64.wrap (Bn : Int) = (Bn : Int) := IntWalk.i64_in _ (by omega)
  obtain ⟨s, es⟩ : ∃ s, A + Bn = s := ⟨_, rfl⟩
  have hs : (A : Int) + (Bn : Int) = (s : Int) := by omega
  have q7 : IntKind.i64.wrap (s : Int) = (s : Int) := IntWalk.i64_in _ (by omega)
  have q8 : IntKind.u64.wrap (A : Int) = (A : Int) := IntWalk.u64_in _ (by omega)
  have q9 : IntKind.u64.wrap (s : Int) = (s : Int) := IntWalk.u64_in _ (by omega)
  obtain ⟨x1, ex1⟩ : ∃ x1, f + A = x1 := ⟨_, rfl⟩
  obtain ⟨x2, ex2⟩ : ∃ x2, f + s = x2 := ⟨_, rfl⟩
  have hx1 : (f : Int) + (A : Int) = (x1 : Int) := by omega
  have hx2 : (f : Int) + (s : Int) = (x2 : Int) := by omega
  have q10 : IntKind.u64.wrap (x1 : Int) = (x1 : Int) := IntWalk.u64_in _ (by omega)
  have q11 : IntKind.u64.wrap (x2 : Int) = (x2 : Int) := IntWalk.u64_in _ (by omega)
  have q12 : IntKind.u64.wrap (f : Int) = (f : Int) := IntWalk.u64_in _ (by omega)
  have hf2 : f < 18446744073709551616 := by omega
  have hx1l : x1 < 18446744073709551616 := by omega
  have hx2l : x2 < 18446744073709551616 := by omega
  have HKL := Lib.hid hp1; have HF := Lib.hid hF; have HK := Lib.hid hK; have HB := Lib.hid (Below.refl w.heap.size w)
  have hfl1 := fun (W : World) => Fill_any a ca l r c f x1 hll hlca hf2 hx1l W
  have hfl2 := fun (W : World) => Fill_any a ca l r c f x2 hll hlca hf2 hx2l W
  rw [ef, eA, eBn] at hm
  have hn : freeK l r f A := fun k hk => hm k (by omega)
  have hr1 := rightK_fill (c := c) hr hz.1 hn
  have hm2 := freeK_fill (c := c) hm
  have hr3 := rightK_fill (c := c) hr hz.1 hm
  have hadd := fillK_add l r c f A Bn
  have hrun := runC_add c A Bn
  have hcz := runC_size c hz.2 A
  obtain ⟨ua, ub, uc⟩ := fillE_right hr r c f x1
  obtain ⟨va, vb, vc⟩ := fillE_right hr r c f x2
  obtain ⟨ya, yb, yc⟩ := fill_good (l := l) (f := f) (t := x1) hz ⟨by omega, by omega⟩ (by rw [show x1 - f = A by omega]; exact hn)
  obtain ⟨za, zb, zc⟩ := fill_good (l := l) (f := f) (t := x2) hz ⟨by omega, by omega⟩ (by rw [show x2 - f = A + Bn by omega]; exact hm)
  rw [show x1 - f = A by omega] at yb yc
  rw [show x2 - f = A + Bn by omega] at zb zc
  obtain ⟨pa, pb, pc⟩ := fillE_right hr1 r (runC c A) x1 x2
  obtain ⟨oa, ob, oc⟩ := fill_good (l := fillK l r c f A) (f := x1) (t := x2) ⟨hz.1, hcz⟩ ⟨by omega, by omega⟩ (by rw [show x2 - x1 = Bn by omega, ← ex1]; exact hm2)
  rw [show x2 - x1 = Bn by omega, ← ex1, ← hadd] at ob
  rw [show x2 - x1 = Bn by omega, ← hrun] at oc
  rw [ex1] at ob
  have hT1 := fillK_length l r c f A hll
  have hT2 := fillK_length l r c f (A + Bn) hll
  have hfl3 := fun (x : Option Addr) (k : Nat) (hk : (fillK l r c f A).length ≤ k) (W : World) => Fill_any x k (fillK l r c f A) r (runC c A) x1 x2 hT1 hk hx1l hx2l W
  rw [ua, ub, uc, ya, yb, yc] at hfl1
  rw [va, vb, vc, za, zb, zc] at hfl2
  rw [pa, pb, pc, oa, ob, oc] at hfl3
  obtain ⟨T1, eT1⟩ : ∃ T, fillK l r c f A = T := ⟨_, rfl⟩
  obtain ⟨T2, eT2⟩ : ∃ T, fillK l r c f (A + Bn) = T := ⟨_, rfl⟩
  obtain ⟨C1, eC1⟩ : ∃ C, runC c A = C := ⟨_, rfl⟩
  obtain ⟨C2, eC2⟩ : ∃ C, runC c (A + Bn) = C := ⟨_, rfl⟩
  simp only [eT1, eT2, eC1, eC2] at hfl1 hfl2 hfl3
  rw [eT2] at hr3 hT2
  have hSM := fun (x y : Option Addr) (c c' : Nat) (W : World) => sameR_any x y c c' T2 T2 (by omega) W
  rw [decide_eq_true rfl] at hSM
  have hRT := fun (x : Option Addr) (c : Nat) (hc : T2.length ≤ c) (W : World) => Right_any x c T2 (by omega) hc W
  rw [decide_eq_true hr3] at hRT
  have HFL1 := Lib.hid hfl1; have HFL2 := Lib.hid hfl2; have HFL3 := Lib.hid hfl3; have HSM := Lib.hid hSM; have HRT := Lib.hid hRT
  clear hfl1 hfl2 hfl3 hSM hRT hm hn hr hz hr1 hm2 hr3 hadd hrun hcz hT1 hT2 ua ub uc va vb vc ya yb yc za zb zc pa pb pc oa ob oc eT1 eT2 eC1 eC2
  have HFE := Lib.hid hfe
  clear hfe hp hl hl0 hla hp1 hF hK hll hlca hf0 ef eA eBn hA5 hB4 hf1 es ex1 ex2 hf2 hx1l hx2l
  go_enter Tryd.func4, Tryd.ntmps4
  go_wp2_with fail
  refine (HFE.out _).mono ?_
  rintro e w1 ⟨rfl, rfl⟩
  clear HFE
  go_wp2_with fail
  refine (HFL1.out _ HKL.out HF.out HK.out).mono ?_
  rintro e w2 ⟨a2, c2, rfl, hc2, hk, hb⟩
  have HB2 := Lib.hid (HB.out.trans (hb.mono HB.out.size)); have HKL2 := Lib.hid (HKL.out.on hb); have HF2 := Lib.hid (HF.out.on hb); have HK2 := Lib.hid (HK.out.on hb)
  clear HB HKL HF HK
  have HB := HB2; have HKL := HKL2; have HF := HF2; have HK := HK2
  clear HB2 HKL2 HF2 HK2
  have HK1 := Lib.hid (And.intro hk hc2)
  clear hb hk hc2 HFL1
  go_wp2_with fail
  refine (HFL2.out _ HKL.out HF.out HK.out).mono ?_
  rintro e w3 ⟨a3, c3, rfl, hc3, hk, hb⟩
  have HB2 := Lib.hid (HB.out.trans (hb.mono HB.out.size)); have HKL2 := Lib.hid (HKL.out.on hb); have HF2 := Lib.hid (HF.out.on hb); have HK2 := Lib.hid (HK.out.on hb)
  clear HB HKL HF HK
  have HB := HB2; have HKL := HKL2; have HF := HF2; have HK := HK2
  clear HB2 HKL2 HF2 HK2
  have HK2 := Lib.hid (HK1.out.1.on hb); have HC2 := Lib.hid HK1.out.2; have HK3 := Lib.hid hk
  clear hb hk hc3 HFL2 HK1
  go_wp2_with fail
  refine (HFL3.out a2 c2 HC2.out _ HK2.out HF.out HK.out).mono ?_
  rintro e w4 ⟨a4, c4, rfl, hc4, hk, hb⟩
  have HB2 := Lib.hid (HB.out.trans (hb.mono HB.out.size)); have HKL2 := Lib.hid (HKL.out.on hb); have HF2 := Lib.hid (HF.out.on hb); have HK2 := Lib.hid (HK.out.on hb)
  clear HB HKL HF HK
  have HB := HB2; have HKL := HKL2; have HF := HF2; have HK := HK2
  clear HB2 HKL2 HF2 HK2
  have HK5 := Lib.hid (HK3.out.on hb); have HK4 := Lib.hid (And.intro hk hc4)
  clear hb hk hc4 HFL3 HK2 HC2 HK3
  go_wp2_with fail
  refine (alive12_any _).mono ?_
  rintro e w5 ⟨rfl, hb⟩
  have HB2 := Lib.hid (HB.out.trans (hb.mono HB.out.size)); have HKL2 := Lib.hid (HKL.out.on hb); have HF2 := Lib.hid (HF.out.on hb); have HK2 := Lib.hid (HK.out.on hb)
  clear HB HKL HF HK
  have HB := HB2; have HKL := HKL2; have HF := HF2; have HK := HK2
  clear HB2 HKL2 HF2 HK2
  have HK6 := Lib.hid (HK5.out.on hb); have HK7 := Lib.hid (HK4.out.1.on hb); have HC4 := Lib.hid HK4.out.2
  clear hb HK5 HK4
  go_wp2_with fail
  refine (HSM.out _ _ _ _ _ HK7.out HK6.out).mono ?_
  rintro e w6 ⟨rfl, hb⟩
  have HB2 := Lib.hid (HB.out.trans (hb.mono HB.out.size)); have HKL2 := Lib.hid (HKL.out.on hb); have HF2 := Lib.hid (HF.out.on hb); have HK2 := Lib.hid (HK.out.on hb)
  clear HB HKL HF HK
  have HB := HB2; have HKL := HKL2; have HF := HF2; have HK := HK2
  clear HB2 HKL2 HF2 HK2
  have HK8 := Lib.hid (HK7.out.on hb)
  clear hb HK6 HK7 HSM
  go_wp2_with fail
  refine (HRT.out _ _ HC4.out _ HK8.out).mono ?_
  rintro e w7 ⟨rfl, hb⟩
  have HB2 := Lib.hid (HB.out.trans (hb.mono HB.out.size)); have HKL2 := Lib.hid (HKL.out.on hb); have HF2 := Lib.hid (HF.out.on hb); have HK2 := Lib.hid (HK.out.on hb)
  clear HB HKL HF HK
  have HB := HB2; have HKL := HKL2; have HF := HF2; have HK := HK2
  clear HB2 HKL2 HF2 HK2
  clear hb HK8 HRT
  go_wp2_with fail
  go_ret
  exact ⟨by first | rfl | simp, HB.out⟩
theorem skippedParts_any (a : Option Addr) (ca : Nat) (l0 : List Kk) (r c : ByteArray) (f0 : Nat) (i j : Int) (hl0 : l0.length ≤ maxLen) (hla : l0.length ≤ ca) (hf0 : f0 < 18446744073709551616) (w : World) (hp : KSl w a l0) (hF : FirstAt w) (hK : KeysAt w) :
    Calls Tryd.prog 4 #[.slice a l0.length ca, .string r, .string c, .int .u64 (f0 : Int), .int .i64 i, .int .i64 j] w fun e w' => e = .returned (.bool true) ∧ Below w.heap.size w w' := by
  by_cases hr : rightK (l0.take 22)
  · by_cases hz : r.size = 32 ∧ c.size = 32
    · by_cases hm : freeK (l0.take 22) r (f0 % 1000) (modN i 6 + modN j 5)
      · exact skippedParts_good a ca l0 r c f0 i j hl0 hla hf0 _ rfl hr hz hm w hp hF hK
      · by_cases hn : freeK (l0.take 22) r (f0 % 1000) (modN i 6)
        · exact skippedParts_old1 a ca l0 r c f0 i j hl0 hla hf0 _ rfl hr hz hn hm w hp hF hK
        · exact skippedParts_old2 a ca l0 r c f0 i j hl0 hla hf0 _ rfl hr hz hn hm w hp hF hK
    · exact skippedParts_size a ca l0 r c f0 i j hl0 hla hf0 _ rfl hr hz w hp hF hK
  · exact skippedParts_wrong a ca l0 r c f0 i j hl0 hla hf0 _ rfl hr w hp hF hK
end Go.Proofs.YtfkfadcfafbmmaaDoor
