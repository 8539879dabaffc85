/- ChainGoes: so many steps, and then others, are as many at once; one is the chain's step. -/
import Derived.Test.YtolobdeilfgmnaaDoorVh
import Derived.Test.YtolobdeilfgmnaaDoorVe
import Derived.Test.YtolobdeilfgmnaaDoorUy
namespace Go.Proofs.YtolobdeilfgmnaaDoor
open Go.RowKit
set_option maxRecDepth 100000

theorem mod9_ex (i : Int) : ∃ (t : Int) (n : Nat), i.tmod 9 = t ∧ -9 ≤ t ∧ t ≤ 9 ∧ 0 ≤ t + 9 ∧ (t + 9).tmod 9 = (n : Int) ∧ (t + 9) % 9 = (n : Int) ∧ n ≤ 8 := by
  have h1 : -9 < i.tmod 9 := by have := Int.lt_tmod_of_pos i (show (0 : Int) < 9 by decide); omega
  have h2 : i.tmod 9 < 9 := Int.tmod_lt_of_pos i (by decide)
  have e : (i.tmod 9 + 9).tmod 9 = (i.tmod 9 + 9) % 9 := Int.tmod_eq_emod_of_nonneg (by omega)
  exact ⟨i.tmod 9, ((i.tmod 9 + 9) % 9).toNat, rfl, by omega, by omega, by omega, by rw [e]; omega, by omega, by omega⟩
set_option maxHeartbeats 16000000 in
theorem chainGoes_any (c : ByteArray) (i j : Int) (hc : c.size ≤ maxLen) (w : World) (hF : FirstAt w) (hK : KeysAt w) :
    Calls Tryd.prog 5 #[.string c, .int .i64 i, .int .i64 j] w fun e w' => e = .returned (.bool true) ∧ Below w.heap.size w w' := by
  have hc1 := cut10_any c hc
  obtain ⟨s, es⟩ : ∃ s, cutS c 40 = s := ⟨_, rfl⟩
  rw [es] at hc1
  have HC1 := Lib.hid hc1
  have HF := Lib.hid hF; have HK := Lib.hid hK; have HB := Lib.hid (Below.refl w.heap.size w)
  obtain ⟨t1, a, ht1, ht2, ht3, ht4, ht5, ht6, ha⟩ := mod9_ex i
  obtain ⟨t2, b, hu1, hu2, hu3, hu4, hu5, hu6, hb⟩ := mod9_ex j
  have q1 : IntKind.i64.wrap t1 = t1 := IntWalk.i64_in _ (by omega)
  have q2 : IntKind.i64.wrap (t1 + 9) = t1 + 9 := IntWalk.i64_in _ (by omega)
  have q3 : IntKind.i64.wrap (a : Int) = (a : Int) := IntWalk.i64_in _ (by omega)
  have q4 : IntKind.i64.wrap t2 = t2 := IntWalk.i64_in _ (by omega)
  have q5 : IntKind.i64.wrap (t2 + 9) = t2 + 9 := IntWalk.i64_in _ (by omega)
  have q6 : IntKind.i64.wrap (b : Int) = (b : Int) := IntWalk.i64_in _ (by omega)
  obtain ⟨m, em⟩ : ∃ m : Nat, a + b = m := ⟨_, rfl⟩
  have hm : (a : Int) + (b : Int) = (m : Int) := by omega
  have q7 : IntKind.i64.wrap (m : Int) = (m : Int) := IntWalk.i64_in _ (by omega)
  have HAB := Lib.hid (And.intro ha (And.intro hb em))
  clear hc1 es hc hF hK ha hb em
  go_enter Tryd.func5, Tryd.ntmps5
  go_wp2_with fail
  refine (HC1.out _).mono ?_
  rintro e w1 ⟨rfl, rfl⟩
  clear HC1
  by_cases hc : s.size = 32
  case neg =>
    have bn : ((s.size : Int) != 32) = true := by rw [bne, Bool.not_eq_true']; rw [Bool.eq_false_iff]; intro h; rw [beq_iff_eq] at h; omega
    have HR := Lib.hid (Run_bad s (a : Int) (fun h => hc h.1))
    clear hc
    go_upto_region 3 with fail
    clear ht1 ht2 ht3 ht4 ht5 ht6 hu1 hu2 hu3 hu4 hu5 hu6 q1 q2 q3 q4 q5 q6 q7 hm
    go_wp2_with fail
    refine (HR.out _).mono ?_
    rintro e w2 ⟨rfl, hb⟩
    have HF := Lib.hid (HF.out.on hb); have HK := Lib.hid (HK.out.on hb); have HB := Lib.hid (HB.out.trans (hb.mono HB.out.size))
    clear hb HR
    go_wp2_with fail
    refine (alive10_any _ HF.out HK.out).mono ?_
    rintro e w3 ⟨rfl, hb⟩
    have HB := Lib.hid (HB.out.trans (hb.mono HB.out.size))
    clear hb
    go_wp2_with fail
    go_ret
    exact ⟨by first | rfl | simp, HB.out⟩
  case pos =>
    obtain ⟨ha, hb, em⟩ := HAB.out
    have hR1 := Run_good s hc a (by omega)
    have hR2 := Run_good (runC s a) (runC_size s hc a) b (by omega)
    have hR3 := Run_good s hc m (by omega)
    have hR4 := Run_good s hc 1 (by omega)
    have hS := Step_good s hc
    rw [← em, runC_add, runK_add] at hR3
    rw [em] at hR3
    rw [show runC s 1 = spA s stWord from rfl, show runK s 1 = [spB s stWord] from rfl] at hR4
    have hL1 := runK_length s a
    have hL2 := runK_length (runC s a) b
    generalize spA s stWord = X at hS hR4
    generalize spB s stWord = Y at hS hR4
    generalize runC (runC s a) b = C2 at hR2 hR3
    generalize runK (runC s a) b = L2 at hR2 hR3 hL2
    generalize runC s a = C1 at hR1 hR2
    generalize runK s a = L1 at hR1 hR3 hL1
    obtain ⟨M, eM⟩ : ∃ M, L1 ++ L2 = M := ⟨_, rfl⟩
    have hML : M.length ≤ 16 := by rw [← eM, List.length_append]; omega
    rw [eM] at hR3
    have HM := Lib.hid (And.intro eM hML)
    have HR1 := Lib.hid hR1; have HR2 := Lib.hid hR2; have HR3 := Lib.hid hR3; have HR4 := Lib.hid hR4; have HS := Lib.hid hS
    have HL := Lib.hid (And.intro (show L1.length ≤ 100 by omega) (show L2.length ≤ 100 by omega))
    have b3 : ((L1.length : Int) == (a : Int)) = true := by rw [hL1]; simp
    clear hR1 hR2 hR3 hR4 hS hL1 hL2 hc ha hb em eM hML
    go_upto_region 3 with fail
    clear ht1 ht2 ht3 ht4 ht5 ht6 hu1 hu2 hu3 hu4 hu5 hu6 q1 q2 q3 q4 q5 q6
    go_wp2_with fail
    refine (HR1.out _ HF.out HK.out).mono ?_
    rintro e w2 ⟨v, rfl, ho, hb⟩
    obtain ⟨a1, c1, rfl, hrd⟩ := ho.rd
    have HF := Lib.hid (HF.out.on hb); have HK := Lib.hid (HK.out.on hb); have HB := Lib.hid (HB.out.trans (hb.mono HB.out.size))
    have HD1 := Lib.hid hrd
    clear ho hb hrd HR1
    go_wp2_with fail
    refine (HR2.out _ HF.out HK.out).mono ?_
    rintro e w3 ⟨v, rfl, ho, hb⟩
    obtain ⟨a2, c2, rfl, hrd⟩ := ho.rd
    have HF := Lib.hid (HF.out.on hb); have HK := Lib.hid (HK.out.on hb); have HB := Lib.hid (HB.out.trans (hb.mono HB.out.size))
    have HD1 := Lib.hid (HD1.out.on hb); have HD2 := Lib.hid hrd
    clear ho hb hrd HR2
    go_wp2_with fail
    refine (HR3.out _ HF.out HK.out).mono ?_
    rintro e w4 ⟨v, rfl, ho, hb⟩
    obtain ⟨a3, c3, rfl, hrd⟩ := ho.rd
    have HF := Lib.hid (HF.out.on hb); have HK := Lib.hid (HK.out.on hb); have HB := Lib.hid (HB.out.trans (hb.mono HB.out.size))
    have HD1 := Lib.hid (HD1.out.on hb); have HD2 := Lib.hid (HD2.out.on hb); have HD3 := Lib.hid hrd
    clear ho hb hrd HR3 hm q7
    go_wp2_with fail
    refine (HS.out _ HF.out HK.out).mono ?_
    rintro e w5 ⟨rfl, hb⟩
    have HF := Lib.hid (HF.out.on hb); have HK := Lib.hid (HK.out.on hb); have HB := Lib.hid (HB.out.trans (hb.mono HB.out.size))
    have HD1 := Lib.hid (HD1.out.on hb); have HD2 := Lib.hid (HD2.out.on hb); have HD3 := Lib.hid (HD3.out.on hb)
    clear hb HS
    go_wp2_with fail
    refine (HR4.out _ HF.out HK.out).mono ?_
    rintro e w6 ⟨v, rfl, ho, hb⟩
    obtain ⟨a4, c4, rfl, hrd⟩ := ho.rd
    have HF := Lib.hid (HF.out.on hb); have HK := Lib.hid (HK.out.on hb); have HB := Lib.hid (HB.out.trans (hb.mono HB.out.size))
    have HD1 := Lib.hid (HD1.out.on hb); have HD2 := Lib.hid (HD2.out.on hb); have HD3 := Lib.hid (HD3.out.on hb); have HD4 := Lib.hid hrd
    clear ho hb hrd HR4
    go_wp2_with fail
    refine (alive10_any _ HF.out HK.out).mono ?_
    rintro e w7 ⟨rfl, hb⟩
    have HB := Lib.hid (HB.out.trans (hb.mono HB.out.size))
    have HD1 := Lib.hid (HD1.out.on hb); have HD2 := Lib.hid (HD2.out.on hb); have HD3 := Lib.hid (HD3.out.on hb); have HD4 := Lib.hid (HD4.out.on hb)
    clear hb HF HK
    go_wp2_with fail
    have hal : Below w7.heap.size w7 (w7.alloc (.cells #[.slice a1 L1.length c1, .slice a2 L2.length c2] 37)) := by go_grown
    have hcat := concat_rd a1 a2 c1 c2 L1 L2 HL.out.1 HL.out.2 w7.heap.size (w7.alloc (.cells #[.slice a1 L1.length c1, .slice a2 L2.length c2] 37)) (by simp) (by simp) (by simp) (HD1.out.on hal) (HD2.out.on hal)
    rw [HM.out.1] at hcat
    refine hcat.mono ?_
    rintro e w8 ⟨a5, c5, rfl, hrd, hb8⟩
    have hb := hal.trans (hb8.mono hal.size)
    have HB := Lib.hid (HB.out.trans (hb.mono HB.out.size))
    have HD4 := Lib.hid (HD4.out.on hb)
    have HT := Lib.hid (texts_eq a5 a3 c5 c3 M (by have := HM.out.2; omega) w8 hrd.ss (HD3.out.on hb).ss)
    clear hal hcat hb8 hb hrd HD1 HD2 HD3
    go_wp2_with fail
    refine HT.out.mono ?_
    rintro e w9 ⟨rfl, hb⟩
    obtain ⟨g, off, rfl, hlt, hcc⟩ := (HD4.out.on hb).ss (by simp)
    have c0 : w9.cell? ⟨g, off, none⟩ = some (.string Y) := by simpa using hcc 0 (by simp)
    have HB := Lib.hid (HB.out.trans (hb.mono HB.out.size))
    clear hb HT HD4 hlt hcc
    go_wp2_with fail
    go_ret
    exact ⟨by first | rfl | simp, HB.out⟩
end Go.Proofs.YtolobdeilfgmnaaDoor
