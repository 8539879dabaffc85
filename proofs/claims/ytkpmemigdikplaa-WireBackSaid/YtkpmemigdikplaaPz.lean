/- WireBack: what is packed is unpacked as it was; what is unpacked, packed, is those bytes. -/
import Derived.Test.YtkpmemigdikplaaPq
namespace Go.Proofs.Ytkpmemigdikplaa
open Go.RowKit Go.Sort
set_option maxRecDepth 100000

theorem ne_zero (E : Nat) (h : E ≠ 0) : ((E : Int) == 0) = false := by rw [beq_eq_false_iff_ne]; omega
set_option maxHeartbeats 8000000 in
theorem wireBack_any (a : Option Addr) (c : Nat) (l : List Pt) (s kinds : ByteArray) (hl : l.length ≤ maxLen) (hlc : l.length ≤ c) (hol : PsOk l) (hs : s.size ≤ maxLen) (_hk : kinds.size ≤ maxLen) (w : World) (hp : PSl w a l) :
    Calls Try.prog 5 #[.slice a l.length c, .string s, .string kinds] w fun e w' => e = .returned (.bool true) ∧ Below w.heap.size w w' := by
  have hkr := cutK_run kinds
  have hks := cutK_size kinds
  obtain ⟨k, ek⟩ : ∃ k, cutK kinds = k := ⟨_, rfl⟩
  rw [ek] at hkr hks
  have hf1 := few_at a c l hl hlc
  obtain ⟨hL12, hok⟩ := few_ok l hol
  have hpL := hp.take 12
  obtain ⟨L, eL⟩ : ∃ L, l.take 12 = L := ⟨_, rfl⟩
  rw [eL] at hf1 hL12 hok hpL
  have HF := Lib.hid hf1; have HOK := Lib.hid hok; have HL := Lib.hid hL12; have HP := Lib.hid hpL; have HS := Lib.hid (And.intro hs hks)
  clear hf1 hok hL12 hpL hp hol hl hlc eL ek hs hks
  go_enter Try.func5, Try.ntmps5
  go_upto_region 1 with fail
  refine wp_region_quiet_below (by kernel_rfl) (by kernel_rfl) ?_
  iterate 9 (quiet_step (first | (go_at_call 8; exact Calls.regrown_of (HF.out _))))
  refine wpQuiet_nil ?_
  intro _ hw'
  obtain ⟨⟨dq, osq⟩, hw''⟩ := hw'
  subst hw''
  have hB0 := below_regrown w dq osq
  have HP0 := Lib.hid (HP.out.on hB0)
  have HB0 := Lib.hid hB0
  clear hkr hB0 HF HP
  generalize grow (redrawn w dq) osq = W at HP0 HB0 ⊢
  go_wp2_with fail
  refine (Pack_any a c L (by have := HL.out; omega) HOK.out W HP0.out).mono ?_
  rintro e w1 ⟨rfl, hb1⟩
  have HP1 := Lib.hid (HP0.out.on hb1)
  have HB1 := Lib.hid (HB0.out.trans (hb1.mono HB0.out.size))
  clear hb1 HP0 HB0
  cases hLL : longL L
  · obtain ⟨p1, p2⟩ := pack_good L hLL
    rw [p1, p2]
    have hnum : ∀ p ∈ L, p.n < 18446744073709551616 := fun p hp => (HOK.out p hp).n
    have hup := unpackL_packed L hnum hLL
    have hple := packL_le L HOK.out hLL
    obtain ⟨P, eP⟩ : ∃ P, strL (packL L) = P := ⟨_, rfl⟩
    have hbP : bl P = packL L := by rw [← eP, bl_strL]
    have hPs : P.size ≤ maxLen := by rw [← bl_length, hbP]; have := HL.out; unfold maxLen; omega
    obtain ⟨Q, eQ⟩ : ∃ Q, strL (kindsL L) = Q := ⟨_, rfl⟩
    have hbQ : bl Q = kindsL L := by rw [← eQ, bl_strL]
    have hQs : Q.size ≤ 1000 := by rw [← bl_length, hbQ]; unfold kindsL; rw [List.length_map]; have := HL.out; omega
    have hkc := fun W hp => rKinds_any a c L (by have := HL.out; omega) W hp
    rw [eQ] at hkc
    have hun := fun W => Unpack_any P Q hPs hQs W
    rw [hbP, hbQ, hup] at hun
    simp only [List.length_map] at hun
    rw [eP]
    have HKC := Lib.hid hkc; have HUN := Lib.hid hun
    clear p1 p2 hnum hup hple eP hbP hPs eQ hbQ hQs hkc hun hLL
    go_wp2_with fail
    refine (HKC.out w1 HP1.out).mono ?_
    rintro e w2 ⟨rfl, hb2⟩
    have HP2 := Lib.hid (HP1.out.on hb2)
    have HB2 := Lib.hid (HB1.out.trans (hb2.mono HB1.out.size))
    clear hb2 HP1 HB1 HKC
    go_wp2_with fail
    refine (HUN.out w2).mono ?_
    rintro e w3 ⟨a3, c3, rfl, -, hp3, hb3⟩
    have hsm := Same_any a3 a c3 c (L.map normP) L (by rw [List.length_map]; have := HL.out; unfold maxLen; omega) w3 hp3 (HP2.out.on hb3)
    rw [sameL_norm, List.length_map] at hsm
    have HSM := Lib.hid hsm
    have HP3 := Lib.hid (HP2.out.on hb3)
    have HB3 := Lib.hid (HB2.out.trans (hb3.mono HB2.out.size))
    clear hp3 hb3 hsm HP2 HB2 HUN
    go_wp2_with fail
    refine HSM.out.mono ?_
    rintro e w4 ⟨rfl, hb4⟩
    have HB4 := Lib.hid (HB3.out.trans (hb4.mono HB3.out.size))
    clear hb4 HSM HB3 HP3
    have hun2 := fun W => Unpack_any s k HS.out.1 (by have := HS.out.2; omega) W
    have hsiz := unpackL_siz (bl s) (bl k)
    have hlen := unpackL_len (bl s) (bl k)
    have hpks := unpackL_packs (bl s) (bl k)
    have hplc := unpackL_place (bl s) (bl k)
    have hnon := unpackL_none (bl s) (bl k)
    rw [bl_length] at hlen hplc
    obtain ⟨U, eU⟩ : ∃ U, unpackL (bl s) (bl k) = U := ⟨_, rfl⟩
    rw [eU] at hun2 hsiz hlen hpks hplc hnon
    obtain ⟨M, q, E⟩ := U
    simp only at hun2 hsiz hlen hpks hplc hnon
    have HU2 := Lib.hid hun2
    clear hun2 eU
    by_cases hE : E = 0
    · subst hE
      obtain ⟨hpk, hlg, rfl, hnm⟩ := hpks rfl
      have hokM : PsOk M := fun p hp => ⟨hnm p hp, by have := hsiz p hp; unfold maxLen; omega⟩
      have hM : M.length ≤ 1000 := by have := HS.out.2; omega
      obtain ⟨p1, p2⟩ := pack_good M hlg
      have hps : packS M = s := by rw [p1, hpk, strL_bl]
      have HM := Lib.hid (And.intro hokM (And.intro hM (And.intro hps p2)))
      clear hpk hlg hnm hokM hM p1 p2 hps hsiz hlen hplc hnon hpks
      go_wp2_with fail
      refine (HU2.out w4).mono ?_
      rintro e wA ⟨aA, cA, rfl, -, hpA, hbA⟩
      have hpc := Pack_any aA cA M HM.out.2.1 HM.out.1 wA hpA
      rw [HM.out.2.2.1, HM.out.2.2.2] at hpc
      have HPC := Lib.hid hpc
      have HBA := Lib.hid (HB4.out.trans (hbA.mono HB4.out.size))
      clear hpA hbA hpc HU2 HB4 HM
      go_wp2_with fail
      refine HPC.out.mono ?_
      rintro e wB ⟨rfl, hbB⟩
      have HBB := Lib.hid (HBA.out.trans (hbB.mono HBA.out.size))
      clear hbB HPC HBA
      go_wp2_with fail
      refine (alive7_any wB).mono ?_
      rintro e wC ⟨rfl, hbC⟩
      have HBC := Lib.hid (HBB.out.trans (hbC.mono HBB.out.size))
      clear hbC HBB
      go_wp2_with fail
      go_ret
      exact ⟨rfl, HBC.out⟩
    · have hM0 := hnon hE
      subst hM0
      have hEb := ne_zero E hE
      have hEi : ¬ (E : Int) = 0 := by omega
      have hq1 : (0 : Int) ≤ (q : Int) := by omega
      have hq2 : (q : Int) ≤ (s.size : Int) := by omega
      simp only [List.length_nil] at HU2
      clear hE hsiz hlen hplc hnon hpks
      go_wp2_with fail
      refine (HU2.out w4).mono ?_
      rintro e wA ⟨aA, cA, rfl, -, -, hbA⟩
      have HBA := Lib.hid (HB4.out.trans (hbA.mono HB4.out.size))
      clear hbA HU2 HB4
      go_wp2_with fail
      refine (alive7_any wA).mono ?_
      rintro e wC ⟨rfl, hbC⟩
      have HBC := Lib.hid (HBA.out.trans (hbC.mono HBA.out.size))
      clear hbC HBA
      go_wp2_with fail
      go_ret
      exact ⟨rfl, HBC.out⟩
  · obtain ⟨p1, p2⟩ := pack_bad L hLL
    rw [p1, p2]
    clear p1 p2 hLL HP1
    have hun2 := fun W => Unpack_any s k HS.out.1 (by have := HS.out.2; omega) W
    have hsiz := unpackL_siz (bl s) (bl k)
    have hlen := unpackL_len (bl s) (bl k)
    have hpks := unpackL_packs (bl s) (bl k)
    have hplc := unpackL_place (bl s) (bl k)
    have hnon := unpackL_none (bl s) (bl k)
    rw [bl_length] at hlen hplc
    obtain ⟨U, eU⟩ : ∃ U, unpackL (bl s) (bl k) = U := ⟨_, rfl⟩
    rw [eU] at hun2 hsiz hlen hpks hplc hnon
    obtain ⟨M, q, E⟩ := U
    simp only at hun2 hsiz hlen hpks hplc hnon
    have HU2 := Lib.hid hun2
    clear hun2 eU
    by_cases hE : E = 0
    · subst hE
      obtain ⟨hpk, hlg, rfl, hnm⟩ := hpks rfl
      have hokM : PsOk M := fun p hp => ⟨hnm p hp, by have := hsiz p hp; unfold maxLen; omega⟩
      have hM : M.length ≤ 1000 := by have := HS.out.2; omega
      obtain ⟨p1, p2⟩ := pack_good M hlg
      have hps : packS M = s := by rw [p1, hpk, strL_bl]
      have HM := Lib.hid (And.intro hokM (And.intro hM (And.intro hps p2)))
      clear hpk hlg hnm hokM hM p1 p2 hps hsiz hlen hplc hnon hpks
      go_wp2_with fail
      refine (HU2.out w1).mono ?_
      rintro e wA ⟨aA, cA, rfl, -, hpA, hbA⟩
      have hpc := Pack_any aA cA M HM.out.2.1 HM.out.1 wA hpA
      rw [HM.out.2.2.1, HM.out.2.2.2] at hpc
      have HPC := Lib.hid hpc
      have HBA := Lib.hid (HB1.out.trans (hbA.mono HB1.out.size))
      clear hpA hbA hpc HU2 HB1 HM
      go_wp2_with fail
      refine HPC.out.mono ?_
      rintro e wB ⟨rfl, hbB⟩
      have HBB := Lib.hid (HBA.out.trans (hbB.mono HBA.out.size))
      clear hbB HPC HBA
      go_wp2_with fail
      refine (alive7_any wB).mono ?_
      rintro e wC ⟨rfl, hbC⟩
      have HBC := Lib.hid (HBB.out.trans (hbC.mono HBB.out.size))
      clear hbC HBB
      go_wp2_with fail
      go_ret
      exact ⟨rfl, HBC.out⟩
    · have hM0 := hnon hE
      subst hM0
      have hEb := ne_zero E hE
      have hEi : ¬ (E : Int) = 0 := by omega
      have hq1 : (0 : Int) ≤ (q : Int) := by omega
      have hq2 : (q : Int) ≤ (s.size : Int) := by omega
      simp only [List.length_nil] at HU2
      clear hE hsiz hlen hplc hnon hpks
      go_wp2_with fail
      refine (HU2.out w1).mono ?_
      rintro e wA ⟨aA, cA, rfl, -, -, hbA⟩
      have HBA := Lib.hid (HB1.out.trans (hbA.mono HB1.out.size))
      clear hbA HU2 HB1
      go_wp2_with fail
      refine (alive7_any wA).mono ?_
      rintro e wC ⟨rfl, hbC⟩
      have HBC := Lib.hid (HBA.out.trans (hbC.mono HBA.out.size))
      clear hbC HBA
      go_wp2_with fail
      go_ret
      exact ⟨rfl, HBC.out⟩
end Go.Proofs.Ytkpmemigdikplaa
