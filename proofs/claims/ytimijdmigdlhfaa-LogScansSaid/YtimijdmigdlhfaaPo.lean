/- The contract of a reader's texts: as many as a number tells. -/
import Derived.Test.YtimijdmigdlhfaaPn
namespace Go.Proofs.Ytimijdmigdlhfaa
open Go.RowKit Go.Sort
set_option maxRecDepth 100000
theorem stepN_le (s : List UInt8) (most : Nat) (st : St) (h : st.2 ≤ s.length) : (stepN s most st).1.2 ≤ s.length ∧ (stepN s most st).1.1.length ≤ st.1.length + 1 := by
  unfold stepN
  split
  · exact ⟨h, Nat.le_succ _⟩
  · rename_i n k he
    obtain ⟨-, -, h3, -⟩ := ahead_some _ _ _ he
    rw [List.length_drop] at h3
    split
    · exact ⟨by show st.2 + k ≤ _; omega, by simp⟩
    · exact ⟨h, Nat.le_succ _⟩
theorem stepT_le (s : List UInt8) (st : St) (h : st.2 ≤ s.length) : (stepT s st).1.2 ≤ s.length ∧ (stepT s st).1.1.length ≤ st.1.length + 1 := by
  unfold stepT
  split
  · exact ⟨h, Nat.le_succ _⟩
  · split
    · rename_i hc
      exact ⟨hc.2, by simp⟩
    · exact ⟨h, Nat.le_succ _⟩
theorem stepTs_le (s : List UInt8) (j : Nat) (st : St) (h : st.2 ≤ s.length) : (stepTs s j st).1.2 ≤ s.length ∧ (stepTs s j st).1.1.length ≤ st.1.length + j := by
  induction j generalizing st with
  | zero => exact ⟨h, by simp [stepTs]⟩
  | succ j ih =>
    obtain ⟨h1, h2⟩ := stepT_le s st h
    unfold stepTs
    split
    · obtain ⟨h3, h4⟩ := ih _ h1
      exact ⟨h3, by omega⟩
    · exact ⟨h1, by omega⟩
theorem manyAt_le (s : List UInt8) (st : St) (h : (stepN s 32 st).2 = true) : manyAt s st.2 ≤ 32 := by
  unfold stepN at h
  unfold manyAt
  rcases hah : ahead (s.drop st.2) with _ | ⟨n, k⟩
  · rw [hah] at h; simp at h
  · rw [hah] at h
    simp only at h ⊢
    split at h
    · assumption
    · simp at h
theorem stepM_le (s : List UInt8) (st : St) (h : st.2 ≤ s.length) : (stepM s st).1.2 ≤ s.length ∧ (stepM s st).1.1.length ≤ st.1.length + 33 := by
  obtain ⟨h1, h2⟩ := stepN_le s 32 st h
  unfold stepM
  split
  · rename_i h0
    obtain ⟨h3, h4⟩ := stepTs_le s (manyAt s st.2) _ h1
    have := manyAt_le s st h0
    exact ⟨h3, by omega⟩
  · exact ⟨h1, by omega⟩
theorem stepK_le (s : List UInt8) (k : UInt8) (st : St) (h : st.2 ≤ s.length) : (stepK s k st).1.2 ≤ s.length ∧ (stepK s k st).1.1.length ≤ st.1.length + 33 := by
  unfold stepK
  split
  · obtain ⟨h1, h2⟩ := stepN_le s 18446744073709551615 st h; exact ⟨h1, by omega⟩
  · split
    · obtain ⟨h1, h2⟩ := stepT_le s st h; exact ⟨h1, by omega⟩
    · exact stepM_le s st h
def TsRel (w : World) (base R : Nat) (s : ByteArray) (n : Nat) (st0 : St) (i : Value) (wr : World) : Prop :=
  ∃ (j : Nat) (st : St), j ≤ n ∧ i = .int .u64 (j : Int) ∧ stepTs (bl s) (n - j) st = stepTs (bl s) n st0 ∧ st.2 ≤ s.size ∧ st.1.length ≤ st0.1.length + j ∧ Rd wr base R s st ∧ Below base w wr ∧ KeepR w wr
set_option maxHeartbeats 4000000 in
theorem rdTexts_any (base R : Nat) (s : ByteArray) (st : St) (hs : s.size ≤ maxLen) (hp : st.2 ≤ s.size) (hl : st.1.length ≤ 80000) (w : World) (hr : Rd w base R s st) (hbase : base ≤ w.heap.size) :
    Calls Try.prog 58 #[.pointer (some ⟨R, 0, none⟩)] w fun e w' => e = .returned (.bool (stepM (bl s) st).2) ∧ Rd w' base R s (stepM (bl s) st).1 ∧ Below base w w' ∧ KeepR w w' := by
  have ha := ahead_any R s st.2 hs hp w hr.cell
  have HR := Lib.hid hr; have HL := Lib.hid (And.intro hl (And.intro hbase hs))
  clear hr hl hbase
  rcases hah : ahead ((bl s).drop st.2) with _ | ⟨n, k⟩
  · have hst : stepM (bl s) st = (st, false) := by unfold stepM stepN; rw [hah]; rfl
    rw [aheadV_none _ _ hah] at ha
    rw [hst]
    have HA := Lib.hid ha
    clear ha hah hst hs hp
    go_enter Try.func58, Try.ntmps58
    go_wp2_with fail
    refine HA.out.mono ?_
    rintro e w1 ⟨rfl, hb⟩
    have HR1 := Lib.hid (HR.out.on hb)
    have HB1 := Lib.hid (And.intro (hb.mono HL.out.2.1) (KeepR.of hb))
    clear hb HA HR
    go_wp2_with fail
    go_ret
    exact ⟨rfl, HR1.out, HB1.out.1, HB1.out.2⟩
  · obtain ⟨-, -, hk, hn, -⟩ := ahead_some _ _ _ hah
    rw [List.length_drop, bl_length] at hk
    rw [aheadV_some _ _ _ _ hah] at ha
    by_cases h32 : 32 < n
    · have hst : stepM (bl s) st = (st, false) := by
        have : stepN (bl s) 32 st = (st, false) := by unfold stepN; rw [hah]; simp only; rw [if_neg (by omega)]
        unfold stepM; rw [this]; rfl
      rw [hst]
      have HA := Lib.hid ha
      have l1 : (32 : Int) < (n : Int) := by omega
      clear ha hah hst hs hp hk h32
      go_enter Try.func58, Try.ntmps58
      go_wp2_with fail
      refine HA.out.mono ?_
      rintro e w1 ⟨rfl, hb⟩
      have HR1 := Lib.hid (HR.out.on hb)
      have HB1 := Lib.hid (And.intro (hb.mono HL.out.2.1) (KeepR.of hb))
      clear hb HA HR
      go_wp2_with fail
      go_ret
      exact ⟨rfl, HR1.out, HB1.out.1, HB1.out.2⟩
    · have l1 : ¬ (32 : Int) < (n : Int) := by omega
      have hst : stepM (bl s) st = stepTs (bl s) n (st.1 ++ [⟨false, n, ⟨#[]⟩⟩], st.2 + k) := by
        have : stepN (bl s) 32 st = ((st.1 ++ [⟨false, n, ⟨#[]⟩⟩], st.2 + k), true) := by unfold stepN; rw [hah]; simp only; rw [if_pos (by omega)]
        unfold stepM; rw [this]; simp only [if_true]; unfold manyAt; rw [hah]
      have HP := Lib.hid (show st.2 + k ≤ s.size by omega)
      obtain ⟨st0, est0⟩ : ∃ st0 : St, (st.1 ++ [(⟨false, n, ⟨#[]⟩⟩ : Pt)], st.2 + k) = st0 := ⟨_, rfl⟩
      have hst0 : st0.2 ≤ s.size ∧ st0.1.length ≤ 80001 := by
        rw [← est0]
        exact ⟨HP.out, by simp; have := HL.out.1; omega⟩
      rw [hst, est0]
      have HST := Lib.hid hst0; have HES := Lib.hid est0
      have HA := Lib.hid ha
      have hn32 : (n : Int) ≤ 32 := by omega
      clear ha hah hst hs hp hk h32 est0 hst0 HP
      go_enter Try.func58, Try.ntmps58
      go_wp2_with fail
      refine HA.out.mono ?_
      rintro e w1 ⟨rfl, hb⟩
      have HR1 := Lib.hid (HR.out.on hb)
      have HB1 := Lib.hid (And.intro (hb.mono HL.out.2.1) (KeepR.of hb))
      have ht := take_any base R s st ⟨false, n, ⟨#[]⟩⟩ (st.2 + k) (by have := HL.out.1; omega) w1 HR1.out (Nat.le_trans HL.out.2.1 hb.size)
      rw [HES.out] at ht
      have HT := Lib.hid ht
      have HS1 := Lib.hid (Nat.le_trans HL.out.2.1 hb.size)
      clear hb HA HR ht
      go_wp2_with fail
      refine HT.out.mono ?_
      rintro e w2 ⟨rfl, hr2, hb2, hk2⟩
      have HR2 := Lib.hid hr2
      have HB2 := Lib.hid (And.intro (HB1.out.1.trans hb2) (HB1.out.2.trans hk2))
      clear hr2 hb2 hk2 HT HR1 HB1 HS1
      clear HES
      go_wp2_with fail
      go_loopw [24] (TsRel w base R s n st0) (fun i _ => n - (intOf i).toNat)
      case atStart => exact ⟨0, st0, Nat.zero_le _, rfl, by rw [Nat.sub_zero], HST.out.1, by omega, HR2.out, HB2.out.1, HB2.out.2⟩
      case round =>
        clear HR2 HB2
        obtain ⟨j, st1, hj, rfl, hs1, hp1, hl1, hr1, hb1, hk1⟩ := hrel
        by_cases hjn : j < n
        · have hj1 : (j : Int) < (n : Int) := by omega
          have hsz : base ≤ wr.heap.size := Nat.le_trans HL.out.2.1 hb1.size
          have htx := rdText_any base R s st1 HL.out.2.2 hp1 (by have := HST.out.2; omega) wr hr1 hsz
          obtain ⟨hq1, hq2⟩ := stepT_le (bl s) st1 (by rw [bl_length]; exact hp1)
          rw [show n - j = (n - (j + 1)) + 1 by omega, stepTs] at hs1
          have HTX := Lib.hid htx; have HB1 := Lib.hid (And.intro hb1 hk1); have HQ := Lib.hid (And.intro hq1 (And.intro hq2 (And.intro hs1 (And.intro hl1 hj))))
          clear htx hb1 hk1 hq1 hq2 hs1 hr1 hp1 hl1 hsz
          go_wp2_with fail
          refine HTX.out.mono ?_
          rintro e w3 ⟨rfl, hr3, hb3, hk3⟩
          have HR3 := Lib.hid hr3
          have HB3 := Lib.hid (And.intro (HB1.out.1.trans hb3) (HB1.out.2.trans hk3))
          clear hr3 hb3 hk3 HTX HB1
          obtain ⟨hq1, hq2, hs1, hl1, -⟩ := HQ.out
          cases hok : (stepT (bl s) st1).2
          · rw [hok] at hs1
            have HE := Lib.hid (show stepTs (bl s) n st0 = stepT (bl s) st1 from hs1.symm)
            have HOK := Lib.hid hok
            clear hq1 hq2 hs1 hl1 hok HQ
            go_wp2_with fail
            go_ret
            rw [HE.out, HOK.out]
            exact ⟨rfl, HR3.out, HB3.out.1, HB3.out.2⟩
          · rw [hok] at hs1
            have HE := Lib.hid (And.intro hs1 (And.intro hq1 (show (stepT (bl s) st1).1.1.length ≤ st0.1.length + (j + 1) by omega)))
            clear hq1 hq2 hs1 hl1 hok HQ
            go_wp2_with fail
            exact ⟨⟨j + 1, _, by omega, by simp, HE.out.1, HE.out.2.1, HE.out.2.2, HR3.out, HB3.out.1, HB3.out.2⟩, by simp [intOf]; omega⟩
        · obtain rfl : j = n := by omega
          rw [Nat.sub_self, stepTs] at hs1
          have HE := Lib.hid hs1.symm; have HR1 := Lib.hid hr1; have HB1 := Lib.hid (And.intro hb1 hk1)
          have hn : ¬ (j : Int) < (j : Int) := by omega
          clear hs1 hr1 hb1 hk1 hp1 hl1
          go_wp2_with fail
          go_ret
          rw [HE.out]
          exact ⟨rfl, HR1.out, HB1.out.1, HB1.out.2⟩
end Go.Proofs.Ytimijdmigdlhfaa