/- The contracts of a reader's number, text, texts: each reads as the document says, or stands where it stood. -/
import Derived.Test.YtimijdmigdlhfaaPm
import Derived.Test.YtimijdmigdlhfaaKc
namespace Go.Proofs.Ytimijdmigdlhfaa
open Go.RowKit Go.Sort
set_option maxRecDepth 100000
set_option maxHeartbeats 2000000 in
theorem rdNumber_any (base R : Nat) (s : ByteArray) (st : St) (hs : s.size ≤ maxLen) (hp : st.2 ≤ s.size) (hl : st.1.length ≤ 90000) (w : World) (hr : Rd w base R s st) (hbase : base ≤ w.heap.size) :
    Calls Try.prog 56 #[.pointer (some ⟨R, 0, none⟩)] w fun e w' => e = .returned (.bool (stepN (bl s) 18446744073709551615 st).2) ∧ Rd w' base R s (stepN (bl s) 18446744073709551615 st).1 ∧ Below base w w' ∧ KeepR w w' := by
  have ha := ahead_any R s st.2 hs hp w hr.cell
  have HR := Lib.hid hr; have HL := Lib.hid (And.intro hl hbase)
  clear hr hs hp hl hbase
  rcases hah : ahead ((bl s).drop st.2) with _ | ⟨n, k⟩
  · have hst : stepN (bl s) 18446744073709551615 st = (st, false) := by unfold stepN; rw [hah]
    rw [aheadV_none _ _ hah] at ha
    rw [hst]
    have HA := Lib.hid ha
    clear ha hah hst
    go_enter Try.func56, Try.ntmps56
    go_wp2_with fail
    refine HA.out.mono ?_
    rintro e w1 ⟨rfl, hb⟩
    have HR1 := Lib.hid (HR.out.on hb)
    have HB1 := Lib.hid (And.intro (hb.mono HL.out.2) (KeepR.of hb))
    clear hb HA HR
    go_wp2_with fail
    go_ret
    exact ⟨rfl, HR1.out, HB1.out.1, HB1.out.2⟩
  · obtain ⟨-, -, -, hn, -⟩ := ahead_some _ _ _ hah
    have hst : stepN (bl s) 18446744073709551615 st = ((st.1 ++ [⟨false, n, ⟨#[]⟩⟩], st.2 + k), true) := by unfold stepN; rw [hah]; simp only; rw [if_pos (by omega)]
    rw [aheadV_some _ _ _ _ hah] at ha
    rw [hst]
    have HA := Lib.hid ha
    clear ha hah hst hn
    go_enter Try.func56, Try.ntmps56
    go_wp2_with fail
    refine HA.out.mono ?_
    rintro e w1 ⟨rfl, hb⟩
    have HR1 := Lib.hid (HR.out.on hb)
    have HB1 := Lib.hid (And.intro (hb.mono HL.out.2) (KeepR.of hb))
    have ht := take_any base R s st ⟨false, n, ⟨#[]⟩⟩ (st.2 + k) HL.out.1 w1 HR1.out (Nat.le_trans HL.out.2 hb.size)
    have HT := Lib.hid ht
    clear hb HA HR ht
    go_wp2_with fail
    refine HT.out.mono ?_
    rintro e w2 ⟨rfl, hr2, hb2, hk2⟩
    have HR2 := Lib.hid hr2
    have HB2 := Lib.hid (And.intro (HB1.out.1.trans hb2) (HB1.out.2.trans hk2))
    clear hr2 hb2 hk2 HT HR1 HB1
    go_wp2_with fail
    go_ret
    exact ⟨rfl, HR2.out, HB2.out.1, HB2.out.2⟩

theorem clone_small (x : ByteArray) (hx : x.size ≤ 1024) (w : World) : Calls Try.prog 62 #[.string x] w fun e w' => e = .returned (.string x) ∧ Below w.heap.size w w' := clone_any x (by omega) w
set_option maxHeartbeats 4000000 in
theorem rdText_any (base R : Nat) (s : ByteArray) (st : St) (hs : s.size ≤ maxLen) (hp : st.2 ≤ s.size) (hl : st.1.length ≤ 90000) (w : World) (hr : Rd w base R s st) (hbase : base ≤ w.heap.size) :
    Calls Try.prog 57 #[.pointer (some ⟨R, 0, none⟩)] w fun e w' => e = .returned (.bool (stepT (bl s) st).2) ∧ Rd w' base R s (stepT (bl s) st).1 ∧ Below base w w' ∧ KeepR w w' := by
  have ha := ahead_any R s st.2 hs hp w hr.cell
  have HR := Lib.hid hr; have HL := Lib.hid (And.intro hl hbase)
  clear hr hl hbase
  rcases hah : ahead ((bl s).drop st.2) with _ | ⟨n, k⟩
  · have hst : stepT (bl s) st = (st, false) := by unfold stepT; rw [hah]
    rw [aheadV_none _ _ hah] at ha
    rw [hst]
    have HA := Lib.hid ha
    clear ha hah hst hs hp
    go_enter Try.func57, Try.ntmps57
    go_wp2_with fail
    refine HA.out.mono ?_
    rintro e w1 ⟨rfl, hb⟩
    have HR1 := Lib.hid (HR.out.on hb)
    have HB1 := Lib.hid (And.intro (hb.mono HL.out.2) (KeepR.of hb))
    clear hb HA HR
    go_wp2_with fail
    go_ret
    exact ⟨rfl, HR1.out, HB1.out.1, HB1.out.2⟩
  · obtain ⟨-, -, hk, hn, -⟩ := ahead_some _ _ _ hah
    rw [List.length_drop, bl_length] at hk
    rw [aheadV_some _ _ _ _ hah] at ha
    unfold maxLen at hs
    obtain ⟨q, eq⟩ : ∃ q, st.2 + k = q := ⟨_, rfl⟩
    rw [eq] at ha
    have hqs : q ≤ s.size := by omega
    by_cases h1024 : 1024 < n
    · have hst : stepT (bl s) st = (st, false) := by unfold stepT; rw [hah]; simp only; rw [if_neg (by omega)]
      rw [hst]
      have HA := Lib.hid ha
      have l1 : (1024 : Int) < (n : Int) := by omega
      clear ha hah hst hs hp hk h1024 hqs
      go_enter Try.func57, Try.ntmps57
      go_wp2_with fail
      refine HA.out.mono ?_
      rintro e w1 ⟨rfl, hb⟩
      have HR1 := Lib.hid (HR.out.on hb)
      have HB1 := Lib.hid (And.intro (hb.mono HL.out.2) (KeepR.of hb))
      clear hb HA HR
      go_wp2_with fail
      go_ret
      exact ⟨rfl, HR1.out, HB1.out.1, HB1.out.2⟩
    · have l1 : ¬ (1024 : Int) < (n : Int) := by omega
      have HA := Lib.hid ha
      have wl : IntKind.u64.wrap ((s.size : Int) - (q : Int)) = (s.size : Int) - (q : Int) := by rw [IntKind.wrap_u64]; omega
      have wl2 : IntKind.i64.wrap ((s.size : Int) - (q : Int)) = (s.size : Int) - (q : Int) := IntWalk.i64_in _ (by omega)
      by_cases hfit : s.size < q + n
      · have hst : stepT (bl s) st = (st, false) := by unfold stepT; rw [hah]; simp only; rw [if_neg (by rw [bl_length, eq]; omega)]
        rw [hst]
        have l2 : (s.size : Int) - (q : Int) < (n : Int) := by omega
        have hqi : (q : Int) ≤ (s.size : Int) := by omega
        have hsi : (s.size : Int) ≤ 9223372036854775807 := by omega
        clear ha hah hst hs hp hk h1024 hqs hfit eq
        go_enter Try.func57, Try.ntmps57
        go_wp2_with fail
        refine HA.out.mono ?_
        rintro e w1 ⟨rfl, hb⟩
        have HR1 := Lib.hid (HR.out.on hb)
        have HB1 := Lib.hid (And.intro (hb.mono HL.out.2) (KeepR.of hb))
        obtain ⟨c0, c1⟩ := HR1.out.cell
        clear hb HA HR
        go_wp2_with fail
        go_ret
        exact ⟨rfl, HR1.out, HB1.out.1, HB1.out.2⟩
      · obtain ⟨x, ex⟩ : ∃ x, s.extract q (q + n) = x := ⟨_, rfl⟩
        have hst : stepT (bl s) st = ((st.1 ++ [⟨true, 0, x⟩], q + n), true) := by
          unfold stepT; rw [hah]; simp only
          rw [if_pos (by rw [bl_length, eq]; omega), eq]
          have : strL (((bl s).drop q).take n) = x := by
            rw [← ex, ← strL_bl (s.extract q (q + n)), bl_extract]
            congr 1
            rw [List.drop_take, Nat.add_sub_cancel_left]
          rw [this]
        have hxs : x.size = n := by rw [← ex, ByteArray.size_extract]; omega
        rw [hst]
        have l2 : ¬ (s.size : Int) - (q : Int) < (n : Int) := by omega
        have hqi : (q : Int) ≤ (s.size : Int) := by omega
        have hsi : (s.size : Int) ≤ 9223372036854775807 := by omega
        have hni : (n : Int) ≤ 1024 := by omega
        have hqn : (q : Int) + (n : Int) ≤ (s.size : Int) := by omega
        have hsl : ∀ W : World, (Instr.slice 9 (.string s) (some (.int .i64 (q : Int))) (some (.int .i64 ((q : Int) + (n : Int)))) none).run Try.prog W = .ok (.string x) W := fun W => by
          rw [← ex]
          exact str_slice (P := Try.prog) 9 Try.underlying9 s (q : Int) ((q : Int) + (n : Int)) q (q + n) rfl (by omega) (by omega) (by omega) W
        have HC := Lib.hid (clone_small x (by omega))
        clear ha hah hst hs hp hk h1024 hqs hfit eq hxs ex
        go_enter Try.func57, Try.ntmps57
        go_wp2_with fail
        refine HA.out.mono ?_
        rintro e w1 ⟨rfl, hb⟩
        have HR1 := Lib.hid (HR.out.on hb)
        have HB1 := Lib.hid (And.intro (hb.mono HL.out.2) (KeepR.of hb))
        obtain ⟨c0, c1⟩ := HR1.out.cell
        have HS1 := Lib.hid (Nat.le_trans HL.out.2 hb.size)
        clear hb HA HR
        go_wp2_with fail
        refine (HC.out _).mono ?_
        rintro e w2 ⟨rfl, hb2⟩
        have HR2 := Lib.hid (HR1.out.on hb2)
        have HB2 := Lib.hid (And.intro (HB1.out.1.trans (hb2.mono HS1.out)) (HB1.out.2.trans (KeepR.of hb2)))
        have ht := take_any base R s st ⟨true, 0, x⟩ (q + n) HL.out.1 w2 HR2.out (Nat.le_trans HS1.out hb2.size)
        have HT := Lib.hid ht
        clear hb2 HC ht c0 c1 HR1 HB1 HS1 hsl
        go_wp2_with fail
        refine HT.out.mono ?_
        rintro e w3 ⟨rfl, hr3, hb3, hk3⟩
        have HR3 := Lib.hid hr3
        have HB3 := Lib.hid (And.intro (HB2.out.1.trans hb3) (HB2.out.2.trans hk3))
        clear hr3 hb3 hk3 HT HR2 HB2
        go_wp2_with fail
        go_ret
        exact ⟨rfl, HR3.out, HB3.out.1, HB3.out.2⟩
end Go.Proofs.Ytimijdmigdlhfaa