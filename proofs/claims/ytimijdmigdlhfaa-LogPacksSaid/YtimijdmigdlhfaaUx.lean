/- The law LogPacks. -/
import Derived.Test.YtimijdmigdlhfaaUv
import Derived.Test.YtimijdmigdlhfaaUq
namespace Go.Proofs.Ytimijdmigdlhfaa
open Go.RowKit
set_option maxRecDepth 100000

set_option maxHeartbeats 8000000 in
theorem logPacks_any (st : ByteArray) (hst : st.size ≤ maxCut) (a1 : Option Addr) (c1 : Nat) (l : List ByteArray) (hl : l.length ≤ maxLen) (kl : Cut9 l) (w : World) (rl : Rd9 w a1 c1 l) :
    Calls Try.prog 5 #[.string st, .slice a1 l.length c1] w fun e w' => e = .returned (.bool true) ∧ Below w.heap.size w w' := by
  have hF1 := fun W => few9_any a1 c1 l hl rl.cap W
  have hl8 : (l.take 8).length ≤ 8 := by rw [List.length_take]; omega
  have kl8 := kl.take 8
  have rl8 := rl.take 8
  have HF := Lib.hid hF1
  clear hF1
  obtain ⟨n1, en1⟩ : ∃ n1, l.length = n1 := ⟨_, rfl⟩
  rw [en1] at HF ⊢
  generalize l.take 8 = L at hl8 kl8 rl8 HF
  clear kl rl hl en1
  have hPK := fun W (h : SSl W a1 L) => Pack_log st hst a1 c1 L (by omega) kl8 W h
  have hLG := fun W (h : SSl W a1 L) => rLong9_any a1 c1 L (by omega) 1023 W h
  have hRP := fun W (h : SSl W a1 L) (hok : longS 1024 (packT st L) = false) => rPk9_any st hst a1 c1 L (by omega) kl8 hok W h
  rw [show ckR = ckP from rfl] at hRP
  rw [show ((1023 : Nat) : Int) = 1023 from rfl] at hLG
  have hlp := longS_pack 1023 st L
  simp only [Nat.reduceAdd] at hlp
  have HR := Lib.hid rl8
  clear rl8 kl8
  by_cases h1 : 1023 < st.size
  · have b1 : (1023 : Int) < (st.size : Int) := by omega
    rw [decide_eq_true h1, Bool.true_or] at hlp
    obtain ⟨e1, e2⟩ := wr_long ckP (packT st L) hlp
    rw [e1, e2] at hPK
    have HPK := Lib.hid hPK
    clear hPK hRP hLG hlp e1 e2 hst h1 hl8
    go_enter Try.func5, Try.ntmps5
    go_wp2_with fail
    refine (HF.out w).mono ?_
    rintro e w' ⟨rfl, rfl⟩
    clear HF
    go_wp2_with fail
    refine (HPK.out w HR.out.ss).mono ?_
    rintro e w1 ⟨rfl, hb⟩
    have HB1 := Lib.hid hb; have HR1 := Lib.hid (HR.out.on hb)
    clear hb HR HPK
    go_wp2_with fail
    refine (alive9_any w1).mono ?_
    rintro e w2 ⟨rfl, hb⟩
    have HB2 := Lib.hid (HB1.out.trans (hb.mono HB1.out.size)); have HR2 := Lib.hid (HR1.out.on hb)
    clear hb HB1 HR1
    go_wp2_with fail
    go_ret
    exact ⟨rfl, HB2.out⟩
  · have b1 : ¬ (1023 : Int) < (st.size : Int) := by omega
    rw [decide_eq_false h1, Bool.false_or] at hlp
    cases hL : longS 1023 L
    · rw [hL] at hlp
      obtain ⟨e1, e2⟩ := wr_fits ckP (packT st L) hlp
      rw [e1, e2] at hPK
      rw [hL] at hLG
      have hz := logL_le ckP _ hlp
      rw [packT_len] at hz
      have hRR := fun W => recover_rd (strL (logL ckP (packT st L))) (packT st L) st L (by rw [strL_size]; unfold maxLen; omega) (by rw [bl_strL, scanL_whole ckP _ hlp]) (recoverL_pack st L []) (by rw [packT_len]; omega) W
      have HTT := Lib.hid (fun (a b : Option Addr) (c d : Nat) (W : World) (x : Rd9 W a c L) (y : Rd9 W b d L) => texts_same a b c d L (by omega) W x.ss y.ss)
      have HPK := Lib.hid hPK; have HLG := Lib.hid hLG; have HRP := Lib.hid (fun W h => hRP W h hlp); have HRR := Lib.hid hRR
      clear hPK hRP hLG hRR hlp e1 e2 hst h1 hl8 hL hz
      generalize strL (logL ckP (packT st L)) = ls at HPK HRP HRR
      go_enter Try.func5, Try.ntmps5
      go_wp2_with fail
      refine (HF.out w).mono ?_
      rintro e w' ⟨rfl, rfl⟩
      clear HF
      go_wp2_with fail
      refine (HPK.out w HR.out.ss).mono ?_
      rintro e w1 ⟨rfl, hb⟩
      have HB1 := Lib.hid hb; have HR1 := Lib.hid (HR.out.on hb)
      clear hb HR HPK
      go_wp2_with fail
      refine (HLG.out w1 HR1.out.ss).mono ?_
      rintro e w2 ⟨rfl, hb⟩
      have HB2 := Lib.hid (HB1.out.trans (hb.mono HB1.out.size)); have HR2 := Lib.hid (HR1.out.on hb)
      clear hb HB1 HR1 HLG
      go_wp2_with fail
      refine (HRR.out w2).mono ?_
      rintro e w3 ⟨a3, c3, rfl, hr3, hb⟩
      have HB3 := Lib.hid (HB2.out.trans (hb.mono HB2.out.size)); have HR3 := Lib.hid (HR2.out.on hb); have HQ3 := Lib.hid hr3
      clear hb hr3 HB2 HR2 HRR
      go_wp2_with fail
      refine (alive9_any w3).mono ?_
      rintro e w4 ⟨rfl, hb⟩
      have HB4 := Lib.hid (HB3.out.trans (hb.mono HB3.out.size)); have HR4 := Lib.hid (HR3.out.on hb); have HQ4 := Lib.hid (HQ3.out.on hb)
      clear hb HB3 HR3 HQ3
      go_wp2_with fail
      refine (HRP.out w4 HR4.out.ss).mono ?_
      rintro e w5 ⟨rfl, hb⟩
      have HB5 := Lib.hid (HB4.out.trans (hb.mono HB4.out.size)); have HR5 := Lib.hid (HR4.out.on hb); have HQ5 := Lib.hid (HQ4.out.on hb)
      clear hb HB4 HR4 HQ4 HRP
      go_wp2_with fail
      refine (HTT.out a3 a1 c3 c1 w5 HQ5.out HR5.out).mono ?_
      rintro e w6 ⟨rfl, hb⟩
      have HB6 := Lib.hid (HB5.out.trans (hb.mono HB5.out.size))
      clear hb HB5 HR5 HQ5 HTT
      go_wp2_with fail
      go_ret
      exact ⟨rfl, HB6.out⟩
    · rw [hL] at hlp
      obtain ⟨e1, e2⟩ := wr_long ckP (packT st L) hlp
      rw [e1, e2] at hPK
      rw [hL] at hLG
      have HPK := Lib.hid hPK; have HLG := Lib.hid hLG
      clear hPK hRP hLG hlp e1 e2 hst h1 hl8 hL
      go_enter Try.func5, Try.ntmps5
      go_wp2_with fail
      refine (HF.out w).mono ?_
      rintro e w' ⟨rfl, rfl⟩
      clear HF
      go_wp2_with fail
      refine (HPK.out w HR.out.ss).mono ?_
      rintro e w1 ⟨rfl, hb⟩
      have HB1 := Lib.hid hb; have HR1 := Lib.hid (HR.out.on hb)
      clear hb HR HPK
      go_wp2_with fail
      refine (HLG.out w1 HR1.out.ss).mono ?_
      rintro e w2 ⟨rfl, hb⟩
      have HB2 := Lib.hid (HB1.out.trans (hb.mono HB1.out.size)); have HR2 := Lib.hid (HR1.out.on hb)
      clear hb HB1 HR1 HLG
      go_wp2_with fail
      refine (alive9_any w2).mono ?_
      rintro e w3 ⟨rfl, hb⟩
      have HB3 := Lib.hid (HB2.out.trans (hb.mono HB2.out.size)); have HR3 := Lib.hid (HR2.out.on hb)
      clear hb HB2 HR2
      go_wp2_with fail
      go_ret
      exact ⟨rfl, HB3.out⟩
end Go.Proofs.Ytimijdmigdlhfaa
