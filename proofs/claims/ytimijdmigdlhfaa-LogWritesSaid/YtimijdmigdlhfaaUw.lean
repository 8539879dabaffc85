/- The law LogWrites. -/
import Derived.Test.YtimijdmigdlhfaaUv
import Derived.Test.YtimijdmigdlhfaaUn
import Derived.Test.YtimijdmigdlhfaaUc
namespace Go.Proofs.Ytimijdmigdlhfaa
open Go.RowKit
set_option maxRecDepth 100000

set_option maxHeartbeats 8000000 in
theorem logWrites_any (s : ByteArray) (hs : s.size ≤ maxLen) (a1 : Option Addr) (c1 : Nat) (l : List ByteArray) (hl : l.length ≤ maxLen) (fl : Fit l) (w : World) (rl : Rd9 w a1 c1 l) :
    Calls Try.prog 3 #[.string s, .slice a1 l.length c1] w fun e w' => e = .returned (.bool true) ∧ Below w.heap.size w w' := by
  have hF1 := fun W => few9_any a1 c1 l hl rl.cap W
  have hl8 : (l.take 8).length ≤ 8 := by rw [List.length_take]; omega
  have fl8 := fl.take 8
  have rl8 := rl.take 8
  have HF := Lib.hid hF1
  clear hF1
  obtain ⟨n1, en1⟩ : ∃ n1, l.length = n1 := ⟨_, rfl⟩
  rw [en1] at HF ⊢
  generalize l.take 8 = L at hl8 fl8 rl8 HF
  clear fl rl hl en1
  have hRC := fun W => Record_any s hs W
  have hWR := fun W (h : SSl W a1 L) => Write_any a1 c1 L (by omega) fl8 W h
  have HC := Lib.hid (fun W => Crc_any s hs W)
  have HRCc := Lib.hid (fun W => rCrc_any s hs W)
  have hRR := fun W (h : s.size ≤ 1024) => rRecord_any s h W
  have hLG := fun W (h : SSl W a1 L) => rLong9_any a1 c1 L (by omega) 1024 W h
  have hRW := fun W (h : SSl W a1 L) (hok : longS 1024 L = false) => rWrite_any a1 c1 L (by omega) hok W h
  rw [show ckR = ckP from rfl] at hRR hRW
  rw [show ((1024 : Nat) : Int) = 1024 from rfl] at hLG
  have HR := Lib.hid rl8
  clear rl8 hl8 fl8 hs
  generalize (crc (bl s)).toNat = kc at HC HRCc
  cases hL : longS 1024 L
  · by_cases h1 : s.size ≤ 1024
    · obtain ⟨e1, e2⟩ := wr_one ckP s h1
      rw [e1, e2] at hRC
      have HRR := Lib.hid (fun W => hRR W h1)
      have b1 : (s.size : Int) ≤ 2000 := by omega
      have b2 : ¬ (1024 : Int) < (s.size : Int) := by omega
      obtain ⟨e3, e4⟩ := wr_fits ckP L hL
      rw [e3, e4] at hWR
      rw [hL] at hLG
      have HRW := Lib.hid (fun W h => hRW W h hL)
      have HRC := Lib.hid hRC; have HWR := Lib.hid hWR; have HLG := Lib.hid hLG
      clear e1 e2 e3 e4 hRC hWR hLG hRR hRW h1 hL
      generalize strL (recL ckP s) = rs at HRC HRR
      generalize strL (logL ckP L) = ls at HWR HRW
      go_enter Try.func3, Try.ntmps3
      go_wp2_with fail
      refine (HF.out w).mono ?_
      rintro e w' ⟨rfl, rfl⟩
      clear HF
      go_wp2_with fail
      refine (HRC.out w).mono ?_
      rintro e w1 ⟨rfl, hb⟩
      have HB1 := Lib.hid hb; have HR1 := Lib.hid (HR.out.on hb)
      clear hb HR HRC
      go_wp2_with fail
      refine (HWR.out w1 HR1.out.ss).mono ?_
      rintro e w2 ⟨rfl, hb⟩
      have HB2 := Lib.hid (HB1.out.trans (hb.mono HB1.out.size)); have HR2 := Lib.hid (HR1.out.on hb)
      clear hb HB1 HR1 HWR
      go_wp2_with fail
      refine (HC.out w2).mono ?_
      rintro e w3 ⟨rfl, hb⟩
      have HB3 := Lib.hid (HB2.out.trans (hb.mono HB2.out.size)); have HR3 := Lib.hid (HR2.out.on hb)
      clear hb HB2 HR2 HC
      go_wp2_with fail
      refine (HRCc.out w3).mono ?_
      rintro e w' ⟨rfl, rfl⟩
      clear HRCc
      go_wp2_with fail
      refine (alive9_any w3).mono ?_
      rintro e w4 ⟨rfl, hb⟩
      have HB4 := Lib.hid (HB3.out.trans (hb.mono HB3.out.size)); have HR4 := Lib.hid (HR3.out.on hb)
      clear hb HB3 HR3
      go_wp2_with fail
      refine (HRR.out w4).mono ?_
      rintro e w5 ⟨rfl, hb⟩
      have HB5 := Lib.hid (HB4.out.trans (hb.mono HB4.out.size)); have HR5 := Lib.hid (HR4.out.on hb)
      clear hb HB4 HR4 HRR
      go_wp2_with fail
      refine (HLG.out w5 HR5.out.ss).mono ?_
      rintro e w6 ⟨rfl, hb⟩
      have HB6 := Lib.hid (HB5.out.trans (hb.mono HB5.out.size)); have HR6 := Lib.hid (HR5.out.on hb)
      clear hb HB5 HR5 HLG
      go_wp2_with fail
      refine (HRW.out w6 HR6.out.ss).mono ?_
      rintro e w7 ⟨rfl, hb⟩
      have HB7 := Lib.hid (HB6.out.trans (hb.mono HB6.out.size)); have HR7 := Lib.hid (HR6.out.on hb)
      clear hb HB6 HR6 HRW
      go_wp2_with fail
      go_ret
      exact ⟨rfl, HB7.out⟩
    · by_cases h2 : s.size ≤ 2000
      · obtain ⟨e1, e2⟩ := wr_long ckP [s] (long_one s h1)
        rw [e1, e2] at hRC
        have b1 : (s.size : Int) ≤ 2000 := by omega
        have b2 : (1024 : Int) < (s.size : Int) := by omega
        obtain ⟨e3, e4⟩ := wr_fits ckP L hL
        rw [e3, e4] at hWR
        rw [hL] at hLG
        have HRW := Lib.hid (fun W h => hRW W h hL)
        have HRC := Lib.hid hRC; have HWR := Lib.hid hWR; have HLG := Lib.hid hLG
        clear e1 e2 e3 e4 hRC hWR hLG hRR hRW h1 hL h2
        generalize strL (logL ckP L) = ls at HWR HRW
        go_enter Try.func3, Try.ntmps3
        go_wp2_with fail
        refine (HF.out w).mono ?_
        rintro e w' ⟨rfl, rfl⟩
        clear HF
        go_wp2_with fail
        refine (HRC.out w).mono ?_
        rintro e w1 ⟨rfl, hb⟩
        have HB1 := Lib.hid hb; have HR1 := Lib.hid (HR.out.on hb)
        clear hb HR HRC
        go_wp2_with fail
        refine (HWR.out w1 HR1.out.ss).mono ?_
        rintro e w2 ⟨rfl, hb⟩
        have HB2 := Lib.hid (HB1.out.trans (hb.mono HB1.out.size)); have HR2 := Lib.hid (HR1.out.on hb)
        clear hb HB1 HR1 HWR
        go_wp2_with fail
        refine (HC.out w2).mono ?_
        rintro e w3 ⟨rfl, hb⟩
        have HB3 := Lib.hid (HB2.out.trans (hb.mono HB2.out.size)); have HR3 := Lib.hid (HR2.out.on hb)
        clear hb HB2 HR2 HC
        go_wp2_with fail
        refine (HRCc.out w3).mono ?_
        rintro e w' ⟨rfl, rfl⟩
        clear HRCc
        go_wp2_with fail
        refine (alive9_any w3).mono ?_
        rintro e w4 ⟨rfl, hb⟩
        have HB4 := Lib.hid (HB3.out.trans (hb.mono HB3.out.size)); have HR4 := Lib.hid (HR3.out.on hb)
        clear hb HB3 HR3
        go_wp2_with fail
        refine (HLG.out w4 HR4.out.ss).mono ?_
        rintro e w5 ⟨rfl, hb⟩
        have HB5 := Lib.hid (HB4.out.trans (hb.mono HB4.out.size)); have HR5 := Lib.hid (HR4.out.on hb)
        clear hb HB4 HR4 HLG
        go_wp2_with fail
        refine (HRW.out w5 HR5.out.ss).mono ?_
        rintro e w6 ⟨rfl, hb⟩
        have HB6 := Lib.hid (HB5.out.trans (hb.mono HB5.out.size)); have HR6 := Lib.hid (HR5.out.on hb)
        clear hb HB5 HR5 HRW
        go_wp2_with fail
        go_ret
        exact ⟨rfl, HB6.out⟩
      · obtain ⟨e1, e2⟩ := wr_long ckP [s] (long_one s h1)
        rw [e1, e2] at hRC
        have b1 : ¬ (s.size : Int) ≤ 2000 := by omega
        have b2 : (1024 : Int) < (s.size : Int) := by omega
        obtain ⟨e3, e4⟩ := wr_fits ckP L hL
        rw [e3, e4] at hWR
        rw [hL] at hLG
        have HRW := Lib.hid (fun W h => hRW W h hL)
        have HRC := Lib.hid hRC; have HWR := Lib.hid hWR; have HLG := Lib.hid hLG
        clear e1 e2 e3 e4 hRC hWR hLG hRR hRW h1 hL h2
        generalize strL (logL ckP L) = ls at HWR HRW
        go_enter Try.func3, Try.ntmps3
        go_wp2_with fail
        refine (HF.out w).mono ?_
        rintro e w' ⟨rfl, rfl⟩
        clear HF
        go_wp2_with fail
        refine (HRC.out w).mono ?_
        rintro e w1 ⟨rfl, hb⟩
        have HB1 := Lib.hid hb; have HR1 := Lib.hid (HR.out.on hb)
        clear hb HR HRC
        go_wp2_with fail
        refine (HWR.out w1 HR1.out.ss).mono ?_
        rintro e w2 ⟨rfl, hb⟩
        have HB2 := Lib.hid (HB1.out.trans (hb.mono HB1.out.size)); have HR2 := Lib.hid (HR1.out.on hb)
        clear hb HB1 HR1 HWR
        go_wp2_with fail
        refine (alive9_any w2).mono ?_
        rintro e w3 ⟨rfl, hb⟩
        have HB3 := Lib.hid (HB2.out.trans (hb.mono HB2.out.size)); have HR3 := Lib.hid (HR2.out.on hb)
        clear hb HB2 HR2
        go_wp2_with fail
        refine (HLG.out w3 HR3.out.ss).mono ?_
        rintro e w4 ⟨rfl, hb⟩
        have HB4 := Lib.hid (HB3.out.trans (hb.mono HB3.out.size)); have HR4 := Lib.hid (HR3.out.on hb)
        clear hb HB3 HR3 HLG
        go_wp2_with fail
        refine (HRW.out w4 HR4.out.ss).mono ?_
        rintro e w5 ⟨rfl, hb⟩
        have HB5 := Lib.hid (HB4.out.trans (hb.mono HB4.out.size)); have HR5 := Lib.hid (HR4.out.on hb)
        clear hb HB4 HR4 HRW
        go_wp2_with fail
        go_ret
        exact ⟨rfl, HB5.out⟩
  · by_cases h1 : s.size ≤ 1024
    · obtain ⟨e1, e2⟩ := wr_one ckP s h1
      rw [e1, e2] at hRC
      have HRR := Lib.hid (fun W => hRR W h1)
      have b1 : (s.size : Int) ≤ 2000 := by omega
      have b2 : ¬ (1024 : Int) < (s.size : Int) := by omega
      obtain ⟨e3, e4⟩ := wr_long ckP L hL
      rw [e3, e4] at hWR
      rw [hL] at hLG
      have HRC := Lib.hid hRC; have HWR := Lib.hid hWR; have HLG := Lib.hid hLG
      clear e1 e2 e3 e4 hRC hWR hLG hRR hRW h1 hL
      generalize strL (recL ckP s) = rs at HRC HRR
      go_enter Try.func3, Try.ntmps3
      go_wp2_with fail
      refine (HF.out w).mono ?_
      rintro e w' ⟨rfl, rfl⟩
      clear HF
      go_wp2_with fail
      refine (HRC.out w).mono ?_
      rintro e w1 ⟨rfl, hb⟩
      have HB1 := Lib.hid hb; have HR1 := Lib.hid (HR.out.on hb)
      clear hb HR HRC
      go_wp2_with fail
      refine (HWR.out w1 HR1.out.ss).mono ?_
      rintro e w2 ⟨rfl, hb⟩
      have HB2 := Lib.hid (HB1.out.trans (hb.mono HB1.out.size)); have HR2 := Lib.hid (HR1.out.on hb)
      clear hb HB1 HR1 HWR
      go_wp2_with fail
      refine (HC.out w2).mono ?_
      rintro e w3 ⟨rfl, hb⟩
      have HB3 := Lib.hid (HB2.out.trans (hb.mono HB2.out.size)); have HR3 := Lib.hid (HR2.out.on hb)
      clear hb HB2 HR2 HC
      go_wp2_with fail
      refine (HRCc.out w3).mono ?_
      rintro e w' ⟨rfl, rfl⟩
      clear HRCc
      go_wp2_with fail
      refine (alive9_any w3).mono ?_
      rintro e w4 ⟨rfl, hb⟩
      have HB4 := Lib.hid (HB3.out.trans (hb.mono HB3.out.size)); have HR4 := Lib.hid (HR3.out.on hb)
      clear hb HB3 HR3
      go_wp2_with fail
      refine (HRR.out w4).mono ?_
      rintro e w5 ⟨rfl, hb⟩
      have HB5 := Lib.hid (HB4.out.trans (hb.mono HB4.out.size)); have HR5 := Lib.hid (HR4.out.on hb)
      clear hb HB4 HR4 HRR
      go_wp2_with fail
      refine (HLG.out w5 HR5.out.ss).mono ?_
      rintro e w6 ⟨rfl, hb⟩
      have HB6 := Lib.hid (HB5.out.trans (hb.mono HB5.out.size)); have HR6 := Lib.hid (HR5.out.on hb)
      clear hb HB5 HR5 HLG
      go_wp2_with fail
      go_ret
      exact ⟨rfl, HB6.out⟩
    · by_cases h2 : s.size ≤ 2000
      · obtain ⟨e1, e2⟩ := wr_long ckP [s] (long_one s h1)
        rw [e1, e2] at hRC
        have b1 : (s.size : Int) ≤ 2000 := by omega
        have b2 : (1024 : Int) < (s.size : Int) := by omega
        obtain ⟨e3, e4⟩ := wr_long ckP L hL
        rw [e3, e4] at hWR
        rw [hL] at hLG
        have HRC := Lib.hid hRC; have HWR := Lib.hid hWR; have HLG := Lib.hid hLG
        clear e1 e2 e3 e4 hRC hWR hLG hRR hRW h1 hL h2
        go_enter Try.func3, Try.ntmps3
        go_wp2_with fail
        refine (HF.out w).mono ?_
        rintro e w' ⟨rfl, rfl⟩
        clear HF
        go_wp2_with fail
        refine (HRC.out w).mono ?_
        rintro e w1 ⟨rfl, hb⟩
        have HB1 := Lib.hid hb; have HR1 := Lib.hid (HR.out.on hb)
        clear hb HR HRC
        go_wp2_with fail
        refine (HWR.out w1 HR1.out.ss).mono ?_
        rintro e w2 ⟨rfl, hb⟩
        have HB2 := Lib.hid (HB1.out.trans (hb.mono HB1.out.size)); have HR2 := Lib.hid (HR1.out.on hb)
        clear hb HB1 HR1 HWR
        go_wp2_with fail
        refine (HC.out w2).mono ?_
        rintro e w3 ⟨rfl, hb⟩
        have HB3 := Lib.hid (HB2.out.trans (hb.mono HB2.out.size)); have HR3 := Lib.hid (HR2.out.on hb)
        clear hb HB2 HR2 HC
        go_wp2_with fail
        refine (HRCc.out w3).mono ?_
        rintro e w' ⟨rfl, rfl⟩
        clear HRCc
        go_wp2_with fail
        refine (alive9_any w3).mono ?_
        rintro e w4 ⟨rfl, hb⟩
        have HB4 := Lib.hid (HB3.out.trans (hb.mono HB3.out.size)); have HR4 := Lib.hid (HR3.out.on hb)
        clear hb HB3 HR3
        go_wp2_with fail
        refine (HLG.out w4 HR4.out.ss).mono ?_
        rintro e w5 ⟨rfl, hb⟩
        have HB5 := Lib.hid (HB4.out.trans (hb.mono HB4.out.size)); have HR5 := Lib.hid (HR4.out.on hb)
        clear hb HB4 HR4 HLG
        go_wp2_with fail
        go_ret
        exact ⟨rfl, HB5.out⟩
      · obtain ⟨e1, e2⟩ := wr_long ckP [s] (long_one s h1)
        rw [e1, e2] at hRC
        have b1 : ¬ (s.size : Int) ≤ 2000 := by omega
        have b2 : (1024 : Int) < (s.size : Int) := by omega
        obtain ⟨e3, e4⟩ := wr_long ckP L hL
        rw [e3, e4] at hWR
        rw [hL] at hLG
        have HRC := Lib.hid hRC; have HWR := Lib.hid hWR; have HLG := Lib.hid hLG
        clear e1 e2 e3 e4 hRC hWR hLG hRR hRW h1 hL h2
        go_enter Try.func3, Try.ntmps3
        go_wp2_with fail
        refine (HF.out w).mono ?_
        rintro e w' ⟨rfl, rfl⟩
        clear HF
        go_wp2_with fail
        refine (HRC.out w).mono ?_
        rintro e w1 ⟨rfl, hb⟩
        have HB1 := Lib.hid hb; have HR1 := Lib.hid (HR.out.on hb)
        clear hb HR HRC
        go_wp2_with fail
        refine (HWR.out w1 HR1.out.ss).mono ?_
        rintro e w2 ⟨rfl, hb⟩
        have HB2 := Lib.hid (HB1.out.trans (hb.mono HB1.out.size)); have HR2 := Lib.hid (HR1.out.on hb)
        clear hb HB1 HR1 HWR
        go_wp2_with fail
        refine (alive9_any w2).mono ?_
        rintro e w3 ⟨rfl, hb⟩
        have HB3 := Lib.hid (HB2.out.trans (hb.mono HB2.out.size)); have HR3 := Lib.hid (HR2.out.on hb)
        clear hb HB2 HR2
        go_wp2_with fail
        refine (HLG.out w3 HR3.out.ss).mono ?_
        rintro e w4 ⟨rfl, hb⟩
        have HB4 := Lib.hid (HB3.out.trans (hb.mono HB3.out.size)); have HR4 := Lib.hid (HR3.out.on hb)
        clear hb HB3 HR3 HLG
        go_wp2_with fail
        go_ret
        exact ⟨rfl, HB4.out⟩
end Go.Proofs.Ytimijdmigdlhfaa
