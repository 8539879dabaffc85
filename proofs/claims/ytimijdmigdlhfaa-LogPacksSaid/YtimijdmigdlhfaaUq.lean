/- The law LogRecovers. -/
import Derived.Test.YtimijdmigdlhfaaUn
import Derived.Test.YtimijdmigdlhfaaUl
import Derived.Test.YtimijdmigdlhfaaUp
namespace Go.Proofs.Ytimijdmigdlhfaa
open Go.RowKit
set_option maxRecDepth 100000
theorem recover_rd (s : ByteArray) (ts : List ByteArray) (x : ByteArray) (l : List ByteArray) (hs : s.size ≤ maxLen) (hsc : (scanL ckP (bl s)).1 = ts) (hr : recoverL ts = (x, l)) (hN : ts.length ≤ 1000) (w : World) :
    Calls Try.prog 18 #[.string s] w fun e w' => ∃ a c, e = .returned (.tuple #[.string x, .slice a l.length c]) ∧ Rd9 w' a c l ∧ Below w.heap.size w w' := by
  have h := Recover_any s hs (by rw [hsc]; exact hN) w
  rw [hsc, hr] at h
  refine h.mono ?_
  rintro e w' ⟨v, rfl, ho, hb⟩
  obtain ⟨a, c, rfl, hr⟩ := ho.rd
  exact ⟨a, c, rfl, hr, hb⟩
def McRel (w : World) (_ : Option Addr) (_ : Nat) (M : List ByteArray) (v i : Value) (wr : World) : Prop :=
  ∃ k : Nat, k ≤ M.length ∧ i = .int .i64 (k : Int) ∧ OwnS wr w.heap.size v ((M.take k).map cT) ∧ Below w.heap.size w wr ∧ w.heap.size ≤ wr.heap.size
theorem map_step (M : List ByteArray) (k : Nat) (h : k < M.length) : (M.take (k + 1)).map cT = (M.take k).map cT ++ [cT (M.getD k ⟨#[]⟩)] := by
  rw [take_next M k h, List.map_append]; rfl
theorem fit_map (l : List ByteArray) (hl : Cut9 l) : Fit (l.map cT) := by
  intro x hx
  obtain ⟨y, hy, rfl⟩ := List.mem_map.1 hx
  have := hl y hy
  unfold maxCut at this
  rw [size_cT]; unfold maxLen; omega
theorem Cut9.take {l : List ByteArray} (h : Cut9 l) (k : Nat) : Cut9 (l.take k) := fun s hs => h s (List.mem_of_mem_take hs)
theorem packT_cat (st : ByteArray) (l m : List ByteArray) : packT st l ++ m.map cT = packT st (l ++ m) := by unfold packT; simp
set_option maxHeartbeats 8000000 in
theorem logRecovers_any (st fr : ByteArray) (hst : st.size ≤ maxCut) (hfr : fr.size ≤ maxCut) (a1 a2 : Option Addr) (c1 c2 : Nat) (l m : List ByteArray) (hl : l.length ≤ maxLen) (hm : m.length ≤ maxLen) (kl : Cut9 l) (km : Cut9 m) (w : World) (rl : Rd9 w a1 c1 l) (rm : Rd9 w a2 c2 m) :
    Calls Try.prog 7 #[.string st, .slice a1 l.length c1, .slice a2 m.length c2, .string fr] w fun e w' => e = .returned (.bool true) ∧ Below w.heap.size w w' := by
  have hF0 := fun W => few9_any a1 c1 l hl rl.cap W
  have hF1 := fun W => few9_any a2 c2 m hm rm.cap W
  have hl8 : (l.take 8).length ≤ 8 := by rw [List.length_take]; omega
  have hm8 : (m.take 8).length ≤ 8 := by rw [List.length_take]; omega
  have kl8 := kl.take 8
  have km8 := km.take 8
  have rl8 := rl.take 8
  have rm8 := rm.take 8
  have HF := Lib.hid (And.intro hF0 hF1)
  clear hF0 hF1
  obtain ⟨n0, en0⟩ : ∃ n0, l.length = n0 := ⟨_, rfl⟩
  obtain ⟨n1, en1⟩ : ∃ n1, m.length = n1 := ⟨_, rfl⟩
  rw [en0, en1] at HF ⊢
  generalize l.take 8 = L at hl8 kl8 rl8 HF
  generalize m.take 8 = M at hm8 km8 rm8 HF
  clear kl km rl rm hl hm en0 en1
  have HPK := Lib.hid (fun W (h : SSl W a1 L) => Pack_log st hst a1 c1 L (by omega) kl8 W h)
  have HRC := Lib.hid (fun W => Record_any (sT fr) (by rw [size_sT]; unfold maxLen; unfold maxCut at hfr; omega) W)
  have HFM := Lib.hid (fit_map M km8)
  have hcf := cat_s fr hfr
  have HR := Lib.hid (And.intro rl8 rm8)
  have HL := Lib.hid (And.intro hl8 (And.intro hm8 km8))
  clear kl8 km8 rl8 rm8 hl8 hm8 hst hfr
  obtain ⟨sf, esf⟩ : ∃ sf, sT fr = sf := ⟨_, rfl⟩
  simp only [esf] at HRC hcf
  have HSF := Lib.hid esf
  clear esf
  obtain ⟨tp, etp⟩ : ∃ tp, packT st L = tp := ⟨_, rfl⟩
  rw [etp] at HPK
  have HTP := Lib.hid etp
  clear etp
  go_enter Try.func7, Try.ntmps7
  go_wp2_with fail
  refine (HF.out.1 w).mono ?_
  rintro e w' ⟨rfl, rfl⟩
  go_wp2_with fail
  refine (HF.out.2 w).mono ?_
  rintro e w' ⟨rfl, rfl⟩
  clear HF
  go_wp2_with fail
  refine (HPK.out w HR.out.1.ss).mono ?_
  rintro e w1 ⟨rfl, hb1⟩
  have HB := Lib.hid hb1
  have HR1 := Lib.hid (And.intro (HR.out.1.on hb1) (HR.out.2.on hb1))
  clear hb1 HR HPK
  generalize hs1 : wrS ckP tp = sp
  generalize he1 : wrE tp = ep
  have HE1 := Lib.hid (And.intro hs1 he1)
  clear hs1 he1
  go_wp2_with fail
  go_loopw [11, 36] (McRel w1 a2 c2 M) (fun _ i _ => M.length - (intOf i).toNat)
  case atStart => exact ⟨0, Nat.zero_le _, rfl, ⟨rfl, .inl ⟨rfl, rfl⟩⟩, Below.refl _ _, Nat.le_refl _⟩
  case round =>
    obtain ⟨k, hk, rfl, ho, hB, hsz⟩ := hrel
    by_cases hlt : k < M.length
    · have h1 : (k : Int) < (M.length : Int) := by omega
      have h1k : (k : Int) < 100 := by have := HL.out.2.1; omega
      obtain ⟨b, off, rfl, hbl, hc⟩ := HR1.out.2.ss (by omega)
      have hcell : wr.cell? ⟨b, off + k, none⟩ = some (.string (M.getD k ⟨#[]⟩)) := by rw [hB.cell (p := ⟨b, off + k, none⟩) hbl]; exact hc k hlt
      have hxs := HL.out.2.2 _ (getD_mem' M k hlt)
      have hstep := map_step M k hlt
      obtain ⟨x, ex⟩ : ∃ x, M.getD k ⟨#[]⟩ = x := ⟨_, rfl⟩
      rw [ex] at hcell hxs hstep
      have hcat := cat_c x hxs
      have hlen : ((M.take k).map cT).length ≤ 1000 := by rw [List.length_map, List.length_take]; have := HL.out.2.1; omega
      obtain ⟨acc, eacc⟩ : ∃ acc, (M.take k).map cT = acc := ⟨_, rfl⟩
      rw [eacc] at ho hstep hlen
      clear eacc
      have hbv : Below wr.heap.size wr (wr.alloc (.cells #[.string (cT x)] 9)) := (Below.refl _ wr).alloc (Nat.le_refl _) _
      have hcv : (wr.alloc (.cells #[.string (cT x)] 9)).cell? ⟨wr.heap.size, 0, none⟩ = some (.string (cT x)) := by rw [cell_of_row _ _ _ _ _ _ (heap_alloc_new _ _)]; rfl
      have HO := Lib.hid (ho.on hbv); have HB3 := Lib.hid (hB.trans (hbv.mono hsz)); have HS := Lib.hid (Nat.le_trans hsz hbv.size); have HST := Lib.hid (And.intro hstep hlen)
      have HCV := Lib.hid hcv
      clear ho hB hsz hc hbl hbv hstep hlen ex hxs hcv
      go_wp2_with (at_builtin; refine append_s rfl _ _ rfl w1.heap.size _ _ (cT x) wr.heap.size rfl HO.out rfl HCV.out HST.out.2 HS.out ?_; intro g cap w3 ho3 hg3; have HO3 := Lib.hid ho3; have HB4 := Lib.hid (HB3.out.grown hg3 HS.out (fun i hi => (World.ownsRow.lt HO.out i hi).1)); have HS3 := Lib.hid (Nat.le_trans HS.out hg3.size); clear ho3 hg3)
      have ho4 := HO3.out
      rw [← HST.out.1] at ho4
      exact ⟨⟨k + 1, by omega, by simp, ho4, HB4.out, HS3.out⟩, by simp [intOf]; omega⟩
    · obtain rfl : k = M.length := by omega
      have hn : ¬ (M.length : Int) < (M.length : Int) := by omega
      rw [List.take_of_length_le (Nat.le_refl _)] at ho
      obtain ⟨a', c', rfl, -, hss⟩ := ho.read
      have hw := Write_any a' c' (M.map cT) (by rw [List.length_map]; have := HL.out.2.1; omega) HFM.out wr hss
      obtain ⟨tm, etm⟩ : ∃ tm, M.map cT = tm := ⟨_, rfl⟩
      rw [etm] at hw ⊢
      have HTM := Lib.hid etm
      have HW := Lib.hid hw; have HB2 := Lib.hid (HB.out.trans (hB.mono HB.out.size))
      have HR2 := Lib.hid (And.intro (HR1.out.1.on hB) (HR1.out.2.on hB))
      clear ho hB hsz hss hw etm HB HR1
      go_wp2_with fail
      refine HW.out.mono ?_
      rintro e w3 ⟨rfl, hb3⟩
      have HB3 := Lib.hid (HB2.out.trans (hb3.mono HB2.out.size))
      have HR3 := Lib.hid (And.intro (HR2.out.1.on hb3) (HR2.out.2.on hb3))
      clear hb3 HB2 HR2 HW
      generalize hs2 : wrS ckP tm = sm
      generalize he2 : wrE tm = em
      have HE2 := Lib.hid (And.intro hs2 he2)
      clear hs2 he2
      go_wp2_with fail
      refine (HRC.out w3).mono ?_
      rintro e w4 ⟨rfl, hb4⟩
      have HB4 := Lib.hid (HB3.out.trans (hb4.mono HB3.out.size))
      have HR4 := Lib.hid (And.intro (HR3.out.1.on hb4) (HR3.out.2.on hb4))
      clear hb4 HB3 HR3 HRC
      generalize hs3 : wrS ckP [sf] = sr
      generalize he3 : wrE [sf] = er
      have HE3 := Lib.hid (And.intro hs3 he3)
      clear hs3 he3
      cases hP : longS 1024 tp
      case true =>
        obtain rfl : ep = 2 := by rw [← HE1.out.2]; exact (wr_long ckP tp hP).2
        clear hP
        go_wp2_with fail
        refine (alive9_any w4).mono ?_
        rintro e w5 ⟨rfl, hb5⟩
        have HB5 := Lib.hid (HB4.out.trans (hb5.mono HB4.out.size))
        clear hb5
        go_wp2_with fail
        go_ret
        exact ⟨rfl, HB5.out⟩
      case false =>
        obtain ⟨rfl, rfl⟩ : ep = 0 ∧ sp = strL (logL ckP tp) := by rw [← HE1.out.2, ← HE1.out.1]; exact ⟨(wr_fits ckP tp hP).2, (wr_fits ckP tp hP).1⟩
        cases hQ : longS 1024 tm
        case true =>
          obtain rfl : em = 2 := by rw [← HE2.out.2]; exact (wr_long ckP tm hQ).2
          generalize strL (logL ckP tp) = sp
          clear hP hQ HE1
          go_wp2_with fail
          refine (alive9_any w4).mono ?_
          rintro e w5 ⟨rfl, hb5⟩
          have HB5 := Lib.hid (HB4.out.trans (hb5.mono HB4.out.size))
          clear hb5
          go_wp2_with fail
          go_ret
          exact ⟨rfl, HB5.out⟩
        case false =>
          obtain ⟨rfl, rfl⟩ : em = 0 ∧ sm = strL (logL ckP tm) := by rw [← HE2.out.2, ← HE2.out.1]; exact ⟨(wr_fits ckP tm hQ).2, (wr_fits ckP tm hQ).1⟩
          cases hR : longS 1024 [sf]
          case true =>
            obtain rfl : er = 2 := by rw [← HE3.out.2]; exact (wr_long ckP [sf] hR).2
            generalize strL (logL ckP tp) = sp
            generalize strL (logL ckP tm) = sm
            clear hP hQ hR HE1 HE2
            go_wp2_with fail
            refine (alive9_any w4).mono ?_
            rintro e w5 ⟨rfl, hb5⟩
            have HB5 := Lib.hid (HB4.out.trans (hb5.mono HB4.out.size))
            clear hb5
            go_wp2_with fail
            go_ret
            exact ⟨rfl, HB5.out⟩
          case false =>
            obtain ⟨rfl, rfl⟩ : er = 0 ∧ sr = strL (logL ckP [sf]) := by rw [← HE3.out.2, ← HE3.out.1]; exact ⟨(wr_fits ckP [sf] hR).2, (wr_fits ckP [sf] hR).1⟩
            clear HE1 HE2 HE3
            have h1 : longS 1024 (tp ++ tm) = false := by rw [longS_append, hP, hQ]; rfl
            have h2 : longS 1024 (tp ++ tm ++ [sf]) = false := by rw [longS_append, h1, hR]; rfl
            have h3 : longS 1024 (tp ++ tm ++ [sf] ++ tm) = false := by rw [longS_append, h2, hQ]; rfl
            obtain ⟨s, es⟩ : ∃ s, strL (logL ckP tp) = s := ⟨_, rfl⟩
            obtain ⟨t, et⟩ : ∃ t, strL (logL ckP tm) = t := ⟨_, rfl⟩
            obtain ⟨u, eu⟩ : ∃ u, strL (logL ckP [sf]) = u := ⟨_, rfl⟩
            have b1 : bl (s ++ t) = logL ckP (tp ++ tm) := by rw [bl_append, ← es, ← et, bl_strL, bl_strL, logL_append]
            have b2 : bl (s ++ t ++ u) = logL ckP (tp ++ tm ++ [sf]) := by rw [bl_append, b1, ← eu, bl_strL, logL_append ckP (tp ++ tm)]
            have b3 : bl (s ++ t ++ u ++ t) = logL ckP (tp ++ tm ++ [sf] ++ tm) := by rw [bl_append, b2, ← et, bl_strL, logL_append ckP (tp ++ tm ++ [sf])]
            have lp : tp.length ≤ 9 := by rw [← HTP.out, packT_len]; have := HL.out.1; omega
            have lm : tm.length ≤ 8 := by rw [← HTM.out, List.length_map]; exact HL.out.2.1
            have z1 := logL_le ckP _ h1
            have z2 := logL_le ckP _ h2
            have z3 := logL_le ckP _ h3
            rw [← b1, bl_length] at z1
            rw [← b2, bl_length] at z2
            rw [← b3, bl_length] at z3
            simp only [List.length_append, List.length_singleton] at z1 z2 z3
            have r1 : recoverL (tp ++ tm) = (st, L ++ M) := by
              rw [← HTP.out, ← HTM.out, packT_cat]
              exact recoverL_pack st (L ++ M) []
            have r2 : recoverL (tp ++ tm ++ [sf]) = (fr, []) := by
              rw [← HSF.out]
              exact recoverL_pack fr [] (tp ++ tm)
            have r3 : recoverL (tp ++ tm ++ [sf] ++ tm) = (fr, M) := by
              rw [← HSF.out, List.append_assoc (tp ++ tm)]
              have e : [sT fr] ++ tm = packT fr M := by rw [← HTM.out]; rfl
              rw [e]
              exact recoverL_pack fr M (tp ++ tm)
            have S1 := Lib.hid (fun W => recover_rd (s ++ t) _ _ _ (by unfold maxLen; omega) (by rw [b1, scanL_whole ckP _ h1]) r1 (by simp; omega) W)
            have S2 := Lib.hid (fun W => recover_rd (s ++ t ++ u) _ _ _ (by unfold maxLen; omega) (by rw [b2, scanL_whole ckP _ h2]) r2 (by simp; omega) W)
            have S3 := Lib.hid (fun W => recover_rd (s ++ t ++ u ++ t) _ _ _ (by unfold maxLen; omega) (by rw [b3, scanL_whole ckP _ h3]) r3 (by simp; omega) W)
            have y1 : (s ++ t).size = s.size + t.size := by rw [← bl_length, bl_append, List.length_append, bl_length, bl_length]
            have y2 : (s ++ t ++ u).size = (s ++ t).size + u.size := by rw [← bl_length, bl_append, List.length_append, bl_length, bl_length]
            have y3 : (s ++ t ++ u ++ t).size = (s ++ t ++ u).size + t.size := by rw [← bl_length, bl_append, List.length_append, bl_length, bl_length]
            have q1 : ∀ W : World, (Op.stringOp .add s t).run Try.prog W = .ok (.string (s ++ t)) W := fun W => run_string_add_sum W _ _ (by omega)
            have q2 : ∀ W : World, (Op.stringOp .add (s ++ t) u).run Try.prog W = .ok (.string (s ++ t ++ u)) W := fun W => run_string_add_sum W _ _ (by omega)
            have q3 : ∀ W : World, (Op.stringOp .add (s ++ t ++ u) t).run Try.prog W = .ok (.string (s ++ t ++ u ++ t)) W := fun W => run_string_add_sum W _ _ (by omega)
            rw [es, et, eu]
            clear h1 h2 h3 b1 b2 b3 lp lm z1 z2 z3 r1 r2 r3 y1 y2 y3 es et eu hP hQ hR hcf
            generalize s ++ t ++ u ++ t = s3 at S3 q3
            generalize s ++ t ++ u = s2 at S2 q2 q3
            generalize s ++ t = s1 at S1 q1 q2
            go_wp2_with fail
            refine (S1.out w4).mono ?_
            rintro e w5 ⟨a5, c5, rfl, hr5, hb5⟩
            have HB5 := Lib.hid (HB4.out.trans (hb5.mono HB4.out.size))
            have HR5 := Lib.hid (And.intro (HR4.out.1.on hb5) (And.intro (HR4.out.2.on hb5) hr5))
            clear hb5 hr5 HB4 HR4 S1
            go_wp2_with fail
            refine (S2.out w5).mono ?_
            rintro e w6 ⟨a6, c6, rfl, hr6, hb6⟩
            have HB6 := Lib.hid (HB5.out.trans (hb6.mono HB5.out.size))
            have HR6 := Lib.hid (And.intro (HR5.out.1.on hb6) (And.intro (HR5.out.2.1.on hb6) (HR5.out.2.2.on hb6)))
            clear hb6 hr6 HB5 HR5 S2
            go_wp2_with fail
            refine (S3.out w6).mono ?_
            rintro e w7 ⟨a7, c7, rfl, hr7, hb7⟩
            have HB7 := Lib.hid (HB6.out.trans (hb7.mono HB6.out.size))
            have HR7 := Lib.hid (And.intro (HR6.out.1.on hb7) (And.intro (HR6.out.2.1.on hb7) (And.intro (HR6.out.2.2.on hb7) hr7)))
            clear hb7 hr7 HB6 HR6 S3 q1 q2 q3
            go_wp2_with fail
            refine (alive9_any w7).mono ?_
            rintro e w8 ⟨rfl, hb8⟩
            have HB8 := Lib.hid (HB7.out.trans (hb8.mono HB7.out.size))
            have HR8 := Lib.hid (And.intro (HR7.out.1.on hb8) (And.intro (HR7.out.2.1.on hb8) (And.intro (HR7.out.2.2.1.on hb8) (HR7.out.2.2.2.on hb8))))
            clear hb8 HB7 HR7
            go_wp2_with fail
            obtain ⟨W5, eW5⟩ : ∃ W5, w8.alloc (.cells #[.slice a1 L.length c1, .slice a2 M.length c2] 22) = W5 := ⟨_, rfl⟩
            have q0 : W5.cell? ⟨w8.heap.size, 0, none⟩ = some (.slice a1 L.length c1) := by rw [← eW5, cell_of_row _ _ _ _ _ _ (heap_alloc_new _ _)]; rfl
            have q1 : W5.cell? ⟨w8.heap.size, 1, none⟩ = some (.slice a2 M.length c2) := by rw [← eW5, cell_of_row _ _ _ _ _ _ (heap_alloc_new _ _)]; rfl
            have hb5 : Below w8.heap.size w8 W5 := by rw [← eW5]; exact (Below.refl _ _).alloc (Nat.le_refl _) _
            have hlt5 : w8.heap.size < W5.heap.size := by rw [← eW5]; simp
            have HB9 := Lib.hid (HB8.out.trans (hb5.mono HB8.out.size))
            have HR9 := Lib.hid (And.intro (HR8.out.1.on hb5) (And.intro (HR8.out.2.1.on hb5) (And.intro (HR8.out.2.2.1.on hb5) (HR8.out.2.2.2.on hb5))))
            have hCC := concat_rd a1 a2 c1 c2 L M (by have := HL.out.1; omega) (by have := HL.out.2.1; omega) w8.heap.size W5 hlt5 q0 q1 HR9.out.1 HR9.out.2.1
            rw [eW5]
            clear q0 q1 hb5 hlt5 HB8 HR8 eW5
            refine hCC.mono ?_
            rintro e w9 ⟨a9, c9, rfl, hr9, hb9⟩
            have HB10 := Lib.hid (HB9.out.trans (hb9.mono HB9.out.size))
            have hTT := texts_same a5 a9 c5 c9 (L ++ M) (by rw [List.length_append]; have := HL.out; omega) w9 (HR9.out.2.2.1.on hb9).ss hr9.ss
            rw [List.length_append] at hTT
            have HR10 := Lib.hid (And.intro (HR9.out.2.1.on hb9) (HR9.out.2.2.2.on hb9))
            have HTT := Lib.hid hTT
            clear hb9 hr9 HB9 HR9 hCC hTT
            go_wp2_with fail
            refine HTT.out.mono ?_
            rintro e w10 ⟨rfl, hb10⟩
            have HB11 := Lib.hid (HB10.out.trans (hb10.mono HB10.out.size))
            have HR11 := Lib.hid (And.intro (HR10.out.1.on hb10) (HR10.out.2.on hb10))
            clear hb10 HB10 HR10 HTT
            go_wp2_with fail
            refine (texts_same a7 a2 c7 c2 M (by have := HL.out.2.1; omega) w10 HR11.out.2.ss HR11.out.1.ss).mono ?_
            rintro e w11 ⟨rfl, hb11⟩
            have HB12 := Lib.hid (HB11.out.trans (hb11.mono HB11.out.size))
            clear hb11 HB11 HR11
            go_wp2_with fail
            go_ret
            exact ⟨rfl, HB12.out⟩
end Go.Proofs.Ytimijdmigdlhfaa