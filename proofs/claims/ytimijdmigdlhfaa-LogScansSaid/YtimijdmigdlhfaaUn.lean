/- The law LogTorn. -/
import Derived.Test.YtimijdmigdlhfaaUm
import Derived.Test.YtimijdmigdlhfaaUj
namespace Go.Proofs.Ytimijdmigdlhfaa
open Go.RowKit
set_option maxRecDepth 100000
/-- texts that came in, or that lie in a row of the call's own: how a slice of them reads -/
structure Rd9 (w : World) (a : Option Addr) (c : Nat) (l : List ByteArray) : Prop where
  ss : SSl w a l
  cap : l.length ≤ c
  none : a = none → c = 0 ∧ l = []
theorem Rd9.on {w w' : World} {a : Option Addr} {c : Nat} {l : List ByteArray} (h : Rd9 w a c l) (hb : Below w.heap.size w w') : Rd9 w' a c l := ⟨h.ss.on hb, h.cap, h.none⟩
theorem Rd9.take {w : World} {a : Option Addr} {c : Nat} {l : List ByteArray} (h : Rd9 w a c l) (k : Nat) : Rd9 w a c (l.take k) :=
  ⟨h.ss.take k, by rw [List.length_take]; have := h.cap; omega, fun e => by obtain ⟨h1, h2⟩ := h.none e; exact ⟨h1, by rw [h2]; simp⟩⟩
theorem OwnS.rd {w : World} {base : Nat} {v : Value} {l : List ByteArray} (h : OwnS w base v l) : ∃ a c, v = .slice a l.length c ∧ Rd9 w a c l := by
  rcases h.2 with ⟨e, h0⟩ | ⟨g, cap, cur, e, -, hg, hc, -⟩
  · have h1 : l = [] := List.length_eq_zero_iff.1 h0
    subst h1
    exact ⟨none, 0, e, SSl.nil _ _, Nat.le_refl _, fun _ => ⟨rfl, rfl⟩⟩
  · subst e
    refine ⟨_, _, rfl, fun _ => ?_, hc, fun e => by cases e⟩
    obtain ⟨g', off, cap', e, hlt, hcc⟩ := h.strs rfl
    cases e
    exact ⟨_, _, rfl, hlt, hcc⟩
theorem scan_rd (s : ByteArray) (ts : List ByteArray) (n : Nat) (hs : s.size ≤ maxLen) (hsc : scanL ckP (bl s) = (ts, n)) (hN : ts.length ≤ 1000) (w : World) :
    Calls Try.prog 17 #[.string s] w fun e w' => ∃ a c, e = .returned (.tuple #[.slice a ts.length c, .int .i64 (n : Int)]) ∧ Rd9 w' a c ts ∧ Below w.heap.size w w' := by
  have h := Scan_any s hs (by rw [hsc]; exact hN) w
  rw [hsc] at h
  refine h.mono ?_
  rintro e w' ⟨v, rfl, ho, hb⟩
  obtain ⟨a, c, rfl, hr⟩ := ho.rd
  exact ⟨a, c, rfl, hr, hb⟩
theorem concat_rd (a b : Option Addr) (c d : Nat) (l m : List ByteArray) (hl : l.length ≤ 100) (hm : m.length ≤ 100) (A : Nat) (w : World) (hlt : A < w.heap.size)
    (h0 : w.cell? ⟨A, 0, none⟩ = some (.slice a l.length c)) (h1 : w.cell? ⟨A, 1, none⟩ = some (.slice b m.length d)) (hp : Rd9 w a c l) (hq : Rd9 w b d m) :
    Calls Try.prog 24 #[.slice (some ⟨A, 0, none⟩) 2 2] w fun e w' => ∃ a' c', e = .returned (.slice a' (l ++ m).length c') ∧ Rd9 w' a' c' (l ++ m) ∧ Below w.heap.size w w' := by
  refine (concat_any a b c d l m hl hm hp.none hq.none A w hlt h0 h1 hp.ss hq.ss).mono ?_
  rintro e w' ⟨v, rfl, ho, hb⟩
  obtain ⟨a', c', rfl, hr⟩ := ho.rd
  exact ⟨a', c', rfl, hr, hb⟩
def TnRel (_ w : World) (a0 : Option Addr) (c0 : Nat) (L : List ByteArray) (q : Nat) (many stop i : Value) (wr : World) : Prop :=
  ∃ j : Nat, j ≤ L.length ∧ i = .int .i64 (j : Int) ∧ many = .int .i64 (j : Int) ∧ stop = .int .i64 ((logL ckP (L.take j)).length : Int) ∧ (logL ckP (L.take j)).length ≤ q ∧ Below w.heap.size w wr ∧ Rd9 wr a0 c0 L
set_option maxHeartbeats 8000000 in
theorem logTorn_any (a0 a1 : Option Addr) (c0 c1 : Nat) (l m : List ByteArray) (k : Int) (hk : -9223372036854775808 ≤ k ∧ k ≤ 9223372036854775807) (hl : l.length ≤ maxLen) (hm : m.length ≤ maxLen) (fl : Fit l) (fm : Fit m) (w : World) (rl : Rd9 w a0 c0 l) (rm : Rd9 w a1 c1 m) :
    Calls Try.prog 6 #[.slice a0 l.length c0, .slice a1 m.length c1, .int .i64 k] w fun e w' => e = .returned (.bool true) ∧ Below w.heap.size w w' := by
  have hF0 := fun W => few9_any a0 c0 l hl rl.cap W
  have hF1 := fun W => few9_any a1 c1 m hm rm.cap W
  have hl8 : (l.take 8).length ≤ 8 := by rw [List.length_take]; omega
  have hm8 : (m.take 8).length ≤ 8 := by rw [List.length_take]; omega
  have fl8 := fl.take 8
  have fm8 := fm.take 8
  have rl8 := rl.take 8
  have rm8 := rm.take 8
  have HF := Lib.hid (And.intro hF0 hF1)
  clear hF0 hF1
  obtain ⟨n0, en0⟩ : ∃ n0, l.length = n0 := ⟨_, rfl⟩
  obtain ⟨n1, en1⟩ : ∃ n1, m.length = n1 := ⟨_, rfl⟩
  rw [en0, en1] at HF ⊢
  generalize l.take 8 = L at hl8 fl8 rl8 HF
  generalize m.take 8 = M at hm8 fm8 rm8 HF
  clear fl fm rl rm hl hm en0 en1
  have HW0 := Lib.hid (fun W (h : SSl W a0 L) => Write_any a0 c0 L (by omega) fl8 W h)
  have HW1 := Lib.hid (fun W (h : SSl W a1 M) => Write_any a1 c1 M (by omega) fm8 W h)
  have HFL := Lib.hid fl8
  have HR := Lib.hid (And.intro rl8 rm8)
  clear fl8 fm8 rl8 rm8
  go_enter Try.func6, Try.ntmps6
  go_wp2_with fail
  refine (HF.out.1 w).mono ?_
  rintro e w' ⟨rfl, rfl⟩
  go_wp2_with fail
  refine (HF.out.2 w).mono ?_
  rintro e w' ⟨rfl, rfl⟩
  clear HF
  go_wp2_with fail
  refine (HW0.out w HR.out.1.ss).mono ?_
  rintro e w1 ⟨rfl, hb1⟩
  have HB := Lib.hid hb1
  have HR1 := Lib.hid (And.intro (HR.out.1.on hb1) (HR.out.2.on hb1))
  clear hb1 HR
  go_wp2_with fail
  refine (HW1.out w1 HR1.out.2.ss).mono ?_
  rintro e w2 ⟨rfl, hb1⟩
  have HB2 := Lib.hid (HB.out.trans (hb1.mono HB.out.size))
  have HR2 := Lib.hid (And.intro (HR1.out.1.on hb1) (HR1.out.2.on hb1))
  clear hb1 HR1 HB HW1
  cases hL : longS 1024 L
  case true =>
    obtain ⟨e1, e2⟩ := wr_long ckP L hL
    rw [e1, e2]
    generalize wrS ckP M = tM
    generalize wrE M = eM
    clear e1 e2 hL
    go_wp2_with fail
    refine (alive9_any w2).mono ?_
    rintro e w3 ⟨rfl, hb3⟩
    have HB3 := Lib.hid (HB2.out.trans (hb3.mono HB2.out.size))
    clear hb3
    go_wp2_with fail
    go_ret
    exact ⟨rfl, HB3.out⟩
  case false =>
    obtain ⟨e1, e2⟩ := wr_fits ckP L hL
    rw [e1, e2]
    cases hM : longS 1024 M
    case true =>
      obtain ⟨e3, e4⟩ := wr_long ckP M hM
      rw [e3, e4]
      generalize strL (logL ckP L) = tL
      clear e1 e2 e3 e4 hL hM
      go_wp2_with fail
      refine (alive9_any w2).mono ?_
      rintro e w3 ⟨rfl, hb3⟩
      have HB3 := Lib.hid (HB2.out.trans (hb3.mono HB2.out.size))
      clear hb3
      go_wp2_with fail
      go_ret
      exact ⟨rfl, HB3.out⟩
    case false =>
      obtain ⟨e3, e4⟩ := wr_fits ckP M hM
      rw [e3, e4]
      clear e1 e2 e3 e4
      obtain ⟨s, es⟩ : ∃ s, strL (logL ckP L) = s := ⟨_, rfl⟩
      obtain ⟨t, et⟩ : ∃ t, strL (logL ckP M) = t := ⟨_, rfl⟩
      have hbs : bl s = logL ckP L := by rw [← es, bl_strL]
      have hbt : bl t = logL ckP M := by rw [← et, bl_strL]
      have hns : s.size ≤ 8296 := by
        have := logL_le ckP L hL
        rw [← bl_length, hbs]; omega
      have hnt : t.size ≤ 8296 := by
        have := logL_le ckP M hM
        rw [← bl_length, hbt]; omega
      have hs1 : scanL ckP (bl s) = (L, s.size) := by
        rw [hbs, scanL_whole ckP L hL, ← hbs, bl_length]
      have hs2 : scanL ckP (bl (s ++ t)) = (L ++ M, s.size + t.size) := by
        rw [bl_append, hbs, hbt, scanL_log ckP L _ hL, scanL_whole ckP M hM, ← hbs, ← hbt, bl_length, bl_length]
      have hst : (s ++ t).size = s.size + t.size := by rw [← bl_length, bl_append, List.length_append, bl_length, bl_length]
      obtain ⟨z, ez⟩ : ∃ z, s.size + t.size = z := ⟨_, rfl⟩
      rw [ez] at hs2 hst
      have hz : (s.size : Int) + (t.size : Int) = (z : Int) := by omega
      have hz2 : (z : Int) ≤ 9223372036854775807 := by omega
      clear ez
      have S1 := Lib.hid (fun W => scan_rd s L s.size (by unfold maxLen; omega) hs1 (by omega) W)
      have S2 := Lib.hid (fun W => scan_rd (s ++ t) (L ++ M) z (by unfold maxLen; omega) hs2 (by rw [List.length_append]; omega) W)
      rw [es, et]
      have HL := Lib.hid (And.intro hl8 (And.intro hm8 (And.intro hL hM))); have HS := Lib.hid (And.intro hns (And.intro hnt hbs)); have HK := Lib.hid hk
      have hcat : ∀ W : World, (Op.stringOp .add s t).run Try.prog W = .ok (.string (s ++ t)) W := fun W => run_string_add_sum W _ _ (by omega)
      clear hl8 hm8 hL hM hns hnt hbs hbt hs1 hs2 hst es et hk
      go_wp2_with fail
      refine (S1.out w2).mono ?_
      rintro e w3 ⟨a3, c3, rfl, hr3, hb3⟩
      have HB3 := Lib.hid (HB2.out.trans (hb3.mono HB2.out.size))
      have HR3 := Lib.hid (And.intro (HR2.out.1.on hb3) (And.intro (HR2.out.2.on hb3) hr3))
      clear hb3 hr3 HB2 HR2 S1
      obtain ⟨st, est⟩ : ∃ st, s ++ t = st := ⟨_, rfl⟩
      rw [est] at S2
      simp only [est] at hcat
      clear est
      go_wp2_with fail
      refine (S2.out w3).mono ?_
      rintro e w4 ⟨a4, c4, rfl, hr4, hb4⟩
      have HB4 := Lib.hid (HB3.out.trans (hb4.mono HB3.out.size))
      have HR4 := Lib.hid (And.intro (HR3.out.1.on hb4) (And.intro (HR3.out.2.1.on hb4) (And.intro (HR3.out.2.2.on hb4) hr4)))
      clear hb4 hr4 HB3 HR3 S2 hcat
      go_wp2_with fail
      refine (texts_same a3 a0 c3 c0 L (by have := HL.out.1; omega) w4 HR4.out.2.2.1.ss HR4.out.1.ss).mono ?_
      rintro e w5 ⟨rfl, hb5⟩
      have HB5 := Lib.hid (HB4.out.trans (hb5.mono HB4.out.size))
      have HR5 := Lib.hid (And.intro (HR4.out.1.on hb5) (And.intro (HR4.out.2.1.on hb5) (HR4.out.2.2.2.on hb5)))
      clear hb5 HB4 HR4
      go_wp2_with fail
      obtain ⟨W5, eW5⟩ : ∃ W5, w5.alloc (.cells #[.slice a0 L.length c0, .slice a1 M.length c1] 22) = W5 := ⟨_, rfl⟩
      have q0 : W5.cell? ⟨w5.heap.size, 0, none⟩ = some (.slice a0 L.length c0) := by rw [← eW5, cell_of_row _ _ _ _ _ _ (heap_alloc_new _ _)]; rfl
      have q1 : W5.cell? ⟨w5.heap.size, 1, none⟩ = some (.slice a1 M.length c1) := by rw [← eW5, cell_of_row _ _ _ _ _ _ (heap_alloc_new _ _)]; rfl
      have hb5 : Below w5.heap.size w5 W5 := by rw [← eW5]; exact (Below.refl _ _).alloc (Nat.le_refl _) _
      have hlt5 : w5.heap.size < W5.heap.size := by rw [← eW5]; simp
      have HB6 := Lib.hid (HB5.out.trans (hb5.mono HB5.out.size))
      have HR6 := Lib.hid (And.intro (HR5.out.1.on hb5) (And.intro (HR5.out.2.1.on hb5) (HR5.out.2.2.on hb5)))
      have hCC := concat_rd a0 a1 c0 c1 L M (by have := HL.out.1; omega) (by have := HL.out.2.1; omega) w5.heap.size W5 hlt5 q0 q1 HR6.out.1 HR6.out.2.1
      rw [eW5]
      clear q0 q1 hb5 hlt5 HB5 HR5 eW5
      refine hCC.mono ?_
      rintro e w6 ⟨a6, c6, rfl, hr6, hb6⟩
      have HB7 := Lib.hid (HB6.out.trans (hb6.mono HB6.out.size))
      have hTT := texts_same a4 a6 c4 c6 (L ++ M) (by rw [List.length_append]; have := HL.out; omega) w6 (HR6.out.2.2.on hb6).ss hr6.ss
      rw [List.length_append] at hTT
      have HR7 := Lib.hid (HR6.out.1.on hb6)
      have HTT := Lib.hid hTT
      clear hb6 hr6 HB6 HR6 hCC hTT
      go_wp2_with fail
      refine HTT.out.mono ?_
      rintro e w7 ⟨rfl, hb7⟩
      have HB8 := Lib.hid (HB7.out.trans (hb7.mono HB7.out.size))
      have HR8 := Lib.hid (HR7.out.on hb7)
      clear hb7 HB7 HR7 HTT
      go_wp2_with fail
      refine (alive9_any w7).mono ?_
      rintro e w8 ⟨rfl, hb8⟩
      have HB9 := Lib.hid (HB8.out.trans (hb8.mono HB8.out.size))
      have HR9 := Lib.hid (HR8.out.on hb8)
      clear hb8 HB8 HR8
      clear hz hz2
      obtain ⟨n, en⟩ : ∃ n, s.size = n := ⟨_, rfl⟩
      have hn := HS.out.1
      have hkk := HK.out
      rw [en] at hn
      obtain ⟨d, ed⟩ : ∃ d, (n : Int) + 1 = d := ⟨_, rfl⟩
      have hd1 : 1 ≤ d ∧ d ≤ 8297 := by omega
      obtain ⟨r, er⟩ : ∃ r, Int.tmod k d = r := ⟨_, rfl⟩
      have hr1 : -(n : Int) ≤ r ∧ r ≤ (n : Int) := by
        rw [← er]
        have h1 := Int.tmod_lt_of_pos k (show (0 : Int) < d by omega)
        have h2 := Int.lt_tmod_of_pos k (show (0 : Int) < d by omega)
        omega
      obtain ⟨r2, er2⟩ : ∃ r2, r + (n : Int) = r2 := ⟨_, rfl⟩
      obtain ⟨r3, er3⟩ : ∃ r3, r2 + 1 = r3 := ⟨_, rfl⟩
      have hr2 : 0 ≤ r2 ∧ r2 ≤ 20000 := by omega
      have hr3 : 0 ≤ r3 ∧ r3 ≤ 20000 := by omega
      obtain ⟨q, eq, hqn⟩ : ∃ q : Nat, Int.tmod r3 d = (q : Int) ∧ q ≤ n := by
        have h1 := Int.tmod_lt_of_pos r3 (show (0 : Int) < d by omega)
        have h2 := Int.tmod_nonneg d (show (0 : Int) ≤ r3 by omega)
        exact ⟨(Int.tmod r3 d).toNat, by omega, by omega⟩
      have hrn : -8297 ≤ r ∧ r ≤ 8297 := by omega
      have hd0 : (d = 0) = False := by simp; omega
      have hwd : IntKind.i64.wrap d = d := by rw [IntKind.wrap_i64]; omega
      have hwr : IntKind.i64.wrap r = r := by rw [IntKind.wrap_i64]; omega
      have hwr2 : IntKind.i64.wrap r2 = r2 := by rw [IntKind.wrap_i64]; omega
      have hwr3 : IntKind.i64.wrap r3 = r3 := by rw [IntKind.wrap_i64]; omega
      have hwq : IntKind.i64.wrap (q : Int) = (q : Int) := by rw [IntKind.wrap_i64]; omega
      have HQ := Lib.hid (And.intro hqn en)
      rw [en]
      clear hqn hn hkk hr1 hrn hr2 hr3 hd1
      go_upto_region 12 with fail
      clear hd0 hwd hwr hwr2 hwr3 hwq er er2 er3 eq ed
      go_wp2_with fail
      go_loopw [15, 16, 118] (TnRel w8 w a0 c0 L q) (fun _ _ i _ => L.length - (intOf i).toNat)
      case atStart => exact ⟨0, Nat.zero_le _, rfl, rfl, rfl, by simp [logL_nil], HB9.out, HR9.out⟩
      case round =>
        clear HB9 HR9
        obtain ⟨j, hj, rfl, rfl, rfl, hle, hB, hR⟩ := hrel
        have HBr := Lib.hid hB; have HRr := Lib.hid hR
        clear hB hR
        by_cases hlt : j < L.length
        · have h1 : (j : Int) < (L.length : Int) := by omega
          have h8 : (j : Int) < 8 := by have := HL.out.1; omega
          have hjc : (j : Int) + 1 ≤ (c0 : Int) := by have := HRr.out.cap; omega
          have hlen1 : (L.take (j + 1)).length = j + 1 := by rw [List.length_take]; omega
          have hlf := longS_take HL.out.2.2.1 (j + 1)
          obtain ⟨e1, e2⟩ := wr_fits ckP (L.take (j + 1)) hlf
          have hw := Write_any a0 c0 (L.take (j + 1)) (by rw [hlen1]; have := HL.out.1; omega) (HFL.out.take (j + 1)) wr (HRr.out.take (j + 1)).ss
          rw [hlen1, e1, e2] at hw
          have hsz1 : (strL (logL ckP (L.take (j + 1)))).size = (logL ckP (L.take (j + 1))).length := strL_size _
          have hle1 := logL_le ckP (L.take (j + 1)) hlf
          have htn := scanL_torn ckP L HL.out.2.2.1 j q hlt hle
          obtain ⟨st, est⟩ : ∃ st, (logL ckP (L.take j)).length = st := ⟨_, rfl⟩
          obtain ⟨st1, est1⟩ : ∃ st1, (logL ckP (L.take (j + 1))).length = st1 := ⟨_, rfl⟩
          rw [est1] at hsz1 hle1 htn
          rw [est] at htn ⊢
          have HWW := Lib.hid hw; have HTN := Lib.hid htn; have HE := Lib.hid (And.intro est est1)
          clear hw htn hlen1 hlf e1 e2 est est1 hle
          generalize strL (logL ckP (L.take (j + 1))) = sj at HWW hsz1
          go_wp2_with fail
          refine HWW.out.mono ?_
          rintro e w9 ⟨rfl, hb9⟩
          have HBn := Lib.hid (HBr.out.trans (hb9.mono HBr.out.size)); have HRn := Lib.hid (HRr.out.on hb9)
          clear hb9 HBr HRr HWW
          have HSZ := Lib.hid hle1
          clear hle1
          by_cases hgt : q < st1
          · have hg : (st1 : Int) > (q : Int) := by omega
            have HSC := Lib.hid (HTN.out hgt)
            clear HTN hgt
            have hgi : (q : Int) < (sj.size : Int) := by omega
            clear hg
            have HBr := HBn; have HRr := HRn
            clear HBn HRn
            have hcut := cut_ahead s q (by have := HQ.out; omega)
            have hsq : bl (strL ((bl s).take q)) = (logL ckP L).take q := by rw [bl_strL, HS.out.2.2]
            have hsz : (strL ((bl s).take q)).size ≤ maxLen := by rw [strL_size, List.length_take, bl_length]; have := HS.out.1; unfold maxLen; omega
            have hsn := scan_rd (strL ((bl s).take q)) (L.take j) st hsz (by rw [hsq]; exact HSC.out) (by rw [List.length_take]; have := HL.out.1; omega) w9
            have hjl : (L.take j).length = j := by rw [List.length_take]; omega
            rw [hjl] at hsn
            have hts := fun (a b : Option Addr) (c d : Nat) (W : World) (h1 : Rd9 W a c (L.take j)) (h2 : Rd9 W b d (L.take j)) => texts_same a b c d (L.take j) (by rw [hjl]; have := HL.out.1; omega) W h1.ss h2.ss
            rw [hjl] at hts
            have hJc : (j : Int) ≤ (c0 : Int) := by have := HRr.out.cap; omega
            have hJ8 : (j : Int) ≤ 8 := by have := HL.out.1; omega
            have hqs : (q : Int) ≤ (s.size : Int) := by have := HQ.out; omega
            have HSN := Lib.hid hsn; have HTS := Lib.hid hts; have HRt := Lib.hid (HRr.out.take j)
            clear hsq hsz hsn hjl hts
            generalize strL ((bl s).take q) = sq at hcut HSN
            go_wp2_with fail
            refine HSN.out.mono ?_
            rintro e wa ⟨ap, cp, rfl, hrp, hba⟩
            have HBa := Lib.hid (HBr.out.trans (hba.mono HBr.out.size))
            have HT := Lib.hid (HTS.out ap a0 cp c0 wa hrp (HRt.out.on hba))
            clear hba hrp HSN HTS hcut
            go_wp2_with fail
            refine HT.out.mono ?_
            rintro e wb ⟨rfl, hbb⟩
            have HBb := Lib.hid (HBa.out.trans (hbb.mono HBa.out.size))
            clear hbb HT HBa
            go_wp2_with fail
            go_ret
            exact ⟨rfl, HBb.out⟩
          · have hgi : ¬ (q : Int) < (sj.size : Int) := by omega
            have HQ1 := Lib.hid (show st1 ≤ q by omega)
            clear HTN hgt
            go_wp2_with fail
            exact ⟨⟨j + 1, by omega, by simp, by simp, by rw [HE.out.2], by rw [HE.out.2]; exact HQ1.out, HBn.out, HRn.out⟩, by simp [intOf]; omega⟩
        · obtain rfl : j = L.length := by omega
          have hn : ¬ (L.length : Int) < (L.length : Int) := by omega
          have hq : q = s.size := by
            rw [List.take_of_length_le (Nat.le_refl _), ← HS.out.2.2, bl_length] at hle
            have := HQ.out; omega
          have hsc0 : scanL ckP ((logL ckP L).take q) = (L.take L.length, (logL ckP (L.take L.length)).length) := by
            rw [hq, List.take_of_length_le (Nat.le_refl _), ← HS.out.2.2, List.take_of_length_le (Nat.le_of_eq (bl_length s)), HS.out.2.2]
            exact scanL_whole ckP L HL.out.2.2.1
          obtain ⟨st, est⟩ : ∃ st, (logL ckP (L.take L.length)).length = st := ⟨_, rfl⟩
          rw [est] at hsc0 ⊢
          have HSC := Lib.hid hsc0
          clear hsc0 est hle hq
          have hcut := cut_ahead s q (by have := HQ.out; omega)
          have hsq : bl (strL ((bl s).take q)) = (logL ckP L).take q := by rw [bl_strL, HS.out.2.2]
          have hsz : (strL ((bl s).take q)).size ≤ maxLen := by rw [strL_size, List.length_take, bl_length]; have := HS.out.1; unfold maxLen; omega
          have hsn := scan_rd (strL ((bl s).take q)) (L.take L.length) st hsz (by rw [hsq]; exact HSC.out) (by rw [List.length_take]; have := HL.out.1; omega) wr
          have hjl : (L.take L.length).length = L.length := by rw [List.length_take]; omega
          rw [hjl] at hsn
          have hts := fun (a b : Option Addr) (c d : Nat) (W : World) (h1 : Rd9 W a c (L.take L.length)) (h2 : Rd9 W b d (L.take L.length)) => texts_same a b c d (L.take L.length) (by rw [hjl]; have := HL.out.1; omega) W h1.ss h2.ss
          rw [hjl] at hts
          have hJc : (L.length : Int) ≤ (c0 : Int) := by have := HRr.out.cap; omega
          have hJ8 : (L.length : Int) ≤ 8 := by have := HL.out.1; omega
          have hqs : (q : Int) ≤ (s.size : Int) := by have := HQ.out; omega
          have HSN := Lib.hid hsn; have HTS := Lib.hid hts; have HRt := Lib.hid (HRr.out.take L.length)
          clear hsq hsz hsn hjl hts
          generalize strL ((bl s).take q) = sq at hcut HSN
          go_wp2_with fail
          refine HSN.out.mono ?_
          rintro e wa ⟨ap, cp, rfl, hrp, hba⟩
          have HBa := Lib.hid (HBr.out.trans (hba.mono HBr.out.size))
          have HT := Lib.hid (HTS.out ap a0 cp c0 wa hrp (HRt.out.on hba))
          clear hba hrp HSN HTS hcut
          go_wp2_with fail
          refine HT.out.mono ?_
          rintro e wb ⟨rfl, hbb⟩
          have HBb := Lib.hid (HBa.out.trans (hbb.mono HBa.out.size))
          clear hbb HT HBa
          go_wp2_with fail
          go_ret
          exact ⟨rfl, HBb.out⟩
end Go.Proofs.Ytimijdmigdlhfaa