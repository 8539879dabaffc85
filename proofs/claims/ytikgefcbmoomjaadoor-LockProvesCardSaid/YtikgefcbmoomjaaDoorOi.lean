/- LockProves: what is locked is opened as it was, 32 bytes longer; whoever has the key that tags can have other bytes be opened, to a text that differs where they do. -/
import Derived.Test.YtikgefcbmoomjaaDoorOh
import Derived.Test.YtikgefcbmoomjaaDoorOh0
import Derived.Test.YtikgefcbmoomjaaDoorQs
namespace Go.Proofs.YtikgefcbmoomjaaDoor
open Go.RowKit Go.Sort
set_option maxRecDepth 100000
theorem xorB_get (l s : List UInt8) (i : Nat) (h1 : i < l.length) (h2 : i < s.length) : (xorB l s).getD i 0 = l.getD i 0 ^^^ s.getD i 0 := by
  have e : (xorB l s)[i]? = some (l[i] ^^^ s[i]) := by
    unfold xorB
    rw [List.getElem?_zipWith, List.getElem?_eq_getElem h1, List.getElem?_eq_getElem h2]
  rw [List.getD_eq_getElem?_getD, e]
  simp [List.getD, h1, h2]
theorem list_ext_getD (a b : List UInt8) (hl : a.length = b.length) (h : ∀ i, i < a.length → a.getD i 0 = b.getD i 0) : a = b := by
  refine List.ext_getElem hl fun i h1 h2 => ?_
  have := h i h1
  simpa [List.getD, h1, h2] using this
/-- where a text is turned, its xor is turned alike -/
theorem xorC_set (k nc l : List UInt8) (n : Nat) (m : UInt8) (hn : n < l.length) : xorC k nc (l.set n (l.getD n 0 ^^^ m)) = (xorC k nc l).set n ((xorC k nc l).getD n 0 ^^^ m) := by
  have e : xorC k nc (l.set n (l.getD n 0 ^^^ m)) = xorB (l.set n (l.getD n 0 ^^^ m)) (streamC k nc l.length) := by
    show xorB _ (streamC k nc (l.set n (l.getD n 0 ^^^ m)).length) = _
    rw [List.length_set]
  have e2 : xorC k nc l = xorB l (streamC k nc l.length) := rfl
  rw [e, e2]
  have hs := streamC_length k nc l.length
  obtain ⟨s, es⟩ : ∃ s, streamC k nc l.length = s := ⟨_, rfl⟩
  rw [es] at hs ⊢
  have hl1 : (xorB (l.set n (l.getD n 0 ^^^ m)) s).length = l.length := by rw [xorB_length _ _ (by rw [List.length_set]; omega), List.length_set]
  have hl2 : (xorB l s).length = l.length := xorB_length _ _ (by omega)
  refine list_ext_getD _ _ (by rw [hl1, List.length_set, hl2]) fun i hi => ?_
  rw [hl1] at hi
  rw [xorB_get _ _ i (by rw [List.length_set]; exact hi) (by omega)]
  by_cases h : n = i
  · subst h
    rw [xorB_get l s n hn (by omega)]
    simp only [List.getD_eq_getElem?_getD, List.getElem?_set_self hn, List.getElem?_set_self (show n < (xorB l s).length by omega), Option.getD_some]
    rw [UInt8.xor_assoc, UInt8.xor_comm m, ← UInt8.xor_assoc]
  · simp only [List.getD_eq_getElem?_getD, List.getElem?_set_ne h]
    have := xorB_get l s i hi (by omega)
    simp only [List.getD_eq_getElem?_getD] at this
    exact this.symm
theorem turned_again (k nc t : List UInt8) (n : Nat) (m : UInt8) (hn : n < t.length) : xorC k nc ((xorC k nc t).set n ((xorC k nc t).getD n 0 ^^^ m)) = t.set n (t.getD n 0 ^^^ m) := by
  rw [xorC_set k nc _ n m (by rw [xorC_length]; exact hn), xorC_twice]
/-- a place in a text of L bytes, of any number -/
theorem place_ex (i : Int) (L : Nat) (h : 0 < L) (hL : L ≤ 1024) : ∃ (t : Int) (n : Nat), i.tmod (L : Int) = t ∧ -1024 ≤ t ∧ t ≤ 1024 ∧ 0 ≤ t + (L : Int) ∧ (t + (L : Int)).tmod (L : Int) = (n : Int) ∧ (t + (L : Int)) % (L : Int) = (n : Int) ∧ n < L := by
  have h1 : -(L : Int) < i.tmod L ∧ i.tmod L < L := by
    rcases Int.le_total 0 i with h' | h'
    · rw [Int.tmod_eq_emod_of_nonneg h']
      exact ⟨by have := Int.emod_nonneg i (show (L : Int) ≠ 0 by omega); omega, Int.emod_lt_of_pos _ (by omega)⟩
    · have e : (-i).tmod L = -(i.tmod L) := Int.neg_tmod i L
      rw [Int.tmod_eq_emod_of_nonneg (by omega)] at e
      have a := Int.emod_nonneg (-i) (show (L : Int) ≠ 0 by omega)
      have b := Int.emod_lt_of_pos (-i) (show (0 : Int) < L by omega)
      omega
  have h2 : 0 ≤ i.tmod (L : Int) + L := by omega
  have h3 := Int.emod_nonneg (i.tmod (L : Int) + L) (show (L : Int) ≠ 0 by omega)
  have h4 := Int.emod_lt_of_pos (i.tmod (L : Int) + L) (show (0 : Int) < L by omega)
  refine ⟨i.tmod L, ((i.tmod L + L) % L).toNat, rfl, by omega, by omega, h2, ?_, by omega, by omega⟩
  rw [Int.tmod_eq_emod_of_nonneg h2]
  omega

def schPr : List (Nat × Nat) := [(0, 0), (1, 0), (2, 0), (3, 0), (4, 0), (5, 0), (6, 0), (8, 0), (10, 0), (11, 0), (12, 0), (14, 0), (7, 1), (13, 1), (9, 0), (15, 0), (16, 2), (17, 2), (18, 2), (19, 2)]
def noOp6 : Oper := { dst := none, op := .move (.tmp 0), type := 0, pos := "", after := #[], guard := none }
theorem agg_u8_6 (w : World) : (isAgg 5).run Tryd.prog w = .ok false w := run_isAgg_plain Tryd.underlying5 rfl w

set_option maxHeartbeats 8000000 in
theorem lockProves_any (k h x : ByteArray) (i : Int) (y : UInt8) (hk : k.size ≤ maxLen) (hh : h.size ≤ maxLen) (hx : x.size ≤ maxLen) (_hi : -9223372036854775808 ≤ i ∧ i ≤ 9223372036854775807) (w : World) (hF : FirstAt w) (hK : KeysAt w) :
    Calls Tryd.prog 5 #[.string k, .string h, .string x, .int .i64 i, .int .u8 (y.toNat : Int)] w fun e w' => e = .returned (.bool true) ∧ Below w.heap.size w w' := by
  have hkr := cutk_run k hk
  have hc1 : ∀ W : World, Calls Tryd.prog 6 #[.string h, .int .i64 60] W fun e w' => e = .returned (.string (cut6 h 60)) ∧ Below W.heap.size W w' := fun W => (cut6_any h hh 60 (by omega) W).mono fun e w' ⟨h1, h2⟩ => ⟨h1, by rw [← h2]; exact Below.refl _ _⟩
  have hc2 : ∀ W : World, Calls Tryd.prog 6 #[.string x, .int .i64 100] W fun e w' => e = .returned (.string (cut6 x 100)) ∧ Below W.heap.size W w' := fun W => (cut6_any x hx 100 (by omega) W).mono fun e w' ⟨h1, h2⟩ => ⟨h1, by rw [← h2]; exact Below.refl _ _⟩
  have hsk := cutS_size k 40
  have hsh := cut6_size h 60 hh (by omega)
  have hsx := cut6_size x 100 hx (by omega)
  obtain ⟨k1, ek⟩ : ∃ k1, cutS k 40 = k1 := ⟨_, rfl⟩
  obtain ⟨h1, eh⟩ : ∃ h1, cut6 h 60 = h1 := ⟨_, rfl⟩
  obtain ⟨x1, ex⟩ : ∃ x1, cut6 x 100 = x1 := ⟨_, rfl⟩
  rw [ek] at hkr hsk
  rw [eh] at hc1 hsh
  rw [ex] at hc2 hsx
  have HC1 := Lib.hid hc1; have HC2 := Lib.hid hc2; have HSZ := Lib.hid (And.intro hsk (And.intro hsh hsx))
  have HFK := Lib.hid (And.intro hF hK)
  clear hc1 hc2 ek eh ex hk hh hx hsk hsh hsx hF hK
  go_enter Tryd.func5, Tryd.ntmps5
  go_upto_region 1 with fail
  refine wp_region_quiet_below (by kernel_rfl) (by kernel_rfl) ?_
  iterate 12 (quiet_step (first | (go_at_call_of 6 (Value.string h); exact Calls.regrown_of (HC1.out _)) | (go_at_call_of 6 (Value.string x); exact Calls.regrown_of (HC2.out _))))
  refine wpQuiet_nil ?_
  intro _ hw'
  obtain ⟨⟨dq, osq⟩, hw''⟩ := hw'
  subst hw''
  have hB0 := below_regrown w dq osq
  have hF0 := HFK.out.1.on hB0; have hK0 := HFK.out.2.on hB0
  clear hkr HC1 HC2 HFK
  generalize grow (redrawn w dq) osq = W at hB0 hF0 hK0 ⊢
  obtain ⟨hk, hh, hx⟩ := HSZ.out
  clear HSZ
  by_cases hg : k1.size = 32 ∧ h1.size ≤ 1024 ∧ x1.size ≤ 1024
  case neg =>
    have hl := Lock_bad k1 h1 x1 hg
    have HL := Lib.hid hl; have HB0 := Lib.hid hB0; have HF0 := Lib.hid hF0; have HK0 := Lib.hid hK0
    clear hl hg hB0 hF0 hK0 hk hh hx
    go_wp2_with fail
    refine (HL.out _).mono ?_
    rintro e w1 ⟨rfl, rfl⟩
    go_wp2_with fail
    refine (alive6_any _ HF0.out HK0.out).mono ?_
    rintro e w2 ⟨rfl, hb2⟩
    have hb := HB0.out.trans (hb2.mono HB0.out.size)
    clear HL HB0 HF0 HK0 hb2
    go_wp2_with fail
    go_ret
    exact ⟨rfl, hb⟩
  case pos =>
    obtain ⟨g1, g2, g3⟩ := hg
    have hl := fun W p q => Lock_good k1 h1 x1 g1 g2 g3 W p q
    have ho := fun W p q => open_locked k1 h1 x1 g1 g2 g3 W p q
    have hks := fun W p q => Keys_good k1 g1 W p q
    obtain ⟨S, eS⟩ : ∃ S, strL (lockL (bl k1) (bl h1) (bl x1)) = S := ⟨_, rfl⟩
    have hSs : S.size = x1.size + 32 := by rw [← eS, strL_size, lockL_length]; rfl
    have hSi : (S.size : Int) = (x1.size : Int) + 32 := by omega
    rw [eS] at hl ho
    obtain ⟨A, eA⟩ : ∃ A, strL (hideL (bl k1)) = A := ⟨_, rfl⟩
    obtain ⟨B, eB⟩ : ∃ B, strL (tagkL (bl k1)) = B := ⟨_, rfl⟩
    obtain ⟨D, eD⟩ : ∃ D, strL (nonL (bl k1)) = D := ⟨_, rfl⟩
    rw [eA, eB, eD] at hks
    have hBs : B.size = 32 := by rw [← eB, strL_size, tagkL_length]
    have bB : bl B = tagkL (bl k1) := by rw [← eB, bl_strL]
    have wS : IntKind.i64.wrap ((x1.size : Int) + 32) = (x1.size : Int) + 32 := IntWalk.i64_in _ (by omega)
    obtain ⟨C, eC⟩ : ∃ C, strL (xorC (hideL (bl k1)) (nonL (bl k1)) (bl x1)) = C := ⟨_, rfl⟩
    have hCs : C.size = x1.size := by rw [← eC, strL_size, xorC_length]; rfl
    have hSC : S.extract 0 x1.size = C := bl_inj (by
      rw [bl_extract, List.drop_zero, ← eS, bl_strL, ← eC, bl_strL]
      unfold lockL againL
      rw [List.take_append_of_le_length (by rw [xorC_length]; exact Nat.le_refl _), List.take_of_length_le (by rw [xorC_length]; exact Nat.le_refl _)])
    have hsl := slice_to S C x1.size (by omega) hSC
    have HL := Lib.hid hl; have HO := Lib.hid ho; have HKS := Lib.hid hks
    have HB0 := Lib.hid hB0; have HF0 := Lib.hid hF0; have HK0 := Lib.hid hK0; have HSL := Lib.hid hsl
    have HC := Lib.hid eC; have HCS := Lib.hid hCs; have HG := Lib.hid (And.intro g1 (And.intro g2 g3)); have HBB := Lib.hid (And.intro hBs bB)
    clear hl ho hks hB0 hF0 hK0 hk hh hx hsl eS eA eB eD eC hBs bB hCs hSC hSs g1 g2 g3
    go_wp2_with fail
    refine (HL.out _ HF0.out HK0.out).mono ?_
    rintro e w1 ⟨rfl, hb1⟩
    have hF1 := Lib.hid (HF0.out.on hb1); have hK1 := Lib.hid (HK0.out.on hb1)
    have hB1 := Lib.hid (HB0.out.trans (hb1.mono HB0.out.size))
    clear HL HF0 HK0 HB0 hb1
    go_wp2_with fail
    refine (HO.out _ hF1.out hK1.out).mono ?_
    rintro e w2 ⟨rfl, hb2⟩
    have hF2 := Lib.hid (hF1.out.on hb2); have hK2 := Lib.hid (hK1.out.on hb2)
    have hB2 := Lib.hid (hB1.out.trans (hb2.mono hB1.out.size))
    clear HO hF1 hK1 hB1 hb2
    go_wp2_with fail
    refine (HKS.out _ hF2.out hK2.out).mono ?_
    rintro e w3 ⟨rfl, hb3⟩
    have hF3 := Lib.hid (hF2.out.on hb3); have hK3 := Lib.hid (hK2.out.on hb3)
    have hB3 := Lib.hid (hB2.out.trans (hb3.mono hB2.out.size))
    clear HKS hF2 hK2 hB2 hb3
    go_wp2_with fail
    refine (alive6_any _ hF3.out hK3.out).mono ?_
    rintro e w4 ⟨rfl, hb4⟩
    have hF4 := Lib.hid (hF3.out.on hb4); have hK4 := Lib.hid (hK3.out.on hb4)
    have hB4 := Lib.hid (hB3.out.trans (hb4.mono hB3.out.size))
    clear hF3 hK3 hB3 hb4
    by_cases h0 : x1.size = 0
    · have z0 : ((x1.size : Int) == 0) = true := by rw [h0]; rfl
      clear HSL hSi wS
      go_wp2_with fail
      go_ret
      exact ⟨rfl, hB4.out⟩
    · have z0 : ((x1.size : Int) == 0) = false := by rw [beq_eq_false_iff_ne]; omega
      have z1 : ¬ (x1.size : Int) = 0 := by omega
      clear hSi wS
      obtain ⟨G1, G2, G3⟩ := HG.out
      obtain ⟨t, n, et, t0, t1, t2, en, en', hn⟩ := place_ex i x1.size (by omega) G3
      have w1' : IntKind.i64.wrap t = t := IntWalk.i64_in _ (by omega)
      have w2' : IntKind.i64.wrap (t + (x1.size : Int)) = t + (x1.size : Int) := IntWalk.i64_in _ (by omega)
      have w3' : IntKind.i64.wrap (n : Int) = (n : Int) := IntWalk.i64_in _ (by omega)
      obtain ⟨c1, V1, hm1, hA1, hv1, hs1⟩ := made_of C w4
      rw [HCS.out] at hm1
      obtain ⟨c2, V2, hm2, hA2, hv2, hs2⟩ := made_of x1 V1
      rw [hs1] at hm2 hA2
      have hsl := HSL.out
      have hA1' := hA1.on hv2
      have hv := hv1.trans (hv2.mono hv1.size)
      have HA1 := Lib.hid hA1'; have HA2 := Lib.hid hA2; have HV := Lib.hid hv; have HN := Lib.hid hn
      clear hA1 hA2 hA1' hv1 hv2 hv G1 G2 G3 hs1 hs2 HSL
      go_upto_region 13 with fail
      clear hm1 hm2 hsl et t0 t1 t2 en en' w1' w2' w3' z0 z1
      have hn := HN.out
      have hC1 : n < (bl C).length := by rw [bl_length, HCS.out]; exact hn
      have hX1 : n < (bl x1).length := hn
      have a1 := HA1.out.cell n hC1
      have a2 := HA2.out.cell n hX1
      have f1 := HA1.out.free n hC1
      have f2 := HA2.out.free n hX1
      obtain ⟨c, ec⟩ : ∃ c, (bl C).getD n 0 = c := ⟨_, rfl⟩
      obtain ⟨d, ed⟩ : ∃ d, (bl x1).getD n 0 = d := ⟨_, rfl⟩
      rw [ec] at a1
      rw [ed] at a2
      have x1c := bits_xor8 c y
      have x2c := bits_xor8 d y
      obtain ⟨p, ep⟩ : ∃ p, c ^^^ y = p := ⟨_, rfl⟩
      obtain ⟨q, eq⟩ : ∃ q, d ^^^ y = q := ⟨_, rfl⟩
      rw [ep] at x1c
      rw [eq] at x2c
      have hnl : (n : Int) < (x1.size : Int) := by omega
      obtain ⟨L1, eL1⟩ : ∃ L1, (bl C).set n p = L1 := ⟨_, rfl⟩
      obtain ⟨L2, eL2⟩ : ∃ L2, (bl x1).set n q = L2 := ⟨_, rfl⟩
      have hturn : xorC (hideL (bl k1)) (nonL (bl k1)) L1 = L2 := by
        have := turned_again (hideL (bl k1)) (nonL (bl k1)) (bl x1) n y hX1
        rw [← eL1, ← eL2, ← ep, ← eq, ← ec, ← ed, ← HC.out, bl_strL]
        exact this
      have hL1 : L1.length = x1.size := by rw [← eL1, List.length_set, bl_length, HCS.out]
      have hL2 : L2.length = x1.size := by rw [← eL2, List.length_set]; rfl
      have hA1 : BytesAt V2.drew w4.heap.size (bl C) := ⟨HA1.out.lt, HA1.out.cell, HA1.out.free⟩
      have hA2 : BytesAt V2.drew (w4.heap.size + 1) (bl x1) := ⟨HA2.out.lt, HA2.out.cell, HA2.out.free⟩
      have hv := HV.out.drew
      replace a1 : V2.drew.cell? ⟨w4.heap.size, n, none⟩ = some (.int .u8 (c.toNat : Int)) := a1
      replace a2 : V2.drew.cell? ⟨w4.heap.size + 1, n, none⟩ = some (.int .u8 (d.toNat : Int)) := a2
      replace f1 : V2.drew.frozen? ⟨w4.heap.size, n, none⟩ = false := f1
      refine wp_region_sch 5 schPr noOp6 (by kernel_rfl) agg_u8_6 (by kernel_rfl) (by kernel_rfl) (by kernel_rfl) (by kernel_rfl) ?_
      generalize V2.drew = U at hA1 hA2 hv a1 a2 f1 ⊢
      obtain ⟨U1, eU1⟩ : ∃ U1, U.setCell ⟨w4.heap.size, n, none⟩ (.int .u8 (p.toNat : Int)) = U1 := ⟨_, rfl⟩
      obtain ⟨U2, eU2⟩ : ∃ U2, U1.setCell ⟨w4.heap.size + 1, n, none⟩ (.int .u8 (q.toNat : Int)) = U2 := ⟨_, rfl⟩
      have hB1 := hA1.set n p
      have hB2 := hA2.far w4.heap.size n (by omega) (.int .u8 (p.toNat : Int))
      have hu1 := hv.setCell (p := ⟨w4.heap.size, n, none⟩) (Nat.le_refl _) (.int .u8 (p.toNat : Int))
      rw [eU1] at hB1 hB2 hu1
      rw [eL1] at hB1
      have b2 := hB2.cell n hX1
      rw [ed] at b2
      have g2 := hB2.free n hX1
      have hS1 := hB1.far (w4.heap.size + 1) n (by omega) (.int .u8 (q.toNat : Int))
      have hS2 := hB2.set n q
      have hE := hu1.setCell (p := ⟨w4.heap.size + 1, n, none⟩) (Nat.le_succ _) (.int .u8 (q.toNat : Int))
      rw [eU2] at hS1 hS2 hE
      rw [eL2] at hS2
      have HS1 := Lib.hid hS1; have HS2 := Lib.hid hS2; have HE := Lib.hid hE; have HT := Lib.hid hturn; have HLL := Lib.hid (And.intro hL1 hL2)
      clear hA1 hA2 hv hB1 hB2 hu1 hS1 hS2 hE hturn hL1 hL2 eL1 eL2 ep eq ec ed hC1 hX1 HA1 HA2 HV HC hn f2
      simp only [pickS, schPr, List.map_cons, List.map_nil, List.getD_cons_succ, List.getD_cons_zero]
      iterate 20 (refine wpS_step (fun K hK => ?_); simp only [schStep]; go_simp; refine hK _ _ ?_; clear hK K)
      refine ⟨rfl, ?_⟩
      clear a1 a2 f1 b2 g2 x1c x2c hnl eU1 eU2
      obtain ⟨l1, l2⟩ := HLL.out
      have hm3 := HS1.out.text x1.size c1 l1.symm
      obtain ⟨s1, es1⟩ : ∃ s1, strL L1 = s1 := ⟨_, rfl⟩
      obtain ⟨s2, es2⟩ : ∃ s2, strL L2 = s2 := ⟨_, rfl⟩
      rw [es1] at hm3
      obtain ⟨G1, G2, G3⟩ := HG.out
      obtain ⟨hBs, hbB⟩ := HBB.out
      have hag := fun W p q => Again_good B h1 s1 hBs G2 (by rw [← es1, strL_size, l1]; exact G3) W p q
      have hop := fun W p q => open_again k1 h1 L1 G1 G2 (by rw [l1]; exact G3) W p q
      rw [HT.out, es2] at hop
      obtain ⟨R, eR⟩ : ∃ R, strL (againL (tagkL (bl k1)) (bl h1) L1) = R := ⟨_, rfl⟩
      rw [hbB, ← es1, bl_strL, eR, es1] at hag
      rw [eR] at hop
      have hbE := hB4.out.trans (HE.out.mono hB4.out.size)
      have HAG := Lib.hid (hag U2 (hF4.out.on HE.out) (hK4.out.on HE.out))
      have HF5 := Lib.hid (hF4.out.on HE.out); have HK5 := Lib.hid (hK4.out.on HE.out)
      have HOP := Lib.hid hop; have HBE := Lib.hid hbE
      clear hag hop hbE hB4 hF4 hK4 HE HG HBB HT G1 G2 G3 hBs hbB es1 eR l1 HS1 HLL
      go_wp2_with fail
      refine HAG.out.mono ?_
      rintro e w5 ⟨rfl, hb5⟩
      have HB6 := Lib.hid (HBE.out.trans (hb5.mono HBE.out.size))
      have HOP1 := Lib.hid (HOP.out w5 (HF5.out.on hb5) (HK5.out.on hb5))
      have HS6 := Lib.hid (HS2.out.on hb5)
      clear HAG HF5 HK5 HOP HBE hb5 HS2 hm3
      go_wp2_with fail
      refine HOP1.out.mono ?_
      rintro e w6 ⟨rfl, hb6⟩
      have hend := HB6.out.trans (hb6.mono HB6.out.size)
      have hm4 := (HS6.out.on hb6).text x1.size c2 l2.symm
      rw [es2] at hm4
      have HEND := Lib.hid hend
      clear HOP1 HB6 HS6 hb6 hend l2 es2
      go_wp2_with fail
      go_ret
      exact ⟨by first | rfl | simp, HEND.out⟩
end Go.Proofs.YtikgefcbmoomjaaDoor