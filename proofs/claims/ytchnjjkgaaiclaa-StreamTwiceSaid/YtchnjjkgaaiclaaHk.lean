/- StreamTwice: twice xor a text is as it was; a longer stream begins as a shorter one, and is blocks; different four words are mixed to different ones. -/
import Derived.Test.YtchnjjkgaaiclaaHj
namespace Go.Proofs.Ytchnjjkgaaiclaa
open Go.RowKit
set_option maxRecDepth 100000

theorem u32_beq (a b : BitVec 32) : ((a.toNat : Int) == (b.toNat : Int)) = decide (a = b) := by
  by_cases h : a = b
  · subst h; simp
  · have : ¬ a.toNat = b.toNat := fun e => h (BitVec.eq_of_toNat_eq e)
    have h2 : ¬ (a.toNat : Int) = (b.toNat : Int) := by omega
    rw [decide_eq_false h]
    simp [h2]
theorem u32_zero (m : BitVec 32) : ((m.toNat : Int) == 0) = decide (m = 0) := u32_beq m 0
/-- which words are the same, and whether anything was turned -/
theorem turn_cases (q r : Q4) (m : BitVec 32) (h : r = q ↔ m = 0) :
    (((q.a.toNat : Int) == (r.a.toNat : Int)) = false ∧ ((m.toNat : Int) == 0) = false) ∨
    (((q.a.toNat : Int) == (r.a.toNat : Int)) = true ∧ ((q.b.toNat : Int) == (r.b.toNat : Int)) = false ∧ ((m.toNat : Int) == 0) = false) ∨
    (((q.a.toNat : Int) == (r.a.toNat : Int)) = true ∧ ((q.b.toNat : Int) == (r.b.toNat : Int)) = true ∧ ((q.c.toNat : Int) == (r.c.toNat : Int)) = false ∧ ((m.toNat : Int) == 0) = false) ∨
    (((q.a.toNat : Int) == (r.a.toNat : Int)) = true ∧ ((q.b.toNat : Int) == (r.b.toNat : Int)) = true ∧ ((q.c.toNat : Int) == (r.c.toNat : Int)) = true ∧ ((q.d.toNat : Int) == (r.d.toNat : Int)) = false ∧ ((m.toNat : Int) == 0) = false) ∨
    (((q.a.toNat : Int) == (r.a.toNat : Int)) = true ∧ ((q.b.toNat : Int) == (r.b.toNat : Int)) = true ∧ ((q.c.toNat : Int) == (r.c.toNat : Int)) = true ∧ ((q.d.toNat : Int) == (r.d.toNat : Int)) = true ∧ ((m.toNat : Int) == 0) = true) := by
  obtain ⟨a, b, c, d⟩ := q
  obtain ⟨a', b', c', d'⟩ := r
  simp only [Q4.mk.injEq] at h
  simp only [u32_beq, u32_zero]
  by_cases h1 : a = a'
  · by_cases h2 : b = b'
    · by_cases h3 : c = c'
      · by_cases h4 : d = d'
        · have hm : m = 0 := h.1 ⟨h1.symm, h2.symm, h3.symm, h4.symm⟩
          simp [h1, h2, h3, h4, hm]
        · have hm : ¬ m = 0 := fun e => h4 ((h.2 e).2.2.2.symm)
          simp [h1, h2, h3, h4]; exact hm
      · have hm : ¬ m = 0 := fun e => h3 ((h.2 e).2.2.1.symm)
        simp [h1, h2, h3]; exact hm
    · have hm : ¬ m = 0 := fun e => h2 ((h.2 e).2.1.symm)
      simp [h1, h2]; exact hm
  · have hm : ¬ m = 0 := fun e => h1 ((h.2 e).1.symm)
    simp [h1]; exact hm

set_option maxHeartbeats 8000000 in
theorem streamTwice_any (key nonce text : ByteArray) (a b c d m : BitVec 32) (hk : key.size ≤ maxLen) (hn : nonce.size ≤ maxLen) (ht : text.size ≤ maxLen) (w : World) :
    Calls Try.prog 5 #[.string key, .string nonce, .string text, .int .u32 (a.toNat : Int), .int .u32 (b.toNat : Int), .int .u32 (c.toNat : Int), .int .u32 (d.toNat : Int), .int .u32 (m.toNat : Int)] w
      fun e w' => e = .returned (.bool true) ∧ Below w.heap.size w w' := by
  have h1 := cut5_any key hk
  have h2 := cut5_any nonce hn
  have hc := cut_min text 200
  unfold maxLen at ht
  obtain ⟨k, ek⟩ : ∃ x, cutS key 40 = x := ⟨_, rfl⟩
  obtain ⟨n, en⟩ : ∃ x, cutS nonce 40 = x := ⟨_, rfl⟩
  obtain ⟨x, ex⟩ : ∃ x, cutS text 200 = x := ⟨_, rfl⟩
  have hx : x.size ≤ 200 := by rw [← ex]; exact cutS_size text 200
  rw [ek] at h1
  rw [en] at h2
  rw [ex] at hc
  have hsl : ∀ W : World, (Instr.slice 9 (.string text) none (some (.int .i64 (min (text.size : Int) 200))) none).run Try.prog W = .ok (.string x) W := by
    have l0 : (0 : Int) ≤ min (text.size : Int) 200 := by omega
    have l1 : min (text.size : Int) 200 ≤ (text.size : Int) := by omega
    intro W
    rw [← hc]
    go_simp
  have H1 := Lib.hid h1; have H2 := Lib.hid h2
  clear h1 h2 ek en ex hc
  obtain ⟨am, eam⟩ : ∃ z, a ^^^ m = z := ⟨_, rfl⟩
  have hxor := bits_xor32 a m
  rw [eam] at hxor
  have hq1 := quarter_any a b c d
  have hq2 := quarter_any am b c d
  have hturn := qtr_turn a b c d m
  rw [eam] at hturn
  obtain ⟨q, eq⟩ : ∃ q, qtr ⟨a, b, c, d⟩ = q := ⟨_, rfl⟩
  obtain ⟨r, er⟩ : ∃ r, qtr ⟨am, b, c, d⟩ = r := ⟨_, rfl⟩
  rw [eq] at hq1 hturn
  rw [er] at hq2 hturn
  have HQ1 := Lib.hid hq1; have HQ2 := Lib.hid hq2
  have HT := Lib.hid (turn_cases q r m hturn)
  clear hq1 hq2 hturn eam eq er
  go_enter Try.func5, Try.ntmps5
  go_upto_region 1 with fail
  go_quiet ((go_at_call 6; first | exact quiet_left (H1.out _) | exact quiet_left (H2.out _)))
  have hW : Below w.heap.size w (w.drewN nq) := below_drewN (Below.refl _ _) nq
  generalize w.drewN nq = W at hW ⊢
  clear hsl H1 H2 ht hk hn
  by_cases hfit : k.size = 32 ∧ n.size = 12
  · have hXx := Xor_any k n x hfit.1 hfit.2 (by omega)
    obtain ⟨s, es⟩ : ∃ s, strL (xorC (bl k) (bl n) (bl x)) = s := ⟨_, rfl⟩
    have hss : s.size = x.size := by rw [← es, strL_size, xorC_length]; rfl
    have hXs := Xor_any k n s hfit.1 hfit.2 (by omega)
    rw [show strL (xorC (bl k) (bl n) (bl s)) = x by rw [← es, bl_strL, xorC_twice, strL_bl]] at hXs
    rw [es] at hXx
    have hSl := Stream_any k n hfit.1 hfit.2 200 (by omega)
    have hSs := Stream_any k n hfit.1 hfit.2 x.size (by omega)
    have hBl := Block_any k 1 n hfit.1 hfit.2
    obtain ⟨l, el⟩ : ∃ l, strL (streamC (bl k) (bl n) 200) = l := ⟨_, rfl⟩
    obtain ⟨t, et⟩ : ∃ t, strL (streamC (bl k) (bl n) x.size) = t := ⟨_, rfl⟩
    obtain ⟨o, eo⟩ : ∃ o, strL (blockC (bl k) 1 (bl n)) = o := ⟨_, rfl⟩
    have hls : l.size = 200 := by rw [← el, strL_size, streamC_length]
    have hlt : l.extract 0 x.size = t := bl_inj (by rw [bl_extract, List.drop_zero, ← el, ← et, bl_strL, bl_strL, streamC_take _ _ _ _ hx])
    have hlo : l.extract 0 64 = o := bl_inj (by rw [bl_extract, List.drop_zero, ← el, ← eo, bl_strL, bl_strL, streamC_64 _ _ _ (by omega)])
    rw [el] at hSl
    rw [et] at hSs
    rw [eo] at hBl
    have hsl1 : ∀ W : World, (Instr.slice 9 (.string l) none (some (.int .i64 (x.size : Int))) none).run Try.prog W = .ok (.string t) W := by
      have l1 : (x.size : Int) ≤ (l.size : Int) := by omega
      clear hls hss
      intro W; rw [← hlt]; go_simp
    have hsl2 : ∀ W : World, (Instr.slice 9 (.string l) none (some (.int .i64 64)) none).run Try.prog W = .ok (.string o) W := by
      have l1 : (64 : Int) ≤ (l.size : Int) := by omega
      clear hls hss
      intro W; rw [← hlo]; go_simp
    have q1 : ((s.size : Int) == (x.size : Int)) = true := by rw [hss]; simp
    have q2 : ((l.size : Int) == 200) = true := by rw [hls]; rfl
    have HX1 := Lib.hid hXx; have HX2 := Lib.hid hXs; have HL := Lib.hid hSl; have HS := Lib.hid hSs; have HB1 := Lib.hid hBl
    clear hXx hXs hSl hSs hBl es el et eo hlt hlo hls hss hfit
    go_wp2_with fail
    refine (HX1.out _).mono ?_
    rintro e w1 ⟨rfl, c1⟩
    go_wp2_with fail
    refine (HX2.out _).mono ?_
    rintro e w2 ⟨rfl, c2⟩
    replace c2 := c1.trans (c2.mono c1.size)
    clear c1 HX1 HX2
    go_wp2_with fail
    refine (HL.out _).mono ?_
    rintro e w3 ⟨rfl, c3⟩
    replace c3 := c2.trans (c3.mono c2.size)
    clear c2 HL
    go_wp2_with fail
    refine (HS.out _).mono ?_
    rintro e w4 ⟨rfl, c4⟩
    replace c4 := c3.trans (c4.mono c3.size)
    clear c3 HS
    go_wp2_with fail
    refine (HB1.out _).mono ?_
    rintro e w5 ⟨rfl, c5⟩
    replace c5 := c4.trans (c5.mono c4.size)
    clear c4 HB1
    go_wp2_with fail
    refine (HQ1.out _).mono ?_
    rintro e w6 ⟨rfl, rfl⟩
    simp only [Q4.v]
    go_wp2_with fail
    refine (HQ2.out _).mono ?_
    rintro e w6 ⟨rfl, rfl⟩
    simp only [Q4.v]
    clear HQ1 HQ2
    go_upto_region 9 with fail
    have HB := Lib.hid (hW.trans (c5.mono hW.size))
    clear c5 hW
    rcases HT.out with ⟨t1, tm⟩ | ⟨t1, t2, tm⟩ | ⟨t1, t2, t3, tm⟩ | ⟨t1, t2, t3, t4, tm⟩ | ⟨t1, t2, t3, t4, tm⟩
    all_goals clear HT
    all_goals (
      go_wp2_with fail
      refine (alive5_any _).mono ?_
      rintro e w7 ⟨rfl, c7⟩
      have HB7 := Lib.hid (HB.out.trans (c7.mono HB.out.size))
      clear HB c7
      go_wp2_with fail
      go_ret
      exact ⟨rfl, HB7.out⟩)
  · have hXx := Xor_bad k n x (fun h => hfit ⟨h.1, h.2.1⟩)
    have hXs := Xor_bad k n ⟨#[]⟩ (fun h => hfit ⟨h.1, h.2.1⟩)
    have hSl := Stream_bad k n 200 (fun h => hfit ⟨h.1, h.2.1⟩)
    have hSs := Stream_bad k n (x.size : Int) (fun h => hfit ⟨h.1, h.2.1⟩)
    have hBl := Block_bad k 1 n hfit
    have HX1 := Lib.hid hXx; have HX2 := Lib.hid hXs; have HL := Lib.hid hSl; have HS := Lib.hid hSs; have HB1 := Lib.hid hBl
    clear hXx hXs hSl hSs hBl hfit
    go_wp2_with fail
    refine (HX1.out _).mono ?_
    rintro e w1 ⟨rfl, rfl⟩
    go_wp2_with fail
    refine (HX2.out _).mono ?_
    rintro e w1 ⟨rfl, rfl⟩
    go_wp2_with fail
    refine (HL.out _).mono ?_
    rintro e w1 ⟨rfl, rfl⟩
    go_wp2_with fail
    refine (HS.out _).mono ?_
    rintro e w1 ⟨rfl, rfl⟩
    go_wp2_with fail
    refine (HB1.out _).mono ?_
    rintro e w1 ⟨rfl, rfl⟩
    clear HX1 HX2 HL HS HB1
    go_wp2_with fail
    refine (HQ1.out _).mono ?_
    rintro e w6 ⟨rfl, rfl⟩
    simp only [Q4.v]
    go_wp2_with fail
    refine (HQ2.out _).mono ?_
    rintro e w6 ⟨rfl, rfl⟩
    simp only [Q4.v]
    clear HQ1 HQ2
    go_upto_region 9 with fail
    have HB := Lib.hid hW
    clear hW
    rcases HT.out with ⟨t1, tm⟩ | ⟨t1, t2, tm⟩ | ⟨t1, t2, t3, tm⟩ | ⟨t1, t2, t3, t4, tm⟩ | ⟨t1, t2, t3, t4, tm⟩
    all_goals clear HT
    all_goals (
      go_wp2_with fail
      refine (alive5_any _).mono ?_
      rintro e w7 ⟨rfl, c7⟩
      have HB7 := Lib.hid (HB.out.trans (c7.mono HB.out.size))
      clear HB c7
      go_wp2_with fail
      go_ret
      exact ⟨rfl, HB7.out⟩)
end Go.Proofs.Ytchnjjkgaaiclaa
