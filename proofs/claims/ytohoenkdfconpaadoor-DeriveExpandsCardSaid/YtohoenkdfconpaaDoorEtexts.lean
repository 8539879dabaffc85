/- DigestTexts: any text's sum, a new one, and which two are the same, is as the document says. -/
import Derived.Test.YtohoenkdfconpaaDoorElike
import Derived.Test.YtohoenkdfconpaaDoorEsum
import Derived.Test.YtohoenkdfconpaaDoorEkeys
import Derived.Test.YtohoenkdfconpaaDoorDparts
import Derived.Test.YtohoenkdfconpaaDoorQt
namespace Go.Proofs.YtohoenkdfconpaaDoor
open Go.RowKit Go.Sort
set_option maxRecDepth 100000

theorem keep3 {w : World} {B D j : Nat} {v : Value} (h : w.cell? ⟨D, j, none⟩ = some v) (hne : D ≠ B) (a b c : Value) : (((w.setCell ⟨B, 0, none⟩ a).setCell ⟨B, 1, none⟩ b).setCell ⟨B, 2, none⟩ c).cell? ⟨D, j, none⟩ = some v := by
  rw [World.cell?_setCell_other _ _ _ _ (fun e => hne (by cases e; rfl)), World.cell?_setCell_other _ _ _ _ (fun e => hne (by cases e; rfl)), World.cell?_setCell_other _ _ _ _ (fun e => hne (by cases e; rfl))]
  exact h
theorem below3 {w0 w : World} {n B : Nat} (h : Below n w0 w) (hB : n ≤ B) (a b c : Value) : Below n w0 (((w.setCell ⟨B, 0, none⟩ a).setCell ⟨B, 1, none⟩ b).setCell ⟨B, 2, none⟩ c) :=
  ((h.setCell (p := ⟨B, 0, none⟩) hB a).setCell (p := ⟨B, 1, none⟩) hB b).setCell (p := ⟨B, 2, none⟩) hB c

theorem WSl.bel {w0 w : World} {a : Option Addr} {n : Nat} {l : List (BitVec 32)} (h : WSl w0 a n l) (hb : Bel w0 w) : WSl w a n l := h.on hb.b
theorem KAt.bel {w0 w : World} {v : Value} (h : KAt w0 v) (hb : Bel w0 w) : KAt w v := h.on hb.b
theorem WsAt.sl {w : World} {g o n c : Nat} {l : List (BitVec 32)} (h : WsAt w (.slice (some ⟨g, o, none⟩) n c) l) : WSl w (some ⟨g, o, none⟩) n l := by
  obtain ⟨b, off, cap, e, hlt, hc⟩ := h
  cases e
  exact ⟨rfl, fun _ => ⟨_, _, rfl, hlt, hc⟩⟩
/-- eight cells stand, whatever is laid behind them -/
theorem bel_eight {w0 w : World} {p0 p1 p2 p3 p4 p5 p6 p7 : Addr} {v0 v1 v2 v3 v4 v5 v6 v7 : Value} (h : w0.cell? p0 = some v0 ∧ w0.cell? p1 = some v1 ∧ w0.cell? p2 = some v2 ∧ w0.cell? p3 = some v3 ∧ w0.cell? p4 = some v4 ∧ w0.cell? p5 = some v5 ∧ w0.cell? p6 = some v6 ∧ w0.cell? p7 = some v7) (hb : Bel w0 w) :
    (w.cell? p0 = some v0 ∧ w.cell? p1 = some v1 ∧ w.cell? p2 = some v2 ∧ w.cell? p3 = some v3 ∧ w.cell? p4 = some v4 ∧ w.cell? p5 = some v5 ∧ w.cell? p6 = some v6 ∧ w.cell? p7 = some v7) ∧ Bel w0 w := by
  have f : ∀ p v, w0.cell? p = some v → w.cell? p = some v := fun p v h => by rw [hb.b.cell (World.block_lt_of_cell? w0 _ h)]; exact h
  obtain ⟨h0, h1, h2, h3, h4, h5, h6, h7⟩ := h
  exact ⟨⟨f _ _ h0, f _ _ h1, f _ _ h2, f _ _ h3, f _ _ h4, f _ _ h5, f _ _ h6, f _ _ h7⟩, hb⟩
theorem sameB_self (l : List (BitVec 32)) (x : ByteArray) (p : Nat) : sameB l l x x p p = true := by unfold sameB; simp

set_option maxHeartbeats 8000000 in
theorem digestTexts_any (s : ByteArray) (hs : s.size ≤ maxLen) (a b : Option Addr) (n c n' c' : Nat) (x y : ByteArray) (m m' : Nat) (hx : x.size ≤ maxLen) (hn : n ≤ maxLen) (hnc : n ≤ c) (h0 : a = none → n = 0 ∧ c = 0) (_hm : m < 18446744073709551616)
    (hy : y.size ≤ maxLen) (hn' : n' ≤ maxLen) (hnc' : n' ≤ c') (h0' : b = none → n' = 0 ∧ c' = 0) (_hm' : m' < 18446744073709551616)
    (la lb : List (BitVec 32)) (w : World) (hva : WSl w a (min n 9) la) (hvb : WSl w b (min n' 9) lb) (hF : FirstAt w) (hK : KeysAt w) :
    Calls Tryd.prog 4 #[.string s, .agg #[.slice a n c, .string x, .int .u64 (m : Int)], .agg #[.slice b n' c', .string y, .int .u64 (m' : Int)]] w fun e w' => e = .returned (.bool true) ∧ Below w.heap.size w w' := by
  have hfa := few_any a n c x m hx hn hnc h0
  have hfb := few_any b n' c' y m' hy hn' hnc' h0'
  have hcut0 : ∀ w : World, Calls Tryd.prog 11 #[.string s] w fun e w' => e = .returned (.string (cutS s 300)) ∧ Below w.heap.size w w' := fun w => (cut_any s hs w).mono fun e w' ⟨h1, h2⟩ => ⟨h1, by rw [← h2]; exact Below.refl _ _⟩
  have hb300 := cutS_size s 300
  obtain ⟨t, ht⟩ : ∃ t, cutS s 300 = t := ⟨_, rfl⟩
  obtain ⟨xx, hxx⟩ : ∃ y, cutS x 66 = y := ⟨_, rfl⟩
  obtain ⟨yy, hyy⟩ : ∃ y', cutS y 66 = y' := ⟨_, rfl⟩
  rw [ht] at hcut0 hb300
  rw [hxx] at hfa
  rw [hyy] at hfb
  have HFa := Lib.hid hfa; have HFb := Lib.hid hfb; have HC := Lib.hid hcut0; have HT := Lib.hid hb300
  clear hfa hfb hcut0 hb300 hs hx hy ht hxx hyy
  go_enter Tryd.func4, Tryd.ntmps4
  go_upto_region 1 with fail
  have hb0 : Below w.heap.size w ((w.alloc (.cells #[.slice a n c, .string x, .int .u64 (m : Int)] 25)).alloc (.cells #[.slice b n' c', .string y, .int .u64 (m' : Int)] 25)) := by go_grown
  have h1 : ((w.alloc (.cells #[.slice a n c, .string x, .int .u64 (m : Int)] 25)).alloc (.cells #[.slice b n' c', .string y, .int .u64 (m' : Int)] 25)).heap[w.heap.size]? = some (.cells #[.slice a n c, .string x, .int .u64 (m : Int)] 25) := heap_alloc2_old _ _ _
  have h2 : ((w.alloc (.cells #[.slice a n c, .string x, .int .u64 (m : Int)] 25)).alloc (.cells #[.slice b n' c', .string y, .int .u64 (m' : Int)] 25)).heap[w.heap.size + 1]? = some (.cells #[.slice b n' c', .string y, .int .u64 (m' : Int)] 25) := heap_alloc2_new _ _ _
  generalize World.alloc (World.alloc w _) _ = W at hb0 h1 h2 ⊢
  have a0 : W.cell? ⟨w.heap.size, 0, none⟩ = some (.slice a n c) := by rw [cell_of_row _ _ _ _ _ _ h1]; rfl
  have a1 : W.cell? ⟨w.heap.size, 1, none⟩ = some (.string x) := by rw [cell_of_row _ _ _ _ _ _ h1]; rfl
  have a2 : W.cell? ⟨w.heap.size, 2, none⟩ = some (.int .u64 (m : Int)) := by rw [cell_of_row _ _ _ _ _ _ h1]; rfl
  have b0 : W.cell? ⟨w.heap.size + 1, 0, none⟩ = some (.slice b n' c') := by rw [cell_of_row _ _ _ _ _ _ h2]; rfl
  have b1 : W.cell? ⟨w.heap.size + 1, 1, none⟩ = some (.string y) := by rw [cell_of_row _ _ _ _ _ _ h2]; rfl
  have b2 : W.cell? ⟨w.heap.size + 1, 2, none⟩ = some (.int .u64 (m' : Int)) := by rw [cell_of_row _ _ _ _ _ _ h2]; rfl
  have q0 := cell_regrown a0; have q1 := cell_regrown a1; have q2 := cell_regrown a2
  have r0 := cell_regrown b0; have r1 := cell_regrown b1; have r2 := cell_regrown b2
  have H1 := Lib.hid h1; have H2 := Lib.hid h2
  clear a0 a1 a2 b0 b1 b2
  refine wp_region_tail_below 6 (by kernel_rfl) (by simp) (by kernel_rfl) (by kernel_rfl) ?_
  simp only [List.take_succ_cons, List.take_zero]
  iterate 6 (quiet_step (first | (go_at_call_of 10 (Value.agg #[.slice a n c, .string x, .int .u64 (m : Int)]); exact Calls.regrown_of (HFa.out _)) | (go_at_call_of 10 (Value.agg #[.slice b n' c', .string y, .int .u64 (m' : Int)]); exact Calls.regrown_of (HFb.out _)) | (go_at_call 11; exact Calls.regrown_of (HC.out _))))
  refine wpQuiet_nil ?_
  intro _ hw'
  obtain ⟨⟨dq, osq⟩, hw''⟩ := hw'
  subst hw''
  simp only [List.drop_succ_cons, List.drop_zero]
  have hb := below_regrown W dq osq
  have hl0 : w.heap.size + 1 < W.heap.size := (Array.getElem?_eq_some_iff.1 H2.out).1
  clear q0 q1 q2 r0 r1 r2
  generalize grow (redrawn W dq) osq = W1 at hb ⊢
  have g1 : W1.heap[w.heap.size]? = some (.cells #[.slice a n c, .string x, .int .u64 (m : Int)] 25) := by rw [hb.block _ (by omega)]; exact H1.out
  have g2 : W1.heap[w.heap.size + 1]? = some (.cells #[.slice b n' c', .string y, .int .u64 (m' : Int)] 25) := by rw [hb.block _ hl0]; exact H2.out
  have hbw : Below w.heap.size w W1 := hb0.trans (hb.mono (by omega))
  have a0 : W1.cell? ⟨w.heap.size, 0, none⟩ = some (.slice a n c) := by rw [cell_of_row _ _ _ _ _ _ g1]; rfl
  have a1 : W1.cell? ⟨w.heap.size, 1, none⟩ = some (.string x) := by rw [cell_of_row _ _ _ _ _ _ g1]; rfl
  have a2 : W1.cell? ⟨w.heap.size, 2, none⟩ = some (.int .u64 (m : Int)) := by rw [cell_of_row _ _ _ _ _ _ g1]; rfl
  have b0 : W1.cell? ⟨w.heap.size + 1, 0, none⟩ = some (.slice b n' c') := by rw [cell_of_row _ _ _ _ _ _ g2]; rfl
  have b1 : W1.cell? ⟨w.heap.size + 1, 1, none⟩ = some (.string y) := by rw [cell_of_row _ _ _ _ _ _ g2]; rfl
  have b2 : W1.cell? ⟨w.heap.size + 1, 2, none⟩ = some (.int .u64 (m' : Int)) := by rw [cell_of_row _ _ _ _ _ _ g2]; rfl
  have f0 := frozen_of_row W1 w.heap.size 0 _ _ g1
  have f1 := frozen_of_row W1 w.heap.size 1 _ _ g1
  have f2 := frozen_of_row W1 w.heap.size 2 _ _ g1
  have f3 := frozen_of_row W1 (w.heap.size + 1) 0 _ _ g2
  have f4 := frozen_of_row W1 (w.heap.size + 1) 1 _ _ g2
  have f5 := frozen_of_row W1 (w.heap.size + 1) 2 _ _ g2
  have s1 := set3 ⟨a0, a1, a2⟩ (.slice a (min n 9) c) (.string xx) (.int .u64 (m : Int))
  have s2 := set3 (w := ((W1.setCell ⟨w.heap.size, 0, none⟩ (.slice a (min n 9) c)).setCell ⟨w.heap.size, 1, none⟩ (.string xx)).setCell ⟨w.heap.size, 2, none⟩ (.int .u64 (m : Int))) ⟨keep3 b0 (by omega) _ _ _, keep3 b1 (by omega) _ _ _, keep3 b2 (by omega) _ _ _⟩ (.slice b (min n' 9) c') (.string yy) (.int .u64 (m' : Int))
  have s3 : _ ∧ _ ∧ _ := ⟨keep3 (B := w.heap.size + 1) s1.1 (by omega) (.slice b (min n' 9) c') (.string yy) (.int .u64 (m' : Int)), keep3 (B := w.heap.size + 1) s1.2.1 (by omega) (.slice b (min n' 9) c') (.string yy) (.int .u64 (m' : Int)), keep3 (B := w.heap.size + 1) s1.2.2 (by omega) (.slice b (min n' 9) c') (.string yy) (.int .u64 (m' : Int))⟩
  have hbs := below3 (below3 hbw (Nat.le_refl _) (.slice a (min n 9) c) (.string xx) (.int .u64 (m : Int))) (Nat.le_succ _) (.slice b (min n' 9) c') (.string yy) (.int .u64 (m' : Int))
  have HS2 := Lib.hid s2; have HS3 := Lib.hid s3; have HBS := Lib.hid hbs
  clear s1 s2 s3 hbs H1 H2 g1 g2 hb hbw hb0 HFa HFb HC
  go_wp2_with fail
  clear a0 a1 a2 b0 b1 b2 f0 f1 f2 f3 f4 f5
  generalize World.setCell (World.setCell (World.setCell (World.setCell (World.setCell (World.setCell W1 _ _) _ _) _ _) _ _) _ _) _ _ = V at HS2 HS3 HBS ⊢
  refine (numbers_all V).mono ?_
  rintro e V1 ⟨kv, rfl, hKA, hbk⟩
  obtain ⟨A0, hA0⟩ : ∃ A0, w.heap.size = A0 := ⟨_, rfl⟩
  have hBV1 : Below w.heap.size w V1 := HBS.out.trans (hbk.mono HBS.out.size)
  have hA1 : A0 + 1 < V.heap.size := by rw [← hA0]; exact World.block_lt_of_cell? V _ HS2.out.1
  have hfar : ∀ p v, V.cell? p = some v → V1.cell? p = some v := fun p v h => by rw [hbk.cell (World.block_lt_of_cell? V _ h)]; exact h
  have hva1 := hva.on hBV1
  have hvb1 := hvb.on hBV1
  have hF1 := hF.on hBV1
  have hK1 := hK.on hBV1
  have hKA' := hKA
  obtain ⟨k0, k1, rfl, hk0, hk1⟩ := hKA'
  obtain ⟨g0, o0, z0, rfl, hg0, -⟩ := hk0
  obtain ⟨g1, o1, z1, rfl, hg1, -⟩ := hk1
  simp only [S8.l_length, keysL_length] at hKA ⊢
  rw [hA0] at HS2 HS3 hBV1 ⊢
  obtain ⟨s0, s1, s2⟩ := HS3.out
  obtain ⟨r0, r1, r2⟩ := HS2.out
  have hcells : _ ∧ _ ∧ _ ∧ _ ∧ _ ∧ _ := ⟨hfar _ _ s0, hfar _ _ s1, hfar _ _ s2, hfar _ _ r0, hfar _ _ r1, hfar _ _ r2⟩
  have HCELLS := Lib.hid hcells
  have HVA := Lib.hid hva1; have HVB := Lib.hid hvb1; have HF := Lib.hid hF1; have HK := Lib.hid hK1; have HKA := Lib.hid hKA; have HBV := Lib.hid hBV1
  clear hcells hva1 hvb1 hF1 hK1 hKA hBV1 s0 s1 s2 r0 r1 r2 HS2 HS3 HBS hva hvb hF hK hfar hbk hA1
  go_upto_region 3 with fail
  have hb7 : Below V1.heap.size V1 (V1.alloc (.cells #[.slice (some ⟨g0, o0, none⟩) 64 z0, .slice (some ⟨g1, o1, none⟩) 8 z1] 37)) := by go_grown
  have h7 : (V1.alloc (.cells #[.slice (some ⟨g0, o0, none⟩) 64 z0, .slice (some ⟨g1, o1, none⟩) 8 z1] 37)).heap[V1.heap.size]? = some (.cells #[.slice (some ⟨g0, o0, none⟩) 64 z0, .slice (some ⟨g1, o1, none⟩) 8 z1] 37) := heap_alloc_new _ _
  obtain ⟨A7, hA7⟩ : ∃ A7, V1.heap.size = A7 := ⟨_, rfl⟩
  rw [hA7] at h7 ⊢
  generalize World.alloc V1 _ = V at hb7 h7 ⊢
  have hVA := HVA.out.on hb7; have hVB := HVB.out.on hb7; have hF := HF.out.on hb7; have hK := HK.out.on hb7; have hKA := HKA.out.on hb7
  have hBV := HBV.out.trans (hb7.mono (by rw [← hA0]; exact HBV.out.size))
  obtain ⟨s0, s1, s2, r0, r1, r2⟩ := HCELLS.out
  have hfar : ∀ p v, V1.cell? p = some v → V.cell? p = some v := fun p v h => by rw [hb7.cell (World.block_lt_of_cell? V1 _ h)]; exact h
  have hcells : V.cell? ⟨A0, 0, none⟩ = some (.slice a (min n 9) c) ∧ V.cell? ⟨A0, 1, none⟩ = some (.string xx) ∧ V.cell? ⟨A0, 2, none⟩ = some (.int .u64 (m : Int)) ∧ V.cell? ⟨A0 + 1, 0, none⟩ = some (.slice b (min n' 9) c') ∧ V.cell? ⟨A0 + 1, 1, none⟩ = some (.string yy) ∧ V.cell? ⟨A0 + 1, 2, none⟩ = some (.int .u64 (m' : Int)) ∧ V.cell? ⟨A7, 0, none⟩ = some (.slice (some ⟨g0, o0, none⟩) 64 z0) ∧ V.cell? ⟨A7, 1, none⟩ = some (.slice (some ⟨g1, o1, none⟩) 8 z1) := ⟨hfar _ _ s0, hfar _ _ s1, hfar _ _ s2, hfar _ _ r0, hfar _ _ r1, hfar _ _ r2, by rw [cell_of_row _ _ _ _ _ _ h7]; rfl, by rw [cell_of_row _ _ _ _ _ _ h7]; rfl⟩
  clear s0 s1 s2 r0 r1 r2 hfar HCELLS HVA HVB HF HK HKA HBV hb7 h7
  have HVA := Lib.hid hVA; have HVB := Lib.hid hVB; have HF := Lib.hid hF; have HK := Lib.hid hK; have HKA := Lib.hid hKA; have HBV := Lib.hid hBV; have HC8 := Lib.hid hcells
  have hof := fun W h1 h2 => of_any t (by have := HT.out; omega) W h1 h2
  have hrof := fun W h => refof_any (.agg #[.slice (some ⟨g0, o0, none⟩) 64 z0, .slice (some ⟨g1, o1, none⟩) 8 z1]) t (by have := HT.out; omega) W h
  obtain ⟨S, hS⟩ : ∃ S, strL (sumL (mixAll firstS (bl t)) (restOf (bl t)) t.size) = S := ⟨_, rfl⟩
  rw [hS] at hof hrof
  have hsm0 : ∀ (B g o z : Nat) (W : World), WSl W (some ⟨B, 0, none⟩) 8 firstS.l → WSl W (some ⟨g, o, none⟩) 8 firstS.l → Calls Tryd.prog 17 #[.agg #[.slice (some ⟨B, 0, none⟩) 8 8, .string ⟨#[]⟩, .int .u64 0], .agg #[.slice (some ⟨g, o, none⟩) 8 z, .string ⟨#[]⟩, .int .u64 0]] W fun e w' => e = .returned (.bool true) ∧ Below W.heap.size W w' := by
    intro B g o z W h1 h2
    have h := same_any (some ⟨B, 0, none⟩) (some ⟨g, o, none⟩) 8 8 8 z firstS.l firstS.l ⟨#[]⟩ ⟨#[]⟩ 0 0 (by decide) (by decide) W h1 h2
    rw [sameB_self] at h
    exact h
  have hnw : ∀ W : World, FirstAt W → Calls Tryd.prog 23 #[] W fun e w' => ∃ D, e = .returned (.agg #[.slice (some ⟨D, 0, none⟩) 8 8, .string ⟨#[]⟩, .int .u64 0]) ∧ BlkW w' D 70 firstS.l ∧ Below W.heap.size W w' := by
    intro W h
    refine (new_any W h).mono ?_
    rintro e w' ⟨D, yn, rfl, hblk, hyn, hb⟩
    obtain rfl : yn = ⟨#[]⟩ := bl_inj hyn
    exact ⟨D, rfl, hblk, hb⟩
  have HNW := Lib.hid hnw
  have hrn : ∀ W : World, KAt W (.agg #[.slice (some ⟨g0, o0, none⟩) 64 z0, .slice (some ⟨g1, o1, none⟩) 8 z1]) → Calls Tryd.prog 24 #[(.agg #[.slice (some ⟨g0, o0, none⟩) 64 z0, .slice (some ⟨g1, o1, none⟩) 8 z1])] W fun e w' => ∃ g o z, e = .returned (.agg #[.slice (some ⟨g, o, none⟩) 8 z, .string ⟨#[]⟩, .int .u64 0]) ∧ WSl w' (some ⟨g, o, none⟩) 8 firstS.l ∧ Below W.heap.size W w' := by
    intro W h
    refine (refnew_any (.agg #[.slice (some ⟨g0, o0, none⟩) 64 z0, .slice (some ⟨g1, o1, none⟩) 8 z1]) W h).mono ?_
    rintro e w' ⟨vn, rfl, hvn, hb⟩
    obtain ⟨gn, on, zn, rfl, hgn, hcn⟩ := id hvn
    exact ⟨gn, on, zn, rfl, hvn.sl, hb⟩
  have HRN := Lib.hid hrn
  have hmn : min n 9 ≤ maxLen := Nat.le_trans (Nat.min_le_left _ _) hn
  have hmn' : min n' 9 ≤ maxLen := Nat.le_trans (Nat.min_le_left _ _) hn'
  have hsm := fun W h1 h2 => same_any a b (min n 9) (min n' 9) c c' la lb xx yy m m' hmn hmn' W h1 h2
  have hlk := fun W h1 h2 => like_any a b (min n 9) (min n' 9) c c' la lb xx yy m m' hmn hmn' W h1 h2
  have hlk2 := fun W h1 h2 => like_any a a (min n 9) (min n 9) c c la la xx xx m m hmn hmn W h1 h2
  rw [sameB_self] at hlk2
  obtain ⟨r, hr⟩ : ∃ r, sameB la lb xx yy m m' = r := ⟨_, rfl⟩
  rw [hr] at hsm hlk
  have HOF := Lib.hid hof; have HROF := Lib.hid hrof; have HSM0 := Lib.hid hsm0; have HSM := Lib.hid hsm; have HLK := Lib.hid hlk; have HLK2 := Lib.hid hlk2
  obtain ⟨d0, d1, d2, d3, d4, d5, d6, d7⟩ := hcells
  have bel_of8 : ∀ w' : World, ((w'.cell? ⟨A0, 0, none⟩ = some (.slice a (min n 9) c) ∧ w'.cell? ⟨A0, 1, none⟩ = some (.string xx) ∧ w'.cell? ⟨A0, 2, none⟩ = some (.int .u64 (m : Int)) ∧ w'.cell? ⟨A0 + 1, 0, none⟩ = some (.slice b (min n' 9) c') ∧ w'.cell? ⟨A0 + 1, 1, none⟩ = some (.string yy) ∧ w'.cell? ⟨A0 + 1, 2, none⟩ = some (.int .u64 (m' : Int)) ∧ w'.cell? ⟨A7, 0, none⟩ = some (.slice (some ⟨g0, o0, none⟩) 64 z0) ∧ w'.cell? ⟨A7, 1, none⟩ = some (.slice (some ⟨g1, o1, none⟩) 8 z1)) ∧ Bel V w') → Bel V w' := fun w' h => h.2
  have HB8 := Lib.hid bel_of8
  clear hrn hnw hof hrof hS hsm0 hsm hlk hlk2 hr hmn hmn' hVA hVB hF hK hKA hBV bel_of8 hn hn' hnc hnc' h0 h0'
  have hS : (fun w' : World => (w'.cell? ⟨A0, 0, none⟩ = some (.slice a (min n 9) c) ∧ w'.cell? ⟨A0, 1, none⟩ = some (.string xx) ∧ w'.cell? ⟨A0, 2, none⟩ = some (.int .u64 (m : Int)) ∧ w'.cell? ⟨A0 + 1, 0, none⟩ = some (.slice b (min n' 9) c') ∧ w'.cell? ⟨A0 + 1, 1, none⟩ = some (.string yy) ∧ w'.cell? ⟨A0 + 1, 2, none⟩ = some (.int .u64 (m' : Int)) ∧ w'.cell? ⟨A7, 0, none⟩ = some (.slice (some ⟨g0, o0, none⟩) 64 z0) ∧ w'.cell? ⟨A7, 1, none⟩ = some (.slice (some ⟨g1, o1, none⟩) 8 z1)) ∧ Bel V w') V := ⟨HC8.out, Bel.refl V⟩
  go_region_held3 (fun w' : World => (w'.cell? ⟨A0, 0, none⟩ = some (.slice a (min n 9) c) ∧ w'.cell? ⟨A0, 1, none⟩ = some (.string xx) ∧ w'.cell? ⟨A0, 2, none⟩ = some (.int .u64 (m : Int)) ∧ w'.cell? ⟨A0 + 1, 0, none⟩ = some (.slice b (min n' 9) c') ∧ w'.cell? ⟨A0 + 1, 1, none⟩ = some (.string yy) ∧ w'.cell? ⟨A0 + 1, 2, none⟩ = some (.int .u64 (m' : Int)) ∧ w'.cell? ⟨A7, 0, none⟩ = some (.slice (some ⟨g0, o0, none⟩) 64 z0) ∧ w'.cell? ⟨A7, 1, none⟩ = some (.slice (some ⟨g1, o1, none⟩) 8 z1)) ∧ Bel V w')
    (first | with_reducible assumption | (refine bel_eight HC8.out ?_; first | exact HB8.out _ (by with_reducible assumption) | ((with_reducible refine Bel.drew ?_); exact HB8.out _ (by with_reducible assumption)) | ((with_reducible refine Bel.drew ?_); exact Bel.refl V) | ((with_reducible refine Bel.on ?_ hb); first | exact HB8.out _ (by with_reducible assumption) | exact Bel.drew (HB8.out _ (by with_reducible assumption)) | exact Bel.drew (Bel.refl V))))
    (first
      | (go_at_call 16; refine (alive_any _ (HF.out.bel (by first | exact HB8.out _ (by with_reducible assumption) | exact Bel.drew (Bel.refl V))) (HK.out.bel (by first | exact HB8.out _ (by with_reducible assumption) | exact Bel.drew (Bel.refl V)))).mono ?_; rintro e w' ⟨rfl, hb⟩)
      | (go_at_call 21; refine (HOF.out _ (HF.out.bel (HB8.out _ (by with_reducible assumption))) (HK.out.bel (HB8.out _ (by with_reducible assumption)))).mono ?_; rintro e w' ⟨rfl, hb⟩)
      | (go_at_call 22; refine (HROF.out _ (HKA.out.bel (HB8.out _ (by with_reducible assumption)))).mono ?_; rintro e w' ⟨rfl, hb⟩)
      | (go_at_call 23; refine (HNW.out _ (HF.out.bel (HB8.out _ (by with_reducible assumption)))).mono ?_; rintro e w' ⟨D, rfl, hblk, hb⟩)
      | (go_at_call 24; refine (HRN.out _ (HKA.out.bel (HB8.out _ (by with_reducible assumption)))).mono ?_; rintro e w' ⟨gn, on, zn, rfl, hN2, hb⟩; have hD2 := WSl.of8 (hblk.on hb) 8 rfl)
      | (go_at_call 17; (first | with_reducible refine (HSM0.out _ _ _ _ _ hD2 hN2).mono ?_ | with_reducible refine (HSM.out _ (HVA.out.bel (HB8.out _ (by with_reducible assumption))) (HVB.out.bel (HB8.out _ (by with_reducible assumption)))).mono ?_); rintro e w' ⟨rfl, hb⟩)
      | (go_at_call 25; (first | with_reducible refine (HLK.out _ (HVA.out.bel (HB8.out _ (by with_reducible assumption))) (HVB.out.bel (HB8.out _ (by with_reducible assumption)))).mono ?_ | with_reducible refine (HLK2.out _ (HVA.out.bel (HB8.out _ (by with_reducible assumption))) (HVA.out.bel (HB8.out _ (by with_reducible assumption)))).mono ?_); rintro e w' ⟨rfl, hb⟩))
  have hend : Below w.heap.size w w' := by
    have hq := HB8.out w' (by with_reducible assumption)
    have hA := HBV.out
    rw [← hA0] at hA
    exact hA.trans (hq.b.mono hA.size)
  clear HB8 HC8 HRN HNW HOF HROF HSM0 HSM HLK HLK2 hS
  go_wp2_with fail
  go_ret
  exact ⟨rfl, hend⟩
end Go.Proofs.YtohoenkdfconpaaDoor
