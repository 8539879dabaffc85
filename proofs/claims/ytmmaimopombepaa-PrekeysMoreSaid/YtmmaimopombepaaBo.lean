/- prekeys: changed at a shelf, Fetch. -/
import Derived.Test.YtmmaimopombepaaBn
namespace Go.Proofs.Ytmmaimopombepaa
open Go.RowKit
set_option maxRecDepth 100000
theorem BlkV.put5 {w : World} {B : Nat} {t : TypeId} {x0 x1 x2 x3 x4 : Value} (h : BlkV w B t [x0, x1, x2, x3, x4]) (y0 y1 y2 y3 y4 : Value) :
    BlkV (((((w.setCell ⟨B, 0, none⟩ y0).setCell ⟨B, 1, none⟩ y1).setCell ⟨B, 2, none⟩ y2).setCell ⟨B, 3, none⟩ y3).setCell ⟨B, 4, none⟩ y4) B t [y0, y1, y2, y3, y4] := ((((h.set 0 y0).set 1 y1).set 2 y2).set 3 y3).set 4 y4
theorem BlkV.lowU {w w' : World} {B n : Nat} {t : TypeId} {l : List Value} (h : BlkV w B t l) (hb : Below n w w') (hn : B < n) : BlkV w' B t l := by
  unfold BlkV
  rw [hb.block B hn]; exact h
theorem shs_set (K : List ShM) (i : Nat) (m : ShM) : shs (K.set i m) = (shs K).set i m.s := by unfold shs; rw [List.map_set]
theorem Ge.mono {n n' : Nat} {a : Option Addr} (h : Ge n a) (hn : n' ≤ n) : Ge n' a := fun b off sp e => Nat.le_trans hn (h b off sp e)
theorem SSb.mono {w : World} {n n' : Nat} {a : Option Addr} {c : Nat} {L : List ShM} (h : SSb w n a c L) (hn : n' ≤ n) : SSb w n' a c L := ⟨h.ss, h.ge.mono hn, fun m hm => (h.pts m hm).mono hn⟩
theorem BlkV.dr {w : World} {B : Nat} {t : TypeId} {l : List Value} (h : BlkV w B t l) : BlkV w.drew B t l := h
theorem below_put5 {n : Nat} {a w : World} (h : Below n a w) (B : Nat) (hB : n ≤ B) (y0 y1 y2 y3 y4 : Value) :
    Below n a (((((w.setCell ⟨B, 0, none⟩ y0).setCell ⟨B, 1, none⟩ y1).setCell ⟨B, 2, none⟩ y2).setCell ⟨B, 3, none⟩ y3).setCell ⟨B, 4, none⟩ y4) := ((((h.setCell hB y0).setCell hB y1).setCell hB y2).setCell hB y3).setCell hB y4
/-- what Fetch tells -/
def FetchPost (l : List Sh) (u : Nat) (w : World) (e : Ending) (w' : World) : Prop :=
  Below w.heap.size w w' ∧ (leftE l u ≠ 0 ∧ e = .returned (.tuple #[.slice none 0 0, .agg #[.int .u64 0, .string ⟨#[]⟩, .int .u64 0, .string ⟨#[]⟩, .slice none 0 0], .int .i64 (leftE l u)]) ∨
    leftE l u = 0 ∧ rightSL l ∧ ∃ (i : Nat) (hi : i < l.length), placeS l u = some i ∧ ∃ (a : Option Addr) (c : Nat) (L : List ShM) (a1 : Option Addr) (c1 : Nat),
      e = .returned (.tuple #[.slice a L.length c, .agg #[.int .u64 (l[i].user : Int), .string l[i].ident, .int .u64 (l[i].sgn.id : Int), .string l[i].sgn.pt, .slice a1 (l[i].once.take 1).length c1], .int .i64 0]) ∧ SSb w' w.heap.size a c L ∧ shs L = l.set i (restSh l[i]) ∧ PP w' a1 c1 (l[i].once.take 1) ∧ Ge w.heap.size a1)
theorem leftE_bad {l : List Sh} {u : Nat} (hr : ¬ rightSL l) : leftE l u = 1 := by unfold leftE; rw [if_pos hr]
set_option maxHeartbeats 8000000 in
theorem changedS_any (a : Option Addr) (c : Nat) (L : List ShM) (u : Nat) (hl : L.length ≤ 1000) (w : World) (h : SS w a c L) :
    Calls Try.prog 59 #[.slice a L.length c, .int .u64 (u : Int), .func (.func 60) #[] #[]] w fun e w' => FetchPost (shs L) u w e w' := by
  obtain ⟨W0, eW0⟩ : ∃ W0, (w.alloc (.cells #[.int .u64 0, .string ⟨#[]⟩, .int .u64 0, .string ⟨#[]⟩, .slice none 0 0] 28)).alloc (.cells #[.int .u64 0, .string ⟨#[]⟩, .int .u64 0, .string ⟨#[]⟩, .slice none 0 0] 28) = W0 := ⟨_, rfl⟩
  have b0 : Below w.heap.size w W0 := by rw [← eW0]; exact ((Below.refl _ w).alloc (Nat.le_refl _) _).alloc (by simp) _
  obtain ⟨R, eR⟩ : ∃ R, w.heap.size = R := ⟨_, rfl⟩
  have kR : BlkV W0 R 28 [.int .u64 0, .string ⟨#[]⟩, .int .u64 0, .string ⟨#[]⟩, .slice none 0 0] := by rw [← eW0, ← eR]; exact (BlkV.fresh w _ _ _ rfl _ rfl).alloc _
  have kN : BlkV W0 (R + 1) 28 [.int .u64 0, .string ⟨#[]⟩, .int .u64 0, .string ⟨#[]⟩, .slice none 0 0] := by rw [← eW0, ← eR]; exact BlkV.fresh _ _ _ _ rfl _ (by simp)
  have HR := Lib.hid (right_any a c L W0 (h.on b0) hl)
  have H := Lib.hid (h.on b0)
  have HK := Lib.hid (And.intro b0 (And.intro kR (And.intro kN eR)))
  have hsl := shs_length L
  clear h b0 kR kN
  by_cases hr : rightSL (shs L)
  case neg =>
    rw [decide_eq_false hr] at HR
    have HN := Lib.hid (leftE_bad (u := u) hr)
    clear hr
    go_enter Try.func59, Try.ntmps59
    go_upto_region 2 with fail
    clear eW0
    go_wp2_with fail
    refine HR.out.mono ?_
    rintro e w1 ⟨rfl, hb1⟩
    have j1 := HK.out.2.1.on hb1
    have j2 := HK.out.2.2.1.on hb1
    have r0 := j1.cell 0 _ rfl
    have r1 := j1.cell 1 _ rfl
    have r2 := j1.cell 2 _ rfl
    have r3 := j1.cell 3 _ rfl
    have r4 := j1.cell 4 _ rfl
    have g0 := j1.frozen 0
    have g1 := j1.frozen 1
    have g2 := j1.frozen 2
    have g3 := j1.frozen 3
    have g4 := j1.frozen 4
    have n0 := j2.cell 0 _ rfl
    have n1 := j2.cell 1 _ rfl
    have n2 := j2.cell 2 _ rfl
    have n3 := j2.cell 3 _ rfl
    have n4 := j2.cell 4 _ rfl
    have hb2 := HK.out.1.trans (hb1.mono HK.out.1.size)
    have HJ := Lib.hid (And.intro j1 hb2)
    clear j1 j2 hb1 hb2 HR
    go_wp2_with fail
    go_region
    all_goals go_wp2_with fail
    have HF := (HJ.out.1.put5 (.int .u64 0) (.string ⟨#[]⟩) (.int .u64 0) (.string ⟨#[]⟩) (.slice none 0 0)).dr
    have hbF := (below_put5 HJ.out.2 R (by rw [HK.out.2.2.2]; exact Nat.le_refl _) (.int .u64 0) (.string ⟨#[]⟩) (.int .u64 0) (.string ⟨#[]⟩) (.slice none 0 0)).drew
    refine bodyPost_ret (results_tctU (p := 7) (q := 6) (r := 8) (T := 28) (by kernel_rfl) _ _ R rfl HF Try.underlying28 rfl (by kernel_rfl) _ _ rfl rfl) rfl ?_
    exact ⟨hbF, Or.inl ⟨by rw [HN.out]; decide, by rw [HN.out]; rfl⟩⟩
  case pos =>
    rw [decide_eq_true hr] at HR
    have HP := Lib.hid (fun W hW => place_any a c L u W hW hl hr.2.2)
    have HC := Lib.hid (fun W hW => allCopied_any a c L hl (FewP.of_right hr) W hW)
    have HRT := Lib.hid hr
    clear hr
    go_enter Try.func59, Try.ntmps59
    go_upto_region 2 with fail
    clear eW0
    go_wp2_with fail
    refine HR.out.mono ?_
    rintro e w1 ⟨rfl, hb1⟩
    go_wp2_with fail
    refine (HP.out w1 (H.out.on hb1)).mono ?_
    rintro e w2 ⟨i, f, rfl, hpl, hb2⟩
    have hps := place_of_at HRT.out.2.2 hpl
    have hb12 := hb1.trans (hb2.mono hb1.size)
    have HB := Lib.hid hb12
    cases f
    · rw [if_neg (by decide)] at hps
      have HN := Lib.hid (left_none HRT.out hps).2
      have j1 := HK.out.2.1.on hb12
      have j2 := HK.out.2.2.1.on hb12
      have r0 := j1.cell 0 _ rfl
      have r1 := j1.cell 1 _ rfl
      have r2 := j1.cell 2 _ rfl
      have r3 := j1.cell 3 _ rfl
      have r4 := j1.cell 4 _ rfl
      have g0 := j1.frozen 0
      have g1 := j1.frozen 1
      have g2 := j1.frozen 2
      have g3 := j1.frozen 3
      have g4 := j1.frozen 4
      have n0 := j2.cell 0 _ rfl
      have n1 := j2.cell 1 _ rfl
      have n2 := j2.cell 2 _ rfl
      have n3 := j2.cell 3 _ rfl
      have n4 := j2.cell 4 _ rfl
      have hb3 := HK.out.1.trans (hb12.mono HK.out.1.size)
      have HJ := Lib.hid (And.intro j1 hb3)
      clear j1 j2 hb1 hb2 hb12 hb3 HR hpl hps
      go_wp2_with fail
      go_region
      all_goals go_wp2_with fail
      have HF := (HJ.out.1.put5 (.int .u64 0) (.string ⟨#[]⟩) (.int .u64 0) (.string ⟨#[]⟩) (.slice none 0 0)).dr
      have hbF := (below_put5 HJ.out.2 R (by rw [HK.out.2.2.2]; exact Nat.le_refl _) (.int .u64 0) (.string ⟨#[]⟩) (.int .u64 0) (.string ⟨#[]⟩) (.slice none 0 0)).drew
      refine bodyPost_ret (results_tctU (p := 7) (q := 6) (r := 8) (T := 28) (by kernel_rfl) _ _ R rfl HF Try.underlying28 rfl (by kernel_rfl) _ _ rfl rfl) rfl ?_
      exact ⟨hbF, Or.inl ⟨by rw [HN.out]; decide, by rw [HN.out]; rfl⟩⟩
    · obtain ⟨hi, hu⟩ := hpl.2.2.2.1 rfl
      rw [if_pos rfl] at hps
      have HN := Lib.hid (And.intro hps (left_some HRT.out hps hi).2)
      clear hpl hps hb1 hb2 hb12
      go_wp2_with fail
      refine (HC.out w2 (H.out.on HB.out)).mono ?_
      rintro e w3 ⟨v, K, rfl, hO, hK, hb3⟩
      have hKl : K.length = L.length := by rw [← shs_length K, hK, hsl]
      obtain ⟨g, c3, rfl, hg, hKc⟩ := hO.some (by omega)
      have hiK : i < K.length := by omega
      have hKi : K[i].s = (shs L)[i] := by
        have h6 := shs_get K i hiK
        rw [← h6]
        congr 1
      have hmr : rightSh K[i].s := by rw [hKi]; exact HRT.out.2.1 _ (List.getElem_mem hi)
      have HF1 := Lib.hid (fetch1_any g c3 w2.heap.size i K hiK (by have := hmr.2.2.1; omega) w3 hO hb3.size)
      have hiz : (i : Int) < (K.length : Int) := by omega
      have hb03 := HB.out.trans (hb3.mono HB.out.size)
      have HX := Lib.hid (And.intro hb03 (And.intro hKi (And.intro hK (And.intro hb3 hKl))))
      clear hO hKi hb3 hb03 hmr hK hKl
      go_wp2_with fail
      refine HF1.out.mono ?_
      rintro e w4 ⟨a1, c1, rfl, hpp, hga, ⟨m', hm', hSS, hbB⟩⟩
      rw [HX.out.2.1] at hm' hpp ⊢
      obtain ⟨s, es⟩ : ∃ s, (shs L)[i] = s := ⟨_, rfl⟩
      rw [es] at hm' hpp ⊢
      obtain ⟨N1, en1⟩ : ∃ N1, (s.once.take 1).length = N1 := ⟨_, rfl⟩
      rw [en1]
      have kR2 := ((HK.out.2.1.on HB.out).on HX.out.2.2.2.1).lowU hbB (HK.out.2.1.on HB.out).lt
      obtain ⟨W5, eW5⟩ : ∃ W5, w4.alloc (.cells #[.int .u64 (s.user : Int), .string s.ident, .int .u64 (s.sgn.id : Int), .string s.sgn.pt, .slice a1 N1 c1] 28) = W5 := ⟨_, rfl⟩
      have b5 : Below w4.heap.size w4 W5 := by rw [← eW5]; exact (Below.refl _ w4).alloc (Nat.le_refl _) _
      have kT : BlkV W5 w4.heap.size 28 [.int .u64 (s.user : Int), .string s.ident, .int .u64 (s.sgn.id : Int), .string s.sgn.pt, .slice a1 N1 c1] := by rw [← eW5]; exact BlkV.fresh w4 _ _ _ rfl _ rfl
      have kR5 := kR2.on b5
      have hRb : R < w2.heap.size := (HK.out.2.1.on HB.out).lt
      have b9 : Below w.heap.size w W5 := (HK.out.1.trans (HX.out.1.mono HK.out.1.size)).trans ((hbB.mono (by have := HB.out.size; have := HK.out.1.size; omega)).trans (b5.mono (by have := HB.out.size; have := HK.out.1.size; have := hbB.size; have := HX.out.2.2.2.1.size; omega)))
      have HE := Lib.hid (And.intro es (And.intro hm' (And.intro hpp (And.intro hga (And.intro hSS (And.intro b5 (And.intro b9 (And.intro hRb (And.intro kR5 en1)))))))))
      have r0 := kR5.cell 0 _ rfl
      have r1 := kR5.cell 1 _ rfl
      have r2 := kR5.cell 2 _ rfl
      have r3 := kR5.cell 3 _ rfl
      have r4 := kR5.cell 4 _ rfl
      have q0 := kR5.frozen 0
      have q1 := kR5.frozen 1
      have q2 := kR5.frozen 2
      have q3 := kR5.frozen 3
      have q4 := kR5.frozen 4
      have n0 := kT.cell 0 _ rfl
      have n1 := kT.cell 1 _ rfl
      have n2 := kT.cell 2 _ rfl
      have n3 := kT.cell 3 _ rfl
      have n4 := kT.cell 4 _ rfl
      obtain ⟨T5, eT5⟩ : ∃ T5, w4.heap.size = T5 := ⟨_, rfl⟩
      rw [eT5] at n0 n1 n2 n3 n4
      clear hm' hpp hga hSS hbB es HF1 kR2 b5 kT kR5 b9 en1
      go_upto_region 9 with fail
      clear eW5
      go_wp2_with fail
      go_region
      all_goals go_wp2_with fail
      have HF := (HE.out.2.2.2.2.2.2.2.2.1.put5 (.int .u64 (s.user : Int)) (.string s.ident) (.int .u64 (s.sgn.id : Int)) (.string s.sgn.pt) (.slice a1 N1 c1)).dr
      have hbF := (below_put5 HE.out.2.2.2.2.2.2.1 R (by rw [HK.out.2.2.2]; exact Nat.le_refl _) (.int .u64 (s.user : Int)) (.string s.ident) (.int .u64 (s.sgn.id : Int)) (.string s.sgn.pt) (.slice a1 N1 c1)).drew
      have hkF : ∀ k, k ≠ R → (((((W5.setCell ⟨R, 0, none⟩ (.int .u64 (s.user : Int))).setCell ⟨R, 1, none⟩ (.string s.ident)).setCell ⟨R, 2, none⟩ (.int .u64 (s.sgn.id : Int))).setCell ⟨R, 3, none⟩ (.string s.sgn.pt)).setCell ⟨R, 4, none⟩ (.slice a1 N1 c1)).drew.heap[k]? = W5.heap[k]? := fun k hk => by
        show (((((W5.setCell ⟨R, 0, none⟩ (.int .u64 (s.user : Int))).setCell ⟨R, 1, none⟩ (.string s.ident)).setCell ⟨R, 2, none⟩ (.int .u64 (s.sgn.id : Int))).setCell ⟨R, 3, none⟩ (.string s.sgn.pt)).setCell ⟨R, 4, none⟩ (.slice a1 N1 c1)).heap[k]? = _
        rw [heap_setCell_other _ ⟨R, 4, none⟩ k _ hk, heap_setCell_other _ ⟨R, 3, none⟩ k _ hk, heap_setCell_other _ ⟨R, 2, none⟩ k _ hk, heap_setCell_other _ ⟨R, 1, none⟩ k _ hk, heap_setCell_other _ ⟨R, 0, none⟩ k _ hk]
      have hsF : (((((W5.setCell ⟨R, 0, none⟩ (.int .u64 (s.user : Int))).setCell ⟨R, 1, none⟩ (.string s.ident)).setCell ⟨R, 2, none⟩ (.int .u64 (s.sgn.id : Int))).setCell ⟨R, 3, none⟩ (.string s.sgn.pt)).setCell ⟨R, 4, none⟩ (.slice a1 N1 c1)).drew.heap.size = W5.heap.size := by
        show (((((W5.setCell ⟨R, 0, none⟩ (.int .u64 (s.user : Int))).setCell ⟨R, 1, none⟩ (.string s.ident)).setCell ⟨R, 2, none⟩ (.int .u64 (s.sgn.id : Int))).setCell ⟨R, 3, none⟩ (.string s.sgn.pt)).setCell ⟨R, 4, none⟩ (.slice a1 N1 c1)).heap.size = _
        rw [World.size_setCell, World.size_setCell, World.size_setCell, World.size_setCell, World.size_setCell]
      generalize World.drew _ = W9 at HF hbF hkF hsF ⊢
      refine bodyPost_ret (results_tctU (p := 7) (q := 6) (r := 8) (T := 28) (by kernel_rfl) _ _ R rfl HF Try.underlying28 rfl (by kernel_rfl) _ _ rfl rfl) rfl ?_
      have h5 := HE.out.2.2.2.2.2.1
      have hRb := HE.out.2.2.2.2.2.2.2.1
      have hk9 : ∀ k, w2.heap.size ≤ k → k < w4.heap.size → W9.heap[k]? = w4.heap[k]? := fun k h1 h2 => by rw [hkF k (by omega), h5.block k h2]
      have hs9 : w4.heap.size ≤ W9.heap.size := by rw [hsF]; exact h5.size
      have hlen : (K.set i m').length = K.length := List.length_set
      have hw2 : w.heap.size ≤ w2.heap.size := by have := HB.out.size; have := HK.out.1.size; omega
      refine ⟨hbF, Or.inr ⟨HN.out.2, HRT.out, i, hi, HN.out.1, some ⟨g, 0, none⟩, c3, K.set i m', a1, c1, ?_, (HE.out.2.2.2.2.1.keep hs9 hk9).mono hw2, ?_, ?_, HE.out.2.2.2.1.mono hw2⟩⟩
      · rw [HE.out.1, hlen, HE.out.2.2.2.2.2.2.2.2.2]
        rfl
      · rw [shs_set, HE.out.2.1, HE.out.1, HX.out.2.2.1]
      · rw [HE.out.1]
        exact PP_keep HE.out.2.2.1 HE.out.2.2.2.1 hs9 hk9
set_option maxHeartbeats 4000000 in
theorem fetch_any (a : Option Addr) (c : Nat) (L : List ShM) (u : Nat) (hl : L.length ≤ 1000) (w : World) (h : SS w a c L) :
    Calls Try.prog 23 #[.slice a L.length c, .int .u64 (u : Int)] w fun e w' => FetchPost (shs L) u w e w' := by
  obtain ⟨W0, eW0⟩ : ∃ W0, w.alloc (.cells #[.int .u64 0, .string ⟨#[]⟩, .int .u64 0, .string ⟨#[]⟩, .slice none 0 0] 28) = W0 := ⟨_, rfl⟩
  have b0 : Below w.heap.size w W0 := by rw [← eW0]; exact (Below.refl _ w).alloc (Nat.le_refl _) _
  obtain ⟨R, eR⟩ : ∃ R, w.heap.size = R := ⟨_, rfl⟩
  have kR : BlkV W0 R 28 [.int .u64 0, .string ⟨#[]⟩, .int .u64 0, .string ⟨#[]⟩, .slice none 0 0] := by rw [← eW0, ← eR]; exact BlkV.fresh w _ _ _ rfl _ rfl
  have HC := Lib.hid (changedS_any a c L u hl W0 (h.on b0))
  have HK := Lib.hid (And.intro b0 (And.intro kR eR))
  clear h b0 kR
  go_enter Try.func23, Try.ntmps23
  go_upto_region 1 with fail
  clear eW0
  go_wp2_with fail
  refine HC.out.mono ?_
  rintro e w1 ⟨hb, hp⟩
  have hRW := HK.out.2.1.lt
  have k1 := HK.out.2.1.on hb
  have r0 := k1.cell 0 _ rfl
  have r1 := k1.cell 1 _ rfl
  have r2 := k1.cell 2 _ rfl
  have r3 := k1.cell 3 _ rfl
  have r4 := k1.cell 4 _ rfl
  have q0 := k1.frozen 0
  have q1 := k1.frozen 1
  have q2 := k1.frozen 2
  have q3 := k1.frozen 3
  have q4 := k1.frozen 4
  have b1 := HK.out.1.trans (hb.mono HK.out.1.size)
  rcases hp with ⟨hE, rfl⟩ | ⟨hE, hrt, i, hi, hps, a2, c2, K, a1, c1, rfl, hSS, hK, hpp⟩
  · have HP := Lib.hid (And.intro hE (And.intro k1 b1))
    clear hE k1 b1
    go_wp2_with fail
    have HF := HP.out.2.1.put5 (.int .u64 0) (.string ⟨#[]⟩) (.int .u64 0) (.string ⟨#[]⟩) (.slice none 0 0)
    have hbF := below_put5 HP.out.2.2 R (by rw [HK.out.2.2]; exact Nat.le_refl _) (.int .u64 0) (.string ⟨#[]⟩) (.int .u64 0) (.string ⟨#[]⟩) (.slice none 0 0)
    generalize World.setCell _ _ _ = W9 at HF hbF ⊢
    refine bodyPost_ret (results_tctU (p := 5) (q := 4) (r := 6) (T := 28) (by kernel_rfl) _ _ R rfl HF Try.underlying28 rfl (by kernel_rfl) _ _ rfl rfl) rfl ?_
    exact ⟨hbF, Or.inl ⟨HP.out.1, rfl⟩⟩
  · obtain ⟨s, es⟩ : ∃ s, (shs L)[i] = s := ⟨_, rfl⟩
    rw [es] at hK hpp ⊢
    obtain ⟨N1, en1⟩ : ∃ N1, (s.once.take 1).length = N1 := ⟨_, rfl⟩
    rw [en1]
    have HP := Lib.hid (And.intro hE (And.intro hrt (And.intro hps (And.intro hSS (And.intro hK (And.intro hpp (And.intro es (And.intro en1 (And.intro k1 b1)))))))))
    clear hE hrt hps hSS hK hpp es en1 k1 b1
    go_wp2_with fail
    have HF := HP.out.2.2.2.2.2.2.2.2.1.put5 (.int .u64 (s.user : Int)) (.string s.ident) (.int .u64 (s.sgn.id : Int)) (.string s.sgn.pt) (.slice a1 N1 c1)
    have hbF := below_put5 HP.out.2.2.2.2.2.2.2.2.2 R (by rw [HK.out.2.2]; exact Nat.le_refl _) (.int .u64 (s.user : Int)) (.string s.ident) (.int .u64 (s.sgn.id : Int)) (.string s.sgn.pt) (.slice a1 N1 c1)
    have hkF : ∀ k, k ≠ R → (((((w1.setCell ⟨R, 0, none⟩ (.int .u64 (s.user : Int))).setCell ⟨R, 1, none⟩ (.string s.ident)).setCell ⟨R, 2, none⟩ (.int .u64 (s.sgn.id : Int))).setCell ⟨R, 3, none⟩ (.string s.sgn.pt)).setCell ⟨R, 4, none⟩ (.slice a1 N1 c1)).heap[k]? = w1.heap[k]? := fun k hk => by
      rw [heap_setCell_other _ ⟨R, 4, none⟩ k _ hk, heap_setCell_other _ ⟨R, 3, none⟩ k _ hk, heap_setCell_other _ ⟨R, 2, none⟩ k _ hk, heap_setCell_other _ ⟨R, 1, none⟩ k _ hk, heap_setCell_other _ ⟨R, 0, none⟩ k _ hk]
    have hsF : (((((w1.setCell ⟨R, 0, none⟩ (.int .u64 (s.user : Int))).setCell ⟨R, 1, none⟩ (.string s.ident)).setCell ⟨R, 2, none⟩ (.int .u64 (s.sgn.id : Int))).setCell ⟨R, 3, none⟩ (.string s.sgn.pt)).setCell ⟨R, 4, none⟩ (.slice a1 N1 c1)).heap.size = w1.heap.size := by
      rw [World.size_setCell, World.size_setCell, World.size_setCell, World.size_setCell, World.size_setCell]
    generalize World.setCell _ _ _ = W9 at HF hbF hkF hsF ⊢
    refine bodyPost_ret (results_tctU (p := 5) (q := 4) (r := 6) (T := 28) (by kernel_rfl) _ _ R rfl HF Try.underlying28 rfl (by kernel_rfl) _ _ rfl rfl) rfl ?_
    obtain ⟨p1, p2, p3, p4, p5, p6, p7, p8, -, -⟩ := HP.out
    have hk9 : ∀ k, W0.heap.size ≤ k → k < w1.heap.size → W9.heap[k]? = w1.heap[k]? := fun k h1 _ => hkF k (by omega)
    have hs9 : w1.heap.size ≤ W9.heap.size := by rw [hsF]; exact Nat.le_refl _
    have hw0 := HK.out.1.size
    subst p7
    refine ⟨hbF, Or.inr ⟨p1, p2, i, hi, p3, a2, c2, K, a1, c1, ?_, (p4.keep hs9 hk9).mono hw0, p5, PP_keep p6.1 p6.2 hs9 hk9, p6.2.mono hw0⟩⟩
    rw [p8]
    rfl
end Go.Proofs.Ytmmaimopombepaa