/- prekeys: changed with nothing told, where it refuses. -/
import Derived.Test.YtmmaimopombepaaBo
namespace Go.Proofs.Ytmmaimopombepaa
open Go.RowKit
set_option maxRecDepth 100000
set_option maxHeartbeats 8000000 in
theorem changedN_err (a : Option Addr) (c : Nat) (L : List ShM) (u : Nat) (hl : L.length ≤ 1000) (fv : Value) (hE : leftE (shs L) u ≠ 0) (w : World) (h : SS w a c L) :
    Calls Try.prog 52 #[.slice a L.length c, .int .u64 (u : Int), fv] w fun e w' => e = .returned (.tuple #[.slice none 0 0, .agg #[], .int .i64 (leftE (shs L) u)]) ∧ Below w.heap.size w w' := by
  obtain ⟨W0, eW0⟩ : ∃ W0, (w.alloc (.cells #[] 87)).alloc (.cells #[] 87) = W0 := ⟨_, rfl⟩
  have b0 : Below w.heap.size w W0 := by rw [← eW0]; exact ((Below.refl _ w).alloc (Nat.le_refl _) _).alloc (by simp) _
  obtain ⟨R, eR⟩ : ∃ R, w.heap.size = R := ⟨_, rfl⟩
  have kR : BlkV W0 R 87 [] := by rw [← eW0, ← eR]; exact (BlkV.fresh w _ _ _ rfl _ rfl).alloc _
  have kN : BlkV W0 (R + 1) 87 [] := by rw [← eW0, ← eR]; exact BlkV.fresh _ _ _ _ rfl _ (by simp)
  have HR := Lib.hid (right_any a c L W0 (h.on b0) hl)
  have H := Lib.hid (h.on b0)
  have HK := Lib.hid (And.intro b0 (And.intro kR (And.intro kN eR)))
  have HE := Lib.hid hE
  clear h b0 kR kN hE
  by_cases hr : rightSL (shs L)
  case neg =>
    rw [decide_eq_false hr] at HR
    have HN := Lib.hid (leftE_bad (u := u) hr)
    clear hr
    go_enter Try.func52, Try.ntmps52
    go_upto_region 2 with fail
    clear eW0
    go_wp2_with fail
    refine HR.out.mono ?_
    rintro e w1 ⟨rfl, hb1⟩
    have HJ := Lib.hid (And.intro (HK.out.2.1.on hb1) (HK.out.1.trans (hb1.mono HK.out.1.size)))
    clear hb1 HR
    go_wp2_with fail
    go_region
    all_goals go_wp2_with fail
    have HF := HJ.out.1.dr
    have hbF := HJ.out.2.drew
    generalize World.drew _ = W9 at HF hbF ⊢
    refine bodyPost_ret (results_tctU (p := 7) (q := 6) (r := 8) (T := 87) (by kernel_rfl) _ _ R rfl HF Try.underlying87 rfl (by kernel_rfl) _ _ rfl rfl) rfl ?_
    exact ⟨by rw [HN.out]; rfl, hbF⟩
  case pos =>
    rw [decide_eq_true hr] at HR
    have HP := Lib.hid (fun W hW => place_any a c L u W hW hl hr.2.2)
    have HRT := Lib.hid hr
    clear hr
    go_enter Try.func52, Try.ntmps52
    go_upto_region 2 with fail
    clear eW0
    go_wp2_with fail
    refine HR.out.mono ?_
    rintro e w1 ⟨rfl, hb1⟩
    go_wp2_with fail
    refine (HP.out w1 (H.out.on hb1)).mono ?_
    rintro e w2 ⟨i, f, rfl, hpl, hb2⟩
    have hps := place_of_at HRT.out.2.2 hpl
    have hb12 := hb1.trans (hb2.mono hb1.size)
    cases f
    · rw [if_neg (by decide)] at hps
      have HN := Lib.hid (left_none HRT.out hps).2
      have HJ := Lib.hid (And.intro (HK.out.2.1.on hb12) (HK.out.1.trans (hb12.mono HK.out.1.size)))
      clear hb1 hb2 hb12 hpl hps HR
      go_wp2_with fail
      go_region
      all_goals go_wp2_with fail
      have HF := HJ.out.1.dr
      have hbF := HJ.out.2.drew
      generalize World.drew _ = W9 at HF hbF ⊢
      refine bodyPost_ret (results_tctU (p := 7) (q := 6) (r := 8) (T := 87) (by kernel_rfl) _ _ R rfl HF Try.underlying87 rfl (by kernel_rfl) _ _ rfl rfl) rfl ?_
      exact ⟨by rw [HN.out]; rfl, hbF⟩
    · obtain ⟨hi, hu⟩ := hpl.2.2.2.1 rfl
      rw [if_pos rfl] at hps
      exact absurd (left_some HRT.out hps hi).2 HE.out
/-! ### none yet -/
theorem allCopied_nil (w : World) : Calls Try.prog 85 #[.slice none 0 0] w fun e w' => e = .returned (.slice none 0 0) ∧ w' = w := by
  go_enter Try.func85, Try.ntmps85
  go_wp2_with fail
  go_loopw [3, 8] (fun v i wr => v = .slice none 0 0 ∧ i = .int .i64 0 ∧ w = wr) (fun _ _ _ => 0)
  case atStart => exact ⟨rfl, rfl, rfl⟩
  case round =>
    obtain ⟨rfl, rfl, rfl⟩ := hrel
    go_wp2_with fail
    go_ret
    exact ⟨rfl, rfl⟩
theorem insert_nil (b : Nat) (y : ShM) (w : World) (h : Sl eSh w (some ⟨b, 0, none⟩) [y]) :
    Calls Try.prog 86 #[.slice none 0 0, .int .i64 0, .slice (some ⟨b, 0, none⟩) 1 1] w fun e w' => ∃ v, e = .returned v ∧ OwnE eSh 28 w' w.heap.size v [y] ∧ Below w.heap.size w w' := by
  have H := Lib.hid h
  clear h
  go_enter Try.func86, Try.ntmps86
  go_wp2_with (at_builtin; refine append_E eSh 22 28 _ 72 Try.underlying22 infoSh rfl rfl _ _ rfl w.heap.size _ [] _ _ _ [y] rfl rfl rfl (OwnE.nil _ _ _ _) H.out (fun e => by cases e) (by unfold maxLen; simp) (by simp) (Nat.le_refl _) ?_; intro v' w3 ho3 hg3; have HO3 := Lib.hid ho3; have HG3 := Lib.hid hg3; clear ho3 hg3)
  go_ret
  exact ⟨_, rfl, HO3.out, OwnE.below (OwnE.nil eSh 28 w w.heap.size) (Below.refl _ _) (Nat.le_refl _) HG3.out⟩
theorem one_copied (w : World) (m y : ShM) (hy : y.s = m.s) : Sl eSh (w.alloc (.cells #[.int .u64 (m.s.user : Int), .string m.s.ident, .int .u64 (m.s.sgn.id : Int), .string m.s.sgn.pt, .slice y.a m.s.once.length y.c] 28)) (some ⟨w.heap.size, 0, none⟩) [y] := by
  have hq := Sl.one (E := eSh) (w := w) 28 y
  have e : (eSh.enc y).toArray = #[.int .u64 (m.s.user : Int), .string m.s.ident, .int .u64 (m.s.sgn.id : Int), .string m.s.sgn.pt, .slice y.a m.s.once.length y.c] := by
    show (shL y).toArray = _
    unfold shL
    rw [hy]
  rw [e] at hq
  exact hq
set_option maxHeartbeats 8000000 in
theorem with_nil (m : ShM) (hl : m.s.once.length ≤ 1000) (w : World) (h : PtsAt w m) :
    Calls Try.prog 55 #[.slice none 0 0, .agg #[.int .u64 (m.s.user : Int), .string m.s.ident, .int .u64 (m.s.sgn.id : Int), .string m.s.sgn.pt, .slice m.a m.s.once.length m.c]] w fun e w' => ∃ (a : Option Addr) (c : Nat) (y : ShM), e = .returned (.tuple #[.slice a 1 c, .int .i64 0]) ∧ SS w' a c [y] ∧ y.s = m.s ∧ Below w.heap.size w w' := by
  obtain ⟨W0, eW0⟩ : ∃ W0, w.alloc (.cells #[.int .u64 (m.s.user : Int), .string m.s.ident, .int .u64 (m.s.sgn.id : Int), .string m.s.sgn.pt, .slice m.a m.s.once.length m.c] 28) = W0 := ⟨_, rfl⟩
  have b0 : Below w.heap.size w W0 := by rw [← eW0]; exact (Below.refl _ w).alloc (Nat.le_refl _) _
  obtain ⟨R, eR⟩ : ∃ R, w.heap.size = R := ⟨_, rfl⟩
  have kR : BlkV W0 R 28 [.int .u64 (m.s.user : Int), .string m.s.ident, .int .u64 (m.s.sgn.id : Int), .string m.s.sgn.pt, .slice m.a m.s.once.length m.c] := by rw [← eW0, ← eR]; exact BlkV.fresh w _ _ _ rfl _ rfl
  have c0 := kR.cell 0 _ rfl
  have HP := Lib.hid (fun W => place_any none 0 [] m.s.user W (SS.empty W) (by simp) List.Pairwise.nil)
  have HK := Lib.hid (And.intro b0 (And.intro kR (And.intro eR (h.on b0))))
  have HL := Lib.hid hl
  clear h b0 kR hl
  go_enter Try.func55, Try.ntmps55
  go_upto_region 1 with fail
  clear eW0
  go_wp2_with fail
  refine (HP.out W0).mono ?_
  rintro e w1 ⟨i, f, rfl, hpl, hb1⟩
  obtain rfl : i = 0 := by have := hpl.1; simpa [shs] using this
  have HB := Lib.hid hb1
  clear hpl hb1 c0
  have k1 := HK.out.2.1.on HB.out
  have hpt := HK.out.2.2.2.on HB.out
  have c0 := k1.cell 0 _ rfl
  have c1 := k1.cell 1 _ rfl
  have c2 := k1.cell 2 _ rfl
  have c3 := k1.cell 3 _ rfl
  have c4 := k1.cell 4 _ rfl
  have HM := Lib.hid (copied_any m HL.out w1.drew (hpt.on (Below.refl _ _).drew))
  clear k1 hpt
  go_upto_region 4 with fail
  go_region_with (first
    | (go_at_call 85; refine (allCopied_nil _).mono ?_; rintro e w' ⟨rfl, rfl⟩)
    | (go_at_call 54; refine HM.out.mono ?_; rintro e w2 ⟨y, hy, rfl, ho, hb2⟩)
    | (go_at_call 86; refine (insert_nil w2.heap.size y _ (one_copied w2 m y hy)).mono ?_; rintro e w3 ⟨v, rfl, ho3, hb3⟩))
  all_goals
    have b2 : Below w2.heap.size w2 w3 := ((Below.refl _ w2).alloc (Nat.le_refl _) _).trans (hb3.mono (by simp))
    have b1 : Below w.heap.size w w1 := HK.out.1.trans (HB.out.mono HK.out.1.size)
    have b9 : Below w.heap.size w w3 := (b1.drew.trans (hb2.mono b1.size)).trans (b2.mono (Nat.le_trans b1.size hb2.size))
    obtain ⟨a', c', ev, hss⟩ := ho3.ss (fun z hz => by rw [List.mem_singleton.1 hz]; exact ho.at.on b2)
    subst ev
    have HZ := Lib.hid (And.intro hss (And.intro hy b9))
    clear hss hy b9 b2 b1 ho3 ho hb2 hb3 c0 c1 c2 c3 c4
    go_wp2_with fail
    refine bodyPost_ret (v := .tuple #[.slice a' 1 c', .int .i64 0]) (by simp [results, Try.results55, go_sem]) rfl ?_
    exact ⟨a', c', y, rfl, HZ.out.1, HZ.out.2.1, HZ.out.2.2⟩
set_option maxHeartbeats 8000000 in
theorem publish_nil (m : ShM) (hm : rightSh m.s) (w : World) (h : PtsAt w m) :
    Calls Try.prog 15 #[.slice none 0 0, .agg #[.int .u64 (m.s.user : Int), .string m.s.ident, .int .u64 (m.s.sgn.id : Int), .string m.s.sgn.pt, .slice m.a m.s.once.length m.c]] w fun e w' => ∃ (a : Option Addr) (c : Nat) (y : ShM), e = .returned (.tuple #[.slice a 1 c, .int .i64 0]) ∧ SS w' a c [y] ∧ y.s = m.s ∧ Below w.heap.size w w' := by
  obtain ⟨W0, eW0⟩ : ∃ W0, w.alloc (.cells #[.int .u64 (m.s.user : Int), .string m.s.ident, .int .u64 (m.s.sgn.id : Int), .string m.s.sgn.pt, .slice m.a m.s.once.length m.c] 28) = W0 := ⟨_, rfl⟩
  have b0 : Below w.heap.size w W0 := by rw [← eW0]; exact (Below.refl _ w).alloc (Nat.le_refl _) _
  obtain ⟨R, eR⟩ : ∃ R, w.heap.size = R := ⟨_, rfl⟩
  have kR : BlkV W0 R 28 [.int .u64 (m.s.user : Int), .string m.s.ident, .int .u64 (m.s.sgn.id : Int), .string m.s.sgn.pt, .slice m.a m.s.once.length m.c] := by rw [← eW0, ← eR]; exact BlkV.fresh w _ _ _ rfl _ rfl
  have c0 := kR.cell 0 _ rfl
  have c1 := kR.cell 1 _ rfl
  have c2 := kR.cell 2 _ rfl
  have c3 := kR.cell 3 _ rfl
  have c4 := kR.cell 4 _ rfl
  have HM := Lib.hid (mayBe_any m W0 (h.on b0))
  rw [decide_eq_true hm] at HM
  have hE : leftE (shs []) m.s.user = 5 := (left_none (l := []) ⟨by simp, fun s hs => by simp at hs, List.Pairwise.nil⟩ rfl).2
  have HC := Lib.hid (fun W fv => changedN_err none 0 [] m.s.user (by simp) fv (by rw [hE]; decide) W (SS.empty W))
  rw [hE] at HC
  have HK := Lib.hid (And.intro b0 (And.intro kR (And.intro eR (h.on b0))))
  have HL := Lib.hid (show m.s.once.length ≤ 1000 by have := hm.2.2.1; omega)
  clear h b0 kR hm hE
  go_enter Try.func15, Try.ntmps15
  go_upto_region 1 with fail
  clear eW0
  go_wp2_with fail
  refine HM.out.mono ?_
  rintro e w1 ⟨rfl, hb1⟩
  have k1 := HK.out.2.1.on hb1
  have d0 := k1.cell 0 _ rfl
  have d1 := k1.cell 1 _ rfl
  have d2 := k1.cell 2 _ rfl
  have d3 := k1.cell 3 _ rfl
  have d4 := k1.cell 4 _ rfl
  have p1 := HK.out.2.2.2.on hb1
  have b1 := HK.out.1.trans (hb1.mono HK.out.1.size)
  have H1 := Lib.hid (And.intro k1 (And.intro p1 b1))
  clear k1 p1 b1 hb1 c0 c1 c2 c3 c4 HM
  go_wp2_with fail
  refine (HC.out _ _).mono ?_
  rintro e w2 ⟨rfl, hb2⟩
  obtain ⟨W3, eW3⟩ : ∃ W3, w2.alloc (.cells #[] 87) = W3 := ⟨_, rfl⟩
  have b3 : Below w2.heap.size w2 W3 := by rw [← eW3]; exact (Below.refl _ w2).alloc (Nat.le_refl _) _
  have b23 := hb2.trans (b3.mono hb2.size)
  have k3 := H1.out.1.on b23
  have f0 := k3.cell 0 _ rfl
  have f1 := k3.cell 1 _ rfl
  have f2 := k3.cell 2 _ rfl
  have f3 := k3.cell 3 _ rfl
  have f4 := k3.cell 4 _ rfl
  have HWI := Lib.hid (with_nil m HL.out W3 (H1.out.2.1.on b23))
  have H3 := Lib.hid (H1.out.2.2.trans (b23.mono H1.out.2.2.size))
  clear k3 b23 b3 hb2 d0 d1 d2 d3 d4
  go_wp2_with fail
  refine HWI.out.mono ?_
  rintro e w4 ⟨a, c, y, rfl, hss, hy, hb4⟩
  have HZ := Lib.hid (And.intro hss (And.intro hy (H3.out.trans (hb4.mono H3.out.size))))
  clear hss hy hb4
  go_wp2_with fail
  refine bodyPost_ret (v := .tuple #[.slice a 1 c, .int .i64 0]) (by simp [results, Try.results15, go_sem]) rfl ?_
  exact ⟨a, c, y, rfl, HZ.out.1, HZ.out.2.1, HZ.out.2.2⟩
end Go.Proofs.Ytmmaimopombepaa