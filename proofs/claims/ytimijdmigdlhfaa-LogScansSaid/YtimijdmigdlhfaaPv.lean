/- The contract of the reference's text: one more part. -/
import Derived.Test.YtimijdmigdlhfaaPu
namespace Go.Proofs.Ytimijdmigdlhfaa
open Go.RowKit Go.Sort
set_option maxRecDepth 100000
set_option maxHeartbeats 8000000 in
theorem rText_any (s : ByteArray) (st : St) (a : Option Addr) (c : Nat) (hs : s.size ≤ maxLen) (hp : st.2 ≤ s.size) (hl : st.1.length ≤ 80000) (w : World) (hq : PSl w a st.1) :
    Calls Try.prog 53 #[.string s, .agg #[.slice a st.1.length c, .int .i64 (st.2 : Int), .int .i64 0]] w (RetR w (stepT (bl s) st)) := by
  obtain ⟨l, p⟩ := st
  simp only at hp hl hq ⊢
  have hW1 : Below w.heap.size w (w.alloc (.cells #[.slice a l.length c, .int .i64 (p : Int), .int .i64 0] 86)) := (Below.refl _ _).alloc (Nat.le_refl _) _
  obtain ⟨r, er⟩ : ∃ r, s.extract p s.size = r := ⟨_, rfl⟩
  have hsl := str_from s r p hp er
  have hbr : bl r = (bl s).drop p := by rw [← er, bl_extract, List.take_of_length_le (by rw [bl_length]; exact Nat.le_refl _)]
  have hrs : r.size ≤ maxLen := by rw [← bl_length, hbr, List.length_drop, bl_length]; omega
  have hV := fun W => rValue_any r hrs W
  rw [hbr] at hV
  obtain ⟨B, eB⟩ : ∃ B, w.heap.size = B := ⟨_, rfl⟩
  have HE := Lib.hid eB
  have hx0 : ((w.alloc (.cells #[.slice a l.length c, .int .i64 (p : Int), .int .i64 0] 86)).alloc (.cells #[.slice none 0 0, .int .i64 0, .int .i64 0] 86)).heap[B]? = some (.cells #[.slice a l.length c, .int .i64 (p : Int), .int .i64 0] 86) := by
    rw [← eB, (World.grownBy_alloc _ _ none).block _ (by simp) (by simp)]; exact heap_alloc_new _ _
  have hx1 : ((w.alloc (.cells #[.slice a l.length c, .int .i64 (p : Int), .int .i64 0] 86)).alloc (.cells #[.slice none 0 0, .int .i64 0, .int .i64 0] 86)).heap[B + 1]? = some (.cells #[.slice none 0 0, .int .i64 0, .int .i64 0] 86) := by
    have := heap_alloc_new (w.alloc (.cells #[.slice a l.length c, .int .i64 (p : Int), .int .i64 0] 86)) (.cells #[.slice none 0 0, .int .i64 0, .int .i64 0] 86)
    rw [← eB]
    simpa using this
  have hb0 : Below w.heap.size w ((w.alloc (.cells #[.slice a l.length c, .int .i64 (p : Int), .int .i64 0] 86)).alloc (.cells #[.slice none 0 0, .int .i64 0, .int .i64 0] 86)) := hW1.alloc (by simp) _
  have HX := Lib.hid (And.intro hx0 (And.intro hx1 hb0)); have HV := Lib.hid hV; have HQ := Lib.hid hq; have HP := Lib.hid (And.intro hp (And.intro hl hs))
  clear er hbr hrs hV hx0 hx1 hb0 hW1 hq hp hl hs
  go_enter Try.func53, Try.ntmps53
  go_upto_region 1 with fail
  clear eB
  generalize World.alloc (World.alloc w _) _ = V at HX ⊢
  have d1 : V.cell? ⟨B, 1, none⟩ = some (.int .i64 (p : Int)) := by rw [cell_of_row _ _ _ _ _ _ HX.out.1]; rfl
  go_wp2_with fail
  refine (HV.out V).mono ?_
  rintro e w1 ⟨rfl, hb1⟩
  clear d1 HV hsl
  have hT1 : ∀ cs, Three w (w1.alloc (.cells cs 107)) B (B + 1) w1.heap.size #[.slice a l.length c, .int .i64 (p : Int), .int .i64 0] #[.slice none 0 0, .int .i64 0, .int .i64 0] cs 86 86 107 := fun cs => by
    have hal : Below w1.heap.size w1 (w1.alloc (.cells cs 107)) := (Below.refl _ _).alloc (Nat.le_refl _) _
    have hh := hb1.trans (hal.mono hb1.size)
    exact ⟨by rw [hh.block B (Array.getElem?_eq_some_iff.1 HX.out.1).1]; exact HX.out.1, by rw [hh.block (B + 1) (Array.getElem?_eq_some_iff.1 HX.out.2.1).1]; exact HX.out.2.1, heap_alloc_new _ _, HX.out.2.2.trans (hh.mono HX.out.2.2.size)⟩
  have HT1 := Lib.hid hT1
  have HB1 := Lib.hid hb1
  clear hT1 hb1
  rcases hah : ahead ((bl s).drop p) with _ | ⟨n, k⟩
  · rw [valV_none _ hah]
    go_upto_region 2 with fail
    have HT := Lib.hid (HT1.out #[.int .u64 0, .int .i64 0])
    obtain ⟨vb, evb⟩ : ∃ vb, w1.heap.size = vb := ⟨_, rfl⟩
    rw [evb] at HT ⊢
    have HVB := Lib.hid evb
    clear evb HT1
    generalize World.alloc w1 _ = Y at HT ⊢
    have v0 : Y.cell? ⟨vb, 0, none⟩ = some (.int .u64 0) := by rw [cell_of_row _ _ _ _ _ _ HT.out.h2]; rfl
    have v1 : Y.cell? ⟨vb, 1, none⟩ = some (.int .i64 0) := by rw [cell_of_row _ _ _ _ _ _ HT.out.h2]; rfl
    have HST := Lib.hid (show stepT (bl s) (l, p) = ((l, p), false) by unfold stepT; show (match ahead (List.drop p (bl s)) with | none => _ | some (n, k) => _) = _; rw [hah])
    obtain ⟨x0, x1, x2, xb⟩ := HT.out
    have d1 : Y.cell? ⟨B, 1, none⟩ = some (.int .i64 (p : Int)) := by rw [cell_of_row _ _ _ _ _ _ x0]; rfl
    have r0 : Y.cell? ⟨B + 1, 0, none⟩ = some (.slice none 0 0) := by rw [cell_of_row _ _ _ _ _ _ x1]; rfl
    have r1 : Y.cell? ⟨B + 1, 1, none⟩ = some (.int .i64 0) := by rw [cell_of_row _ _ _ _ _ _ x1]; rfl
    have r2 : Y.cell? ⟨B + 1, 2, none⟩ = some (.int .i64 0) := by rw [cell_of_row _ _ _ _ _ _ x1]; rfl
    have f0 := frozen_of_row Y (B + 1) 0 _ _ x1
    have f1 := frozen_of_row Y (B + 1) 1 _ _ x1
    have f2 := frozen_of_row Y (B + 1) 2 _ _ x1
    have HEN := Lib.hid (And.intro (store3 x1 (.slice none 0 0) (.int .i64 (p : Int)) (.int .i64 4)) (store3_below xb (by have := HE.out; omega : w.heap.size ≤ B + 1) (.slice none 0 0) (.int .i64 (p : Int)) (.int .i64 4)))
    clear x0 x1 x2 xb HT hah
    go_wp2_with fail
    clear v0 v1 d1 r0 r1 r2 f0 f1 f2
    generalize World.setCell (World.setCell (World.setCell Y _ _) _ _) _ _ = Z at HEN ⊢
    have t0 : Z.cell? ⟨B + 1, 0, none⟩ = some (.slice none 0 0) := by rw [cell_of_row _ _ _ _ _ _ HEN.out.1]; rfl
    have t1 : Z.cell? ⟨B + 1, 1, none⟩ = some (.int .i64 (p : Int)) := by rw [cell_of_row _ _ _ _ _ _ HEN.out.1]; rfl
    have t2 : Z.cell? ⟨B + 1, 2, none⟩ = some (.int .i64 4) := by rw [cell_of_row _ _ _ _ _ _ HEN.out.1]; rfl
    rw [HST.out]
    refine bodyPost_ret (v := .agg #[.slice none 0 0, .int .i64 (p : Int), .int .i64 4]) (by simp [results, Try.results53, go_sem, t0, t1, t2]) rfl ?_
    exact ⟨none, 0, rfl, Nat.le_refl _, PSl.nil _ _, (fun _ h => by cases h), HEN.out.2⟩
  · rw [valV_some _ _ _ hah]
    obtain ⟨-, -, hk1, hn1, hk9, hk0⟩ := ahead_some _ _ _ hah
    have hk0b : ((k : Int) == 0) = false := by rw [beq_eq_false_iff_ne]; omega
    rw [List.length_drop, bl_length] at hk1
    go_upto_region 2 with fail
    have HT := Lib.hid (HT1.out #[.int .u64 (n : Int), .int .i64 (k : Int)])
    obtain ⟨vb, evb⟩ : ∃ vb, w1.heap.size = vb := ⟨_, rfl⟩
    rw [evb] at HT ⊢
    have HVB := Lib.hid evb
    clear evb HT1
    generalize World.alloc w1 _ = Y at HT ⊢
    have v0 : Y.cell? ⟨vb, 0, none⟩ = some (.int .u64 (n : Int)) := by rw [cell_of_row _ _ _ _ _ _ HT.out.h2]; rfl
    have v1 : Y.cell? ⟨vb, 1, none⟩ = some (.int .i64 (k : Int)) := by rw [cell_of_row _ _ _ _ _ _ HT.out.h2]; rfl
    by_cases hm : 1024 < n
    · have l1 : (1024 : Int) < (n : Int) := by omega
      have HST := Lib.hid (show stepT (bl s) (l, p) = ((l, p), false) by unfold stepT; show (match ahead (List.drop p (bl s)) with | none => _ | some (n, k) => _) = _; rw [hah]; simp only; rw [if_neg (by omega)])
      obtain ⟨x0, x1, x2, xb⟩ := HT.out
      have d1 : Y.cell? ⟨B, 1, none⟩ = some (.int .i64 (p : Int)) := by rw [cell_of_row _ _ _ _ _ _ x0]; rfl
      have r0 : Y.cell? ⟨B + 1, 0, none⟩ = some (.slice none 0 0) := by rw [cell_of_row _ _ _ _ _ _ x1]; rfl
      have r1 : Y.cell? ⟨B + 1, 1, none⟩ = some (.int .i64 0) := by rw [cell_of_row _ _ _ _ _ _ x1]; rfl
      have r2 : Y.cell? ⟨B + 1, 2, none⟩ = some (.int .i64 0) := by rw [cell_of_row _ _ _ _ _ _ x1]; rfl
      have f0 := frozen_of_row Y (B + 1) 0 _ _ x1
      have f1 := frozen_of_row Y (B + 1) 1 _ _ x1
      have f2 := frozen_of_row Y (B + 1) 2 _ _ x1
      have HEN := Lib.hid (And.intro (store3 x1 (.slice none 0 0) (.int .i64 (p : Int)) (.int .i64 4)) (store3_below xb (by have := HE.out; omega : w.heap.size ≤ B + 1) (.slice none 0 0) (.int .i64 (p : Int)) (.int .i64 4)))
      clear x0 x1 x2 xb HT hah hm hk1 hn1 hk9 hk0
      go_wp2_with fail
      clear v0 v1 hk0b l1 d1 r0 r1 r2 f0 f1 f2
      generalize World.setCell (World.setCell (World.setCell Y _ _) _ _) _ _ = Z at HEN ⊢
      have t0 : Z.cell? ⟨B + 1, 0, none⟩ = some (.slice none 0 0) := by rw [cell_of_row _ _ _ _ _ _ HEN.out.1]; rfl
      have t1 : Z.cell? ⟨B + 1, 1, none⟩ = some (.int .i64 (p : Int)) := by rw [cell_of_row _ _ _ _ _ _ HEN.out.1]; rfl
      have t2 : Z.cell? ⟨B + 1, 2, none⟩ = some (.int .i64 4) := by rw [cell_of_row _ _ _ _ _ _ HEN.out.1]; rfl
      rw [HST.out]
      refine bodyPost_ret (v := .agg #[.slice none 0 0, .int .i64 (p : Int), .int .i64 4]) (by simp [results, Try.results53, go_sem, t0, t1, t2]) rfl ?_
      exact ⟨none, 0, rfl, Nat.le_refl _, PSl.nil _ _, (fun _ h => by cases h), HEN.out.2⟩
    · have l1 : ¬ (1024 : Int) < (n : Int) := by omega
      have hki : (k : Int) ≤ 9 := by omega
      have hps : (p : Int) ≤ (s.size : Int) := by have := HP.out.1; omega
      have hsi : (s.size : Int) ≤ 9223372036854775807 := by have := HP.out.2.2; unfold maxLen at this; omega
      by_cases hfit : s.size < p + k + n
      · have l2 : (s.size : Int) - (p : Int) < (k : Int) + (n : Int) := by have := HP.out.1; omega
        have HST := Lib.hid (show stepT (bl s) (l, p) = ((l, p), false) by unfold stepT; show (match ahead (List.drop p (bl s)) with | none => _ | some (n, k) => _) = _; rw [hah]; simp only; rw [if_neg (by rw [bl_length]; omega)])
        obtain ⟨x0, x1, x2, xb⟩ := HT.out
        have d1 : Y.cell? ⟨B, 1, none⟩ = some (.int .i64 (p : Int)) := by rw [cell_of_row _ _ _ _ _ _ x0]; rfl
        have r0 : Y.cell? ⟨B + 1, 0, none⟩ = some (.slice none 0 0) := by rw [cell_of_row _ _ _ _ _ _ x1]; rfl
        have r1 : Y.cell? ⟨B + 1, 1, none⟩ = some (.int .i64 0) := by rw [cell_of_row _ _ _ _ _ _ x1]; rfl
        have r2 : Y.cell? ⟨B + 1, 2, none⟩ = some (.int .i64 0) := by rw [cell_of_row _ _ _ _ _ _ x1]; rfl
        have f0 := frozen_of_row Y (B + 1) 0 _ _ x1
        have f1 := frozen_of_row Y (B + 1) 1 _ _ x1
        have f2 := frozen_of_row Y (B + 1) 2 _ _ x1
        have HEN := Lib.hid (And.intro (store3 x1 (.slice none 0 0) (.int .i64 (p : Int)) (.int .i64 4)) (store3_below xb (by have := HE.out; omega : w.heap.size ≤ B + 1) (.slice none 0 0) (.int .i64 (p : Int)) (.int .i64 4)))
        clear x0 x1 x2 xb HT hah hm hk1 hn1 hk9 hk0 hfit
        go_wp2_with fail
        clear v0 v1 hk0b l1 l2 hki hps hsi d1 r0 r1 r2 f0 f1 f2
        generalize World.setCell (World.setCell (World.setCell Y _ _) _ _) _ _ = Z at HEN ⊢
        have t0 : Z.cell? ⟨B + 1, 0, none⟩ = some (.slice none 0 0) := by rw [cell_of_row _ _ _ _ _ _ HEN.out.1]; rfl
        have t1 : Z.cell? ⟨B + 1, 1, none⟩ = some (.int .i64 (p : Int)) := by rw [cell_of_row _ _ _ _ _ _ HEN.out.1]; rfl
        have t2 : Z.cell? ⟨B + 1, 2, none⟩ = some (.int .i64 4) := by rw [cell_of_row _ _ _ _ _ _ HEN.out.1]; rfl
        rw [HST.out]
        refine bodyPost_ret (v := .agg #[.slice none 0 0, .int .i64 (p : Int), .int .i64 4]) (by simp [results, Try.results53, go_sem, t0, t1, t2]) rfl ?_
        exact ⟨none, 0, rfl, Nat.le_refl _, PSl.nil _ _, (fun _ h => by cases h), HEN.out.2⟩
      · have l2 : ¬ (s.size : Int) - (p : Int) < (k : Int) + (n : Int) := by have := HP.out.1; omega
        obtain ⟨q, eq⟩ : ∃ q, p + k = q := ⟨_, rfl⟩
        have hq : (p : Int) + (k : Int) = (q : Int) := by omega
        obtain ⟨x, ex⟩ : ∃ x, s.extract q (q + n) = x := ⟨_, rfl⟩
        have hsl2 : ∀ W : World, (Instr.slice 9 (.string s) (some (.int .i64 (q : Int))) (some (.int .i64 ((q : Int) + (n : Int)))) none).run Try.prog W = .ok (.string x) W := fun W => by
          rw [← ex]
          exact str_slice (P := Try.prog) 9 Try.underlying9 s (q : Int) ((q : Int) + (n : Int)) q (q + n) rfl (by omega) (by omega) (by omega) W
        have hxs : strL (((bl s).drop q).take n) = x := by
          rw [← ex, ← strL_bl (s.extract q (q + n)), bl_extract]
          congr 1
          rw [List.drop_take, Nat.add_sub_cancel_left]
        have hqn : (q : Int) + (n : Int) ≤ (s.size : Int) := by omega
        have hqp : (0 : Int) ≤ (q : Int) := by omega
        have d1 : Y.cell? ⟨B, 1, none⟩ = some (.int .i64 (p : Int)) := by rw [cell_of_row _ _ _ _ _ _ HT.out.h0]; rfl
        have HST := Lib.hid (show stepT (bl s) (l, p) = ((l ++ [⟨true, 0, x⟩], q + n), true) by unfold stepT; show (match ahead (List.drop p (bl s)) with | none => _ | some (n, k) => _) = _; rw [hah]; simp only; rw [if_pos (by rw [bl_length]; omega), eq, hxs])
        clear hah hm hk1 hn1 hk9 hfit hxs ex eq
        go_upto_region 5 with fail
        clear v0 v1 hk0b l2 d1 hq
        have hEs : Below Y.heap.size Y (Y.alloc (.cells #[] 65)) := (Below.refl _ _).alloc (Nat.le_refl _) _
        have hE0 := OwnP.empty Y Y.heap.size (Nat.le_refl _)
        have HT2 := Lib.hid (HT.out.on hEs)
        have hQ2 := HQ.out.on (HT.out.below.mono (Nat.le_refl _))
        have HQ2 := Lib.hid (hQ2.on hEs)
        have HBS := Lib.hid (And.intro HT.out.below.size (show Y.heap.size ≤ (Y.alloc (.cells #[] 65)).heap.size by simp))
        have HE0 := Lib.hid hE0
        have hav : ∀ x, a = some x → 0 < l.length → x.block < w.heap.size := fun x hx h0 => by
          obtain ⟨g, off, rfl, hlt, -⟩ := HQ.out h0
          cases hx; exact hlt
        have HAV := Lib.hid hav
        have hbd : B + 1 < Y.heap.size := (Array.getElem?_eq_some_iff.1 HT.out.h1).1
        have HBD0 := Lib.hid hbd
        clear hEs hE0 hQ2 hav hbd HT
        obtain ⟨D, eD⟩ : ∃ D, Y.heap.size = D := ⟨_, rfl⟩
        have HD := Lib.hid eD
        go_upto_region 6 with fail
        rw [eD] at HE0 HBS HBD0
        clear eD
        generalize World.alloc Y _ = Y2 at HT2 HQ2 HE0 HBS ⊢
        have a0 : Y2.cell? ⟨B, 0, none⟩ = some (.slice a l.length c) := by rw [cell_of_row _ _ _ _ _ _ HT2.out.h0]; rfl
        go_wp2_with (at_builtin; refine append_ps rfl _ _ rfl D _ [] a l.length c l rfl rfl rfl HE0.out HQ2.out (by have := HP.out.2.1; simp; omega) HBS.out.2 ?_)
        intro v6 w6 hO6 hg6
        have HT6 := Lib.hid (HT2.out.app HE0.out HBS.out.2 HBS.out.1 hg6 (by decide) (by decide) (by decide))
        have HO6 := Lib.hid (show OwnP w6 D v6 l from hO6)
        have HS6 := Lib.hid (Nat.le_trans HBS.out.2 hg6.size)
        clear hO6 hg6 a0 HT2 HQ2 HE0
        have v0 : w6.cell? ⟨vb, 0, none⟩ = some (.int .u64 (n : Int)) := by rw [cell_of_row _ _ _ _ _ _ HT6.out.h2]; rfl
        have v1 : w6.cell? ⟨vb, 1, none⟩ = some (.int .i64 (k : Int)) := by rw [cell_of_row _ _ _ _ _ _ HT6.out.h2]; rfl
        have a1 : w6.cell? ⟨B, 1, none⟩ = some (.int .i64 (p : Int)) := by rw [cell_of_row _ _ _ _ _ _ HT6.out.h0]; rfl
        have hpt := PtAt.fresh w6 (⟨true, 0, x⟩ : Pt) 65
        have HPT := Lib.hid hpt
        have hal : Below w6.heap.size w6 (w6.alloc (.cells #[.bool true, .int .u64 0, .string x] 65)) := (Below.refl _ _).alloc (Nat.le_refl _) _
        have HT7 := Lib.hid (HT6.out.on hal)
        have HO7 := Lib.hid (HO6.out.on hal)
        have HS7 := Lib.hid (Nat.le_trans HS6.out hal.size)
        clear hpt hal
        go_wp2_with (at_builtin; refine append_ps rfl _ _ rfl D _ l (some ⟨w6.heap.size, 0, none⟩) 1 1 [(⟨true, 0, x⟩ : Pt)] rfl rfl rfl HO7.out (PSl.one HPT.out) (by have := HP.out.2.1; simp; omega) HS7.out ?_)
        intro v8 w8 hO8 hg8
        have HT8 := Lib.hid (HT7.out.app HO7.out HS7.out HBS.out.1 hg8 (by decide) (by decide) (by decide))
        obtain ⟨a8, c8, rfl, hlc8, hp8⟩ := hO8.psl
        have hot : ∀ ad, a8 = some ad → 0 < (l ++ [(⟨true, 0, x⟩ : Pt)]).length → ad.block ≠ B + 1 := fun ad hx _ => by
          have h1 := (World.ownsRow.lt hO8 ad.block (by rw [hx]; rfl)).1
          have := HBD0.out
          omega
        have HOT := Lib.hid hot
        have hfr : ∀ ad, a8 = some ad → 0 < (l ++ [(⟨true, 0, x⟩ : Pt)]).length → w.heap.size ≤ ad.block := fun ad hx _ => Nat.le_trans HBS.out.1 (World.ownsRow.lt hO8 ad.block (by rw [hx]; rfl)).1
        have HFR := Lib.hid hfr
        have HP8 := Lib.hid (And.intro hlc8 hp8)
        obtain ⟨N8, eN8⟩ : ∃ N8, (l ++ [(⟨true, 0, x⟩ : Pt)]).length = N8 := ⟨_, rfl⟩
        have HN8 := Lib.hid eN8
        rw [eN8]
        clear hO8 hg8 hlc8 hp8 hot hfr eN8 v0 v1 a1 HT6 HO6 HS6 HPT HT7 HO7 HS7
        have v0 : w8.cell? ⟨vb, 0, none⟩ = some (.int .u64 (n : Int)) := by rw [cell_of_row _ _ _ _ _ _ HT8.out.h2]; rfl
        have v1 : w8.cell? ⟨vb, 1, none⟩ = some (.int .i64 (k : Int)) := by rw [cell_of_row _ _ _ _ _ _ HT8.out.h2]; rfl
        have a1 : w8.cell? ⟨B, 1, none⟩ = some (.int .i64 (p : Int)) := by rw [cell_of_row _ _ _ _ _ _ HT8.out.h0]; rfl
        obtain ⟨x0, x1, x2, xb⟩ := HT8.out
        have r0 : w8.cell? ⟨B + 1, 0, none⟩ = some (.slice none 0 0) := by rw [cell_of_row _ _ _ _ _ _ x1]; rfl
        have r1 : w8.cell? ⟨B + 1, 1, none⟩ = some (.int .i64 0) := by rw [cell_of_row _ _ _ _ _ _ x1]; rfl
        have r2 : w8.cell? ⟨B + 1, 2, none⟩ = some (.int .i64 0) := by rw [cell_of_row _ _ _ _ _ _ x1]; rfl
        have f0 := frozen_of_row w8 (B + 1) 0 _ _ x1
        have f1 := frozen_of_row w8 (B + 1) 1 _ _ x1
        have f2 := frozen_of_row w8 (B + 1) 2 _ _ x1
        have hz0 := store3 x1 (.slice a8 N8 c8) (.int .i64 ((q : Int) + (n : Int))) (.int .i64 0)
        have hzb := store3_below xb (by have := HE.out; omega : w.heap.size ≤ B + 1) (.slice a8 N8 c8) (.int .i64 ((q : Int) + (n : Int))) (.int .i64 0)
        have hpz : PSl (((w8.setCell ⟨B + 1, 0, none⟩ (.slice a8 N8 c8)).setCell ⟨B + 1, 1, none⟩ (.int .i64 ((q : Int) + (n : Int)))).setCell ⟨B + 1, 2, none⟩ (.int .i64 0)) a8 (l ++ [(⟨true, 0, x⟩ : Pt)]) := PSl.three HP8.out.2 x1 (by decide) HOT.out _ _ _
        have HEN := Lib.hid (And.intro hz0 (And.intro hzb hpz))
        clear x0 x1 x2 xb hz0 hzb hpz HT8
        go_wp2_with fail
        clear a1 v0 v1 r0 r1 r2 f0 f1 f2
        generalize World.setCell (World.setCell (World.setCell w8 _ _) _ _) _ _ = Z at HEN ⊢
        have t0 : Z.cell? ⟨B + 1, 0, none⟩ = some (.slice a8 N8 c8) := by rw [cell_of_row _ _ _ _ _ _ HEN.out.1]; rfl
        have t1 : Z.cell? ⟨B + 1, 1, none⟩ = some (.int .i64 ((q : Int) + (n : Int))) := by rw [cell_of_row _ _ _ _ _ _ HEN.out.1]; rfl
        have t2 : Z.cell? ⟨B + 1, 2, none⟩ = some (.int .i64 0) := by rw [cell_of_row _ _ _ _ _ _ HEN.out.1]; rfl
        rw [HST.out]
        refine bodyPost_ret (v := .agg #[.slice a8 N8 c8, .int .i64 ((q : Int) + (n : Int)), .int .i64 0]) (by simp [results, Try.results53, go_sem, t0, t1, t2]) rfl ?_
        refine ⟨a8, c8, ?_, HP8.out.1, HEN.out.2.2, HFR.out, HEN.out.2.1⟩
        rw [← HN8.out]; rfl
end Go.Proofs.Ytimijdmigdlhfaa