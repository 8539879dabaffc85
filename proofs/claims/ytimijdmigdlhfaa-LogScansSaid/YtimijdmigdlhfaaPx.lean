/- The contract of the reference's one: of a kind. -/
import Derived.Test.YtimijdmigdlhfaaPw
namespace Go.Proofs.Ytimijdmigdlhfaa
open Go.RowKit Go.Sort
set_option maxRecDepth 100000
set_option maxHeartbeats 8000000 in
theorem rOneK_any (s : ByteArray) (st : St) (k : UInt8) (a : Option Addr) (c : Nat) (hs : s.size ≤ maxLen) (hp : st.2 ≤ s.size) (hl : st.1.length ≤ 70000) (hc : st.1.length ≤ c) (w : World) (hq : PSl w a st.1) :
    Calls Try.prog 48 #[.string s, .agg #[.slice a st.1.length c, .int .i64 (st.2 : Int), .int .i64 0], .int .u8 (k.toNat : Int)] w (RetR w (stepK (bl s) k st)) := by
  have hW1 : Below w.heap.size w (w.alloc (.cells #[.slice a st.1.length c, .int .i64 (st.2 : Int), .int .i64 0] 86)) := (Below.refl _ _).alloc (Nat.le_refl _) _
  obtain ⟨B, eB⟩ : ∃ B, w.heap.size = B := ⟨_, rfl⟩
  have hx0 : ((w.alloc (.cells #[.slice a st.1.length c, .int .i64 (st.2 : Int), .int .i64 0] 86)).alloc (.cells #[.slice none 0 0, .int .i64 0, .int .i64 0] 86)).heap[B]? = some (.cells #[.slice a st.1.length c, .int .i64 (st.2 : Int), .int .i64 0] 86) := by
    rw [← eB, (World.grownBy_alloc _ _ none).block _ (by simp) (by simp)]; exact heap_alloc_new _ _
  have hx1 : ((w.alloc (.cells #[.slice a st.1.length c, .int .i64 (st.2 : Int), .int .i64 0] 86)).alloc (.cells #[.slice none 0 0, .int .i64 0, .int .i64 0] 86)).heap[B + 1]? = some (.cells #[.slice none 0 0, .int .i64 0, .int .i64 0] 86) := by
    have := heap_alloc_new (w.alloc (.cells #[.slice a st.1.length c, .int .i64 (st.2 : Int), .int .i64 0] 86)) (.cells #[.slice none 0 0, .int .i64 0, .int .i64 0] 86)
    rw [← eB]
    simpa using this
  have hb0 : Below w.heap.size w ((w.alloc (.cells #[.slice a st.1.length c, .int .i64 (st.2 : Int), .int .i64 0] 86)).alloc (.cells #[.slice none 0 0, .int .i64 0, .int .i64 0] 86)) := hW1.alloc (by simp) _
  have hT : Two w ((w.alloc (.cells #[.slice a st.1.length c, .int .i64 (st.2 : Int), .int .i64 0] 86)).alloc (.cells #[.slice none 0 0, .int .i64 0, .int .i64 0] 86)) B a c st :=
    ⟨hx0, hx1, hq.on hb0, fun ad had h0 => by obtain ⟨g, off, rfl, hlt, -⟩ := hq h0; cases had; simp only; omega, hc, hb0, by omega⟩
  have HT := Lib.hid hT; have HP := Lib.hid (And.intro hp (And.intro hl hs)); have HE := Lib.hid eB
  clear hW1 hx0 hx1 hb0 hT hq hp hl hs hc
  go_enter Try.func48, Try.ntmps48
  go_upto_region 1 with fail
  clear eB
  generalize World.alloc (World.alloc w _) _ = V at HT ⊢
  have b0 : V.cell? ⟨B, 0, none⟩ = some (.slice a st.1.length c) := by rw [cell_of_row _ _ _ _ _ _ HT.out.h0]; rfl
  have b1 : V.cell? ⟨B, 1, none⟩ = some (.int .i64 (st.2 : Int)) := by rw [cell_of_row _ _ _ _ _ _ HT.out.h0]; rfl
  have b2 : V.cell? ⟨B, 2, none⟩ = some (.int .i64 0) := by rw [cell_of_row _ _ _ _ _ _ HT.out.h0]; rfl
  have hne : ∀ c : UInt8, k ≠ c → ((k.toNat : Int) == (c.toNat : Int)) = false := fun c h => by
    rw [beq_eq_false_iff_ne]; intro e; exact h (UInt8.toNat_inj.1 (by omega))
  by_cases h1 : k = 110
  · have HX := Lib.hid (show stepK (bl s) k st = stepN (bl s) 18446744073709551615 st by unfold stepK; rw [if_pos h1])
    have hk : ((k.toNat : Int) == 110) = true := by rw [h1]; rfl
    clear hne h1
    have HC := Lib.hid (rNumber1_any s st a c 18446744073709551615 HP.out.2.2 HP.out.1 (by have := HP.out.2.1; omega) V HT.out.psl)
    go_wp2_with fail
    refine HC.out.mono ?_
    rintro e w1 ⟨a1, c1, rfl, hc1, hp1, hf1, hb1⟩
    obtain ⟨N, eN⟩ : ∃ N, (outL (stepN (bl s) 18446744073709551615 st)).length = N := ⟨_, rfl⟩
    obtain ⟨q, eq⟩ : ∃ q, (stepN (bl s) 18446744073709551615 st).1.2 = q := ⟨_, rfl⟩
    obtain ⟨E, eE⟩ : ∃ E, outE (stepN (bl s) 18446744073709551615 st) = E := ⟨_, rfl⟩
    rw [eN, eq, eE]
    have hB1l := (Array.getElem?_eq_some_iff.1 HT.out.h1).1
    have x1 : w1.heap[B + 1]? = _ := (hb1.block (B + 1) hB1l).trans HT.out.h1
    have r0 : w1.cell? ⟨B + 1, 0, none⟩ = some (.slice none 0 0) := by rw [cell_of_row _ _ _ _ _ _ x1]; rfl
    have r1 : w1.cell? ⟨B + 1, 1, none⟩ = some (.int .i64 0) := by rw [cell_of_row _ _ _ _ _ _ x1]; rfl
    have r2 : w1.cell? ⟨B + 1, 2, none⟩ = some (.int .i64 0) := by rw [cell_of_row _ _ _ _ _ _ x1]; rfl
    have f0 := frozen_of_row w1 (B + 1) 0 _ _ x1
    have f1 := frozen_of_row w1 (B + 1) 1 _ _ x1
    have f2 := frozen_of_row w1 (B + 1) 2 _ _ x1
    have hz0 := store3 x1 (.slice a1 N c1) (.int .i64 (q : Int)) (.int .i64 (E : Int))
    have hzb := store3_below (HT.out.below.trans (hb1.mono HT.out.below.size)) (Nat.le_succ_of_le HT.out.ge) (.slice a1 N c1) (.int .i64 (q : Int)) (.int .i64 (E : Int))
    have hpz := PSl.three hp1 x1 (by decide) (fun ad had hpos => by have := hf1 ad had hpos; omega) (.slice a1 N c1) (.int .i64 (q : Int)) (.int .i64 (E : Int))
    have hge : w.heap.size ≤ V.heap.size := HT.out.below.size
    have HEN := Lib.hid (And.intro hz0 (And.intro hzb (And.intro hpz (And.intro hc1 (fun ad had hpos => Nat.le_trans hge (hf1 ad had hpos) : ∀ ad, a1 = some ad → 0 < (outL (stepN (bl s) 18446744073709551615 st)).length → w.heap.size ≤ ad.block)))))
    have HNE := Lib.hid (And.intro eN (And.intro eq eE))
    clear hz0 hzb hpz hge x1 hB1l hc1 hp1 hf1 hb1 HC HT b0 b1 b2 eN eq eE
    go_wp2_with fail
    clear r0 r1 r2 f0 f1 f2
    generalize World.setCell (World.setCell (World.setCell w1 _ _) _ _) _ _ = Z at HEN ⊢
    have t0 : Z.cell? ⟨B + 1, 0, none⟩ = some (.slice a1 N c1) := by rw [cell_of_row _ _ _ _ _ _ HEN.out.1]; rfl
    have t1 : Z.cell? ⟨B + 1, 1, none⟩ = some (.int .i64 (q : Int)) := by rw [cell_of_row _ _ _ _ _ _ HEN.out.1]; rfl
    have t2 : Z.cell? ⟨B + 1, 2, none⟩ = some (.int .i64 (E : Int)) := by rw [cell_of_row _ _ _ _ _ _ HEN.out.1]; rfl
    rw [HX.out]
    refine bodyPost_ret (v := .agg #[.slice a1 N c1, .int .i64 (q : Int), .int .i64 (E : Int)]) (by simp [results, Try.results48, go_sem, t0, t1, t2]) rfl ?_
    exact ⟨a1, c1, by rw [HNE.out.1, HNE.out.2.1, HNE.out.2.2], HEN.out.2.2.2.1, HEN.out.2.2.1, HEN.out.2.2.2.2, HEN.out.2.1⟩
  · have hk1 := hne 110 h1
    rw [show (((110 : UInt8).toNat : Nat) : Int) = 110 from rfl] at hk1
    by_cases h2 : k = 116
    · have HX := Lib.hid (show stepK (bl s) k st = stepT (bl s) st by unfold stepK; rw [if_neg h1, if_pos h2])
      have hk : ((k.toNat : Int) == 116) = true := by rw [h2]; rfl
      clear hne h1 h2
      have HC := Lib.hid (rText_any s st a c HP.out.2.2 HP.out.1 (by have := HP.out.2.1; omega) V HT.out.psl)
      go_wp2_with fail
      refine HC.out.mono ?_
      rintro e w1 ⟨a1, c1, rfl, hc1, hp1, hf1, hb1⟩
      obtain ⟨N, eN⟩ : ∃ N, (outL (stepT (bl s) st)).length = N := ⟨_, rfl⟩
      obtain ⟨q, eq⟩ : ∃ q, (stepT (bl s) st).1.2 = q := ⟨_, rfl⟩
      obtain ⟨E, eE⟩ : ∃ E, outE (stepT (bl s) st) = E := ⟨_, rfl⟩
      rw [eN, eq, eE]
      have hB1l := (Array.getElem?_eq_some_iff.1 HT.out.h1).1
      have x1 : w1.heap[B + 1]? = _ := (hb1.block (B + 1) hB1l).trans HT.out.h1
      have r0 : w1.cell? ⟨B + 1, 0, none⟩ = some (.slice none 0 0) := by rw [cell_of_row _ _ _ _ _ _ x1]; rfl
      have r1 : w1.cell? ⟨B + 1, 1, none⟩ = some (.int .i64 0) := by rw [cell_of_row _ _ _ _ _ _ x1]; rfl
      have r2 : w1.cell? ⟨B + 1, 2, none⟩ = some (.int .i64 0) := by rw [cell_of_row _ _ _ _ _ _ x1]; rfl
      have f0 := frozen_of_row w1 (B + 1) 0 _ _ x1
      have f1 := frozen_of_row w1 (B + 1) 1 _ _ x1
      have f2 := frozen_of_row w1 (B + 1) 2 _ _ x1
      have hz0 := store3 x1 (.slice a1 N c1) (.int .i64 (q : Int)) (.int .i64 (E : Int))
      have hzb := store3_below (HT.out.below.trans (hb1.mono HT.out.below.size)) (Nat.le_succ_of_le HT.out.ge) (.slice a1 N c1) (.int .i64 (q : Int)) (.int .i64 (E : Int))
      have hpz := PSl.three hp1 x1 (by decide) (fun ad had hpos => by have := hf1 ad had hpos; omega) (.slice a1 N c1) (.int .i64 (q : Int)) (.int .i64 (E : Int))
      have hge : w.heap.size ≤ V.heap.size := HT.out.below.size
      have HEN := Lib.hid (And.intro hz0 (And.intro hzb (And.intro hpz (And.intro hc1 (fun ad had hpos => Nat.le_trans hge (hf1 ad had hpos) : ∀ ad, a1 = some ad → 0 < (outL (stepT (bl s) st)).length → w.heap.size ≤ ad.block)))))
      have HNE := Lib.hid (And.intro eN (And.intro eq eE))
      clear hz0 hzb hpz hge x1 hB1l hc1 hp1 hf1 hb1 HC HT b0 b1 b2 eN eq eE
      go_wp2_with fail
      clear r0 r1 r2 f0 f1 f2
      generalize World.setCell (World.setCell (World.setCell w1 _ _) _ _) _ _ = Z at HEN ⊢
      have t0 : Z.cell? ⟨B + 1, 0, none⟩ = some (.slice a1 N c1) := by rw [cell_of_row _ _ _ _ _ _ HEN.out.1]; rfl
      have t1 : Z.cell? ⟨B + 1, 1, none⟩ = some (.int .i64 (q : Int)) := by rw [cell_of_row _ _ _ _ _ _ HEN.out.1]; rfl
      have t2 : Z.cell? ⟨B + 1, 2, none⟩ = some (.int .i64 (E : Int)) := by rw [cell_of_row _ _ _ _ _ _ HEN.out.1]; rfl
      rw [HX.out]
      refine bodyPost_ret (v := .agg #[.slice a1 N c1, .int .i64 (q : Int), .int .i64 (E : Int)]) (by simp [results, Try.results48, go_sem, t0, t1, t2]) rfl ?_
      exact ⟨a1, c1, by rw [HNE.out.1, HNE.out.2.1, HNE.out.2.2], HEN.out.2.2.2.1, HEN.out.2.2.1, HEN.out.2.2.2.2, HEN.out.2.1⟩
    · have HX := Lib.hid (show stepK (bl s) k st = stepM (bl s) st by unfold stepK; rw [if_neg h1, if_neg h2])
      have hk := hne 116 h2
      rw [show (((116 : UInt8).toNat : Nat) : Int) = 116 from rfl] at hk
      clear hne h1 h2
      have HC := Lib.hid (rSeveral_any s st a c HP.out.2.2 HP.out.1 HP.out.2.1 HT.out.cap V HT.out.psl)
      go_wp2_with fail
      refine HC.out.mono ?_
      rintro e w1 ⟨a1, c1, rfl, hc1, hp1, hf1, hb1⟩
      obtain ⟨N, eN⟩ : ∃ N, (outL (stepM (bl s) st)).length = N := ⟨_, rfl⟩
      obtain ⟨q, eq⟩ : ∃ q, (stepM (bl s) st).1.2 = q := ⟨_, rfl⟩
      obtain ⟨E, eE⟩ : ∃ E, outE (stepM (bl s) st) = E := ⟨_, rfl⟩
      rw [eN, eq, eE]
      have hB1l := (Array.getElem?_eq_some_iff.1 HT.out.h1).1
      have x1 : w1.heap[B + 1]? = _ := (hb1.block (B + 1) hB1l).trans HT.out.h1
      have r0 : w1.cell? ⟨B + 1, 0, none⟩ = some (.slice none 0 0) := by rw [cell_of_row _ _ _ _ _ _ x1]; rfl
      have r1 : w1.cell? ⟨B + 1, 1, none⟩ = some (.int .i64 0) := by rw [cell_of_row _ _ _ _ _ _ x1]; rfl
      have r2 : w1.cell? ⟨B + 1, 2, none⟩ = some (.int .i64 0) := by rw [cell_of_row _ _ _ _ _ _ x1]; rfl
      have f0 := frozen_of_row w1 (B + 1) 0 _ _ x1
      have f1 := frozen_of_row w1 (B + 1) 1 _ _ x1
      have f2 := frozen_of_row w1 (B + 1) 2 _ _ x1
      have hz0 := store3 x1 (.slice a1 N c1) (.int .i64 (q : Int)) (.int .i64 (E : Int))
      have hzb := store3_below (HT.out.below.trans (hb1.mono HT.out.below.size)) (Nat.le_succ_of_le HT.out.ge) (.slice a1 N c1) (.int .i64 (q : Int)) (.int .i64 (E : Int))
      have hpz := PSl.three hp1 x1 (by decide) (fun ad had hpos => by have := hf1 ad had hpos; omega) (.slice a1 N c1) (.int .i64 (q : Int)) (.int .i64 (E : Int))
      have hge : w.heap.size ≤ V.heap.size := HT.out.below.size
      have HEN := Lib.hid (And.intro hz0 (And.intro hzb (And.intro hpz (And.intro hc1 (fun ad had hpos => Nat.le_trans hge (hf1 ad had hpos) : ∀ ad, a1 = some ad → 0 < (outL (stepM (bl s) st)).length → w.heap.size ≤ ad.block)))))
      have HNE := Lib.hid (And.intro eN (And.intro eq eE))
      clear hz0 hzb hpz hge x1 hB1l hc1 hp1 hf1 hb1 HC HT b0 b1 b2 eN eq eE
      go_wp2_with fail
      clear r0 r1 r2 f0 f1 f2
      generalize World.setCell (World.setCell (World.setCell w1 _ _) _ _) _ _ = Z at HEN ⊢
      have t0 : Z.cell? ⟨B + 1, 0, none⟩ = some (.slice a1 N c1) := by rw [cell_of_row _ _ _ _ _ _ HEN.out.1]; rfl
      have t1 : Z.cell? ⟨B + 1, 1, none⟩ = some (.int .i64 (q : Int)) := by rw [cell_of_row _ _ _ _ _ _ HEN.out.1]; rfl
      have t2 : Z.cell? ⟨B + 1, 2, none⟩ = some (.int .i64 (E : Int)) := by rw [cell_of_row _ _ _ _ _ _ HEN.out.1]; rfl
      rw [HX.out]
      refine bodyPost_ret (v := .agg #[.slice a1 N c1, .int .i64 (q : Int), .int .i64 (E : Int)]) (by simp [results, Try.results48, go_sem, t0, t1, t2]) rfl ?_
      exact ⟨a1, c1, by rw [HNE.out.1, HNE.out.2.1, HNE.out.2.2], HEN.out.2.2.2.1, HEN.out.2.2.1, HEN.out.2.2.2.2, HEN.out.2.1⟩
end Go.Proofs.Ytimijdmigdlhfaa