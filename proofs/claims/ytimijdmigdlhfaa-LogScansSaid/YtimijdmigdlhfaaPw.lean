/- The contract of the reference's several: texts, as many as a number tells. -/
import Derived.Test.YtimijdmigdlhfaaPv
import Derived.Test.YtimijdmigdlhfaaPo
namespace Go.Proofs.Ytimijdmigdlhfaa
open Go.RowKit Go.Sort
set_option maxRecDepth 100000
theorem three_other {w : World} {B k : Nat} (hne : k ≠ B) (x y z : Value) : (((w.setCell ⟨B, 0, none⟩ x).setCell ⟨B, 1, none⟩ y).setCell ⟨B, 2, none⟩ z).heap[k]? = w.heap[k]? := by
  rw [heap_setCell_other _ _ _ _ hne, heap_setCell_other _ _ _ _ hne, heap_setCell_other _ _ _ _ hne]
/-- two blocks of the call's own: the row, and what will be handed back -/
structure Two (w0 w : World) (B : Nat) (a : Option Addr) (c : Nat) (st : St) : Prop where
  h0 : w.heap[B]? = some (.cells #[.slice a st.1.length c, .int .i64 (st.2 : Int), .int .i64 0] 86)
  h1 : w.heap[B + 1]? = some (.cells #[.slice none 0 0, .int .i64 0, .int .i64 0] 86)
  psl : PSl w a st.1
  far : ∀ ad, a = some ad → 0 < st.1.length → ad.block ≠ B ∧ ad.block ≠ B + 1
  cap : st.1.length ≤ c
  below : Below w0.heap.size w0 w
  ge : w0.heap.size ≤ B
theorem Two.next {w0 w w1 : World} {B : Nat} {a a1 : Option Addr} {c c1 : Nat} {st st' : St} (h : Two w0 w B a c st) (hb : Below w.heap.size w w1) (hp : PSl w1 a1 st'.1) (hf : ∀ ad, a1 = some ad → 0 < st'.1.length → w.heap.size ≤ ad.block) (hc : st'.1.length ≤ c1) :
    Two w0 (((w1.setCell ⟨B, 0, none⟩ (.slice a1 st'.1.length c1)).setCell ⟨B, 1, none⟩ (.int .i64 (st'.2 : Int))).setCell ⟨B, 2, none⟩ (.int .i64 0)) B a1 c1 st' := by
  have hB := (Array.getElem?_eq_some_iff.1 h.h0).1
  have hB1 := (Array.getElem?_eq_some_iff.1 h.h1).1
  have h0 : w1.heap[B]? = _ := (hb.block B hB).trans h.h0
  have h1 : w1.heap[B + 1]? = _ := (hb.block (B + 1) hB1).trans h.h1
  refine ⟨store3 h0 _ _ _, by rw [three_other (by omega)]; exact h1, PSl.three hp h0 (by decide) (fun ad had hpos => ?_) _ _ _, fun ad had hpos => ?_, hc, store3_below (h.below.trans (hb.mono h.below.size)) h.ge _ _ _, h.ge⟩
  · have := hf ad had hpos; omega
  · have := hf ad had hpos; omega
/-- a row that is no good any more: its place and the error alone count -/
structure Bad (w0 w : World) (B : Nat) (a : Option Addr) (c p : Nat) : Prop where
  h0 : w.heap[B]? = some (.cells #[.slice a 0 c, .int .i64 (p : Int), .int .i64 4] 86)
  h1 : w.heap[B + 1]? = some (.cells #[.slice none 0 0, .int .i64 0, .int .i64 0] 86)
  below : Below w0.heap.size w0 w
  ge : w0.heap.size ≤ B
theorem Two.bad {w0 w w1 : World} {B : Nat} {a : Option Addr} {c : Nat} {st : St} (h : Two w0 w B a c st) (hb : Below w.heap.size w w1) (a1 : Option Addr) (c1 p : Nat) :
    Bad w0 (((w1.setCell ⟨B, 0, none⟩ (.slice a1 0 c1)).setCell ⟨B, 1, none⟩ (.int .i64 (p : Int))).setCell ⟨B, 2, none⟩ (.int .i64 4)) B a1 c1 p := by
  have hB := (Array.getElem?_eq_some_iff.1 h.h0).1
  have hB1 := (Array.getElem?_eq_some_iff.1 h.h1).1
  have h0 : w1.heap[B]? = _ := (hb.block B hB).trans h.h0
  have h1 : w1.heap[B + 1]? = _ := (hb.block (B + 1) hB1).trans h.h1
  exact ⟨store3 h0 _ _ _, by rw [three_other (by omega)]; exact h1, store3_below (h.below.trans (hb.mono h.below.size)) h.ge _ _ _, h.ge⟩
theorem Two.cell {w0 w : World} {B : Nat} {a : Option Addr} {c : Nat} {st : St} (h : Two w0 w B a c st) : w.cell? ⟨B, 2, none⟩ = some (.int .i64 0) := by rw [cell_of_row _ _ _ _ _ _ h.h0]; rfl
def SvRel (w : World) (B n : Nat) (s : ByteArray) (st0 : St) (i : Value) (wr : World) : Prop :=
  ∃ (j : Nat) (st : St) (a : Option Addr) (c : Nat), j ≤ n ∧ i = .int .i64 (j : Int) ∧ stepTs (bl s) (n - j) st = stepTs (bl s) n st0 ∧ st.2 ≤ s.size ∧ st.1.length ≤ st0.1.length + j ∧ Two w wr B a c st ∧ (∀ ad, a = some ad → 0 < st.1.length → w.heap.size ≤ ad.block)
set_option maxHeartbeats 8000000 in
theorem rSeveral_any (s : ByteArray) (st : St) (a : Option Addr) (c : Nat) (hs : s.size ≤ maxLen) (hp : st.2 ≤ s.size) (hl : st.1.length ≤ 70000) (hc : st.1.length ≤ c) (w : World) (hq : PSl w a st.1) :
    Calls Try.prog 54 #[.string s, .agg #[.slice a st.1.length c, .int .i64 (st.2 : Int), .int .i64 0]] w (RetR w (stepM (bl s) st)) := by
  have hW1 : Below w.heap.size w (w.alloc (.cells #[.slice a st.1.length c, .int .i64 (st.2 : Int), .int .i64 0] 86)) := (Below.refl _ _).alloc (Nat.le_refl _) _
  obtain ⟨B, eB⟩ : ∃ B, w.heap.size = B := ⟨_, rfl⟩
  have hx0 : ((w.alloc (.cells #[.slice a st.1.length c, .int .i64 (st.2 : Int), .int .i64 0] 86)).alloc (.cells #[.slice none 0 0, .int .i64 0, .int .i64 0] 86)).heap[B]? = some (.cells #[.slice a st.1.length c, .int .i64 (st.2 : Int), .int .i64 0] 86) := by
    rw [← eB, (World.grownBy_alloc _ _ none).block _ (by simp) (by simp)]; exact heap_alloc_new _ _
  have hx1 : ((w.alloc (.cells #[.slice a st.1.length c, .int .i64 (st.2 : Int), .int .i64 0] 86)).alloc (.cells #[.slice none 0 0, .int .i64 0, .int .i64 0] 86)).heap[B + 1]? = some (.cells #[.slice none 0 0, .int .i64 0, .int .i64 0] 86) := by
    have := heap_alloc_new (w.alloc (.cells #[.slice a st.1.length c, .int .i64 (st.2 : Int), .int .i64 0] 86)) (.cells #[.slice none 0 0, .int .i64 0, .int .i64 0] 86)
    rw [← eB]
    simpa using this
  have hb0 : Below w.heap.size w ((w.alloc (.cells #[.slice a st.1.length c, .int .i64 (st.2 : Int), .int .i64 0] 86)).alloc (.cells #[.slice none 0 0, .int .i64 0, .int .i64 0] 86)) := hW1.alloc (by simp) _
  have hT : Two w ((w.alloc (.cells #[.slice a st.1.length c, .int .i64 (st.2 : Int), .int .i64 0] 86)).alloc (.cells #[.slice none 0 0, .int .i64 0, .int .i64 0] 86)) B a c st :=
    ⟨hx0, hx1, hq.on hb0, fun ad had h0 => by obtain ⟨g, off, rfl, hlt, -⟩ := hq h0; cases had; simp only; omega, hc, hb0, by omega⟩
  have HT := Lib.hid hT; have HP := Lib.hid (And.intro hp (And.intro hl hs)); have HE := Lib.hid eB
  clear hW1 hx0 hx1 hb0 hT hq hp hl hs hc
  go_enter Try.func54, Try.ntmps54
  go_upto_region 1 with fail
  clear eB
  generalize World.alloc (World.alloc w _) _ = V at HT ⊢
  have hcall := rNumber1_any s st a c 32 HP.out.2.2 HP.out.1 (by have := HP.out.2.1; omega) V HT.out.psl
  have HC := Lib.hid hcall
  have d0 : V.cell? ⟨B, 0, none⟩ = some (.slice a st.1.length c) := by rw [cell_of_row _ _ _ _ _ _ HT.out.h0]; rfl
  have d1 : V.cell? ⟨B, 1, none⟩ = some (.int .i64 (st.2 : Int)) := by rw [cell_of_row _ _ _ _ _ _ HT.out.h0]; rfl
  have d2 : V.cell? ⟨B, 2, none⟩ = some (.int .i64 0) := by rw [cell_of_row _ _ _ _ _ _ HT.out.h0]; rfl
  clear hcall
  go_wp2_with fail
  refine HC.out.mono ?_
  rintro e w1 ⟨a1, c1, rfl, hc1, hp1, hf1, hb1⟩
  have HB1 := Lib.hid hb1
  have x0 : w1.heap[B]? = _ := (hb1.block B (Array.getElem?_eq_some_iff.1 HT.out.h0).1).trans HT.out.h0
  clear d0 d1 d2 hb1 HC
  have e0 : w1.cell? ⟨B, 0, none⟩ = some (.slice a st.1.length c) := by rw [cell_of_row _ _ _ _ _ _ x0]; rfl
  have e1 : w1.cell? ⟨B, 1, none⟩ = some (.int .i64 (st.2 : Int)) := by rw [cell_of_row _ _ _ _ _ _ x0]; rfl
  have e2 : w1.cell? ⟨B, 2, none⟩ = some (.int .i64 0) := by rw [cell_of_row _ _ _ _ _ _ x0]; rfl
  have g0 := frozen_of_row w1 (B) 0 _ _ x0
  have g1 := frozen_of_row w1 (B) 1 _ _ x0
  have g2 := frozen_of_row w1 (B) 2 _ _ x0
  have hbadN : (stepN (bl s) 32 st).2 = false → (stepN (bl s) 32 st).1 = st := fun h => by
    unfold stepN at h ⊢
    split at h
    · rfl
    · split at h
      · simp at h
      · rename_i hh; rw [if_neg hh]
  clear x0
  cases hok : (stepN (bl s) 32 st).2
  · have hX : stepM (bl s) st = (st, false) := by
      unfold stepM
      rw [hok, if_neg (by simp)]
      exact Prod.ext (hbadN hok) hok
    have hXN : stepN (bl s) 32 st = (st, false) := Prod.ext (hbadN hok) hok
    rw [hXN] at hc1 hp1 hf1 ⊢
    have ho1 : outL (st, false) = [] := rfl
    have ho2 : outE (st, false) = 4 := rfl
    rw [ho1, ho2]
    have HBD := Lib.hid (HT.out.bad HB1.out a1 c1 st.2)
    have HX := Lib.hid hX
    clear hok hbadN hX hXN ho1 ho2 hc1 hp1 hf1 HT
    simp only [List.length_nil]
    go_upto_region 2 with fail
    clear e0 e1 e2 g0 g1 g2
    generalize World.setCell (World.setCell (World.setCell w1 _ _) _ _) _ _ = Y at HBD ⊢
    have b0 : Y.cell? ⟨B, 0, none⟩ = some (.slice a1 0 c1) := by rw [cell_of_row _ _ _ _ _ _ HBD.out.h0]; rfl
    have b1 : Y.cell? ⟨B, 1, none⟩ = some (.int .i64 (st.2 : Int)) := by rw [cell_of_row _ _ _ _ _ _ HBD.out.h0]; rfl
    have b2 : Y.cell? ⟨B, 2, none⟩ = some (.int .i64 4) := by rw [cell_of_row _ _ _ _ _ _ HBD.out.h0]; rfl
    have r0 : Y.cell? ⟨B + 1, 0, none⟩ = some (.slice none 0 0) := by rw [cell_of_row _ _ _ _ _ _ HBD.out.h1]; rfl
    have r1 : Y.cell? ⟨B + 1, 1, none⟩ = some (.int .i64 0) := by rw [cell_of_row _ _ _ _ _ _ HBD.out.h1]; rfl
    have r2 : Y.cell? ⟨B + 1, 2, none⟩ = some (.int .i64 0) := by rw [cell_of_row _ _ _ _ _ _ HBD.out.h1]; rfl
    have f0 := frozen_of_row Y (B + 1) 0 _ _ HBD.out.h1
    have f1 := frozen_of_row Y (B + 1) 1 _ _ HBD.out.h1
    have f2 := frozen_of_row Y (B + 1) 2 _ _ HBD.out.h1
    have hz0 := store3 HBD.out.h1 (.slice a1 0 c1) (.int .i64 (st.2 : Int)) (.int .i64 4)
    have hzb := store3_below HBD.out.below (Nat.le_succ_of_le HBD.out.ge) (.slice a1 0 c1) (.int .i64 (st.2 : Int)) (.int .i64 4)
    have hpz : True := trivial
    have HEN := Lib.hid (And.intro hz0 (And.intro hzb hpz))
    clear hz0 hzb hpz HBD
    go_wp2_with fail
    clear b0 b1 b2 r0 r1 r2 f0 f1 f2
    generalize World.setCell (World.setCell (World.setCell Y _ _) _ _) _ _ = Z at HEN ⊢
    have t0 : Z.cell? ⟨B + 1, 0, none⟩ = some (.slice a1 0 c1) := by rw [cell_of_row _ _ _ _ _ _ HEN.out.1]; rfl
    have t1 : Z.cell? ⟨B + 1, 1, none⟩ = some (.int .i64 (st.2 : Int)) := by rw [cell_of_row _ _ _ _ _ _ HEN.out.1]; rfl
    have t2 : Z.cell? ⟨B + 1, 2, none⟩ = some (.int .i64 4) := by rw [cell_of_row _ _ _ _ _ _ HEN.out.1]; rfl
    rw [HX.out]
    refine bodyPost_ret (v := .agg #[.slice a1 0 c1, .int .i64 (st.2 : Int), .int .i64 4]) (by simp [results, Try.results54, go_sem, t0, t1, t2]) rfl ?_
    exact ⟨a1, c1, rfl, Nat.zero_le _, PSl.nil _ _, (fun _ _ h => absurd h (Nat.lt_irrefl 0)), HEN.out.2.1⟩
  · obtain ⟨n, k, hah, hXN, hn32⟩ : ∃ n k, ahead ((bl s).drop st.2) = some (n, k) ∧ stepN (bl s) 32 st = ((st.1 ++ [(⟨false, n, ⟨#[]⟩⟩ : Pt)], st.2 + k), true) ∧ n ≤ 32 := by
      unfold stepN at hok ⊢
      split at hok
      · simp at hok
      · rename_i n k hah
        split at hok
        · rename_i h32
          exact ⟨n, k, hah, by rw [if_pos h32], h32⟩
        · simp at hok
    obtain ⟨-, -, hk1, -, hk9, -⟩ := ahead_some _ _ _ hah
    rw [List.length_drop, bl_length] at hk1
    have hX : stepM (bl s) st = stepTs (bl s) n (st.1 ++ [(⟨false, n, ⟨#[]⟩⟩ : Pt)], st.2 + k) := by
      unfold stepM
      rw [hXN, if_pos rfl]
      unfold manyAt
      rw [hah]
    obtain ⟨q, eq⟩ : ∃ q, st.2 + k = q := ⟨_, rfl⟩
    rw [eq] at hXN hX
    rw [hXN] at hc1 hp1 hf1 ⊢
    obtain ⟨L, eL⟩ : ∃ L, st.1 ++ [(⟨false, n, ⟨#[]⟩⟩ : Pt)] = L := ⟨_, rfl⟩
    rw [eL] at hX hc1 hp1 hf1 ⊢
    have ho1 : outL ((L, q), true) = L := rfl
    have ho2 : outE ((L, q), true) = 0 := rfl
    rw [ho1] at hc1 hp1 hf1
    rw [ho1, ho2]
    have hLn : L.length = st.1.length + 1 := by rw [← eL]; simp
    have hlast : L.getD st.1.length p0 = ⟨false, n, ⟨#[]⟩⟩ := by rw [← eL]; simp [List.getD]
    have hT2 : Two w _ B a1 c1 (L, q) := HT.out.next HB1.out (st' := (L, q)) hp1 hf1 hc1
    have hge : V.heap.size ≥ w.heap.size := HT.out.below.size
    have HT2 := Lib.hid hT2; have HX := Lib.hid hX
    have HF := Lib.hid (And.intro (show q ≤ s.size by have := HP.out.1; omega) (And.intro hLn (And.intro hlast (fun ad had hpos => Nat.le_trans hge (hf1 ad had hpos) : ∀ ad, a1 = some ad → 0 < L.length → w.heap.size ≤ ad.block))))
    clear hok hbadN hX hXN eq ho1 ho2 hc1 hp1 hf1 HT hah hk1 hk9 eL hT2 hge hLn hlast
    go_upto_region 2 with fail
    clear e0 e1 e2 g0 g1 g2
    generalize World.setCell (World.setCell (World.setCell w1 _ _) _ _) _ _ = Y at HT2 ⊢
    obtain ⟨hpl, hLn, hlast, hfr⟩ := HF.out
    have hL0 : 0 < L.length := by omega
    obtain ⟨g, off, rfl, hgl, hgc⟩ := HT2.out.psl hL0
    have hlt : st.1.length < L.length := by omega
    have hpt := hgc st.1.length hlt
    rw [hlast] at hpt
    obtain ⟨q0, q1, q2⟩ := hpt
    simp only at q0 q1 q2
    have hli : (L.length : Int) - 1 = (st.1.length : Int) := by omega
    have hli2 : (st.1.length : Int) < (L.length : Int) := by omega
    have hn32i : (n : Int) ≤ 32 := by omega
    have hlb : (L.length : Int) ≤ 100000 := by have := HP.out.2.1; omega
    have b0 : Y.cell? ⟨B, 0, none⟩ = some (.slice (some ⟨g, off, none⟩) L.length c1) := by rw [cell_of_row _ _ _ _ _ _ HT2.out.h0]; rfl
    have b1 : Y.cell? ⟨B, 1, none⟩ = some (.int .i64 (q : Int)) := by rw [cell_of_row _ _ _ _ _ _ HT2.out.h0]; rfl
    have b2 : Y.cell? ⟨B, 2, none⟩ = some (.int .i64 0) := by rw [cell_of_row _ _ _ _ _ _ HT2.out.h0]; rfl
    clear hpl hLn hlast hfr hL0 hgl hgc hlt q0 q2
    go_wp2_with fail
    clear b0 b1 b2 q1 hli hli2 hlb
    obtain ⟨st0, est0⟩ : ∃ st0 : St, (L, q) = st0 := ⟨_, rfl⟩
    have HX0 := Lib.hid (show stepM (bl s) st = stepTs (bl s) n st0 by rw [HX.out, est0])
    have hs0 : st0.1 = L ∧ st0.2 = q := by rw [← est0]; exact ⟨rfl, rfl⟩
    have HS0 := Lib.hid hs0
    rw [est0] at HT2
    clear hs0 est0 HX
    go_loopw [6] (SvRel w B n s st0) (fun i _ => n - (intOf i).toNat)
    case atStart => exact ⟨0, st0, _, c1, Nat.zero_le _, rfl, rfl, by rw [HS0.out.2]; exact HF.out.1, Nat.le_refl _, HT2.out, by rw [HS0.out.1]; exact HF.out.2.2.2⟩
    case round =>
      clear HT2
      obtain ⟨j, st1, a1, c1, hj, rfl, hs1, hp1, hl1, hT, hfr⟩ := hrel
      have HT := Lib.hid hT
      by_cases hjn : j < n
      · have hj1 : (j : Int) < (n : Int) := by omega
        have htx := rText_any s st1 a1 c1 HP.out.2.2 hp1 (by have := HP.out.2.1; have := HF.out.2.1; have := HS0.out.1; rw [this] at hl1; omega) wr hT.psl
        obtain ⟨hq1, hq2⟩ := stepT_le (bl s) st1 (by rw [bl_length]; exact hp1)
        rw [show n - j = (n - (j + 1)) + 1 by omega, stepTs] at hs1
        have HTX := Lib.hid htx; have HQ := Lib.hid (And.intro hq1 (And.intro hq2 (And.intro hs1 (And.intro hl1 hj))))
        have b0 : wr.cell? ⟨B, 0, none⟩ = some (.slice a1 st1.1.length c1) := by rw [cell_of_row _ _ _ _ _ _ HT.out.h0]; rfl
        have b1 : wr.cell? ⟨B, 1, none⟩ = some (.int .i64 (st1.2 : Int)) := by rw [cell_of_row _ _ _ _ _ _ HT.out.h0]; rfl
        have b2 : wr.cell? ⟨B, 2, none⟩ = some (.int .i64 0) := by rw [cell_of_row _ _ _ _ _ _ HT.out.h0]; rfl
        clear htx hq1 hq2 hs1 hp1 hl1 hT
        go_wp2_with fail
        refine HTX.out.mono ?_
        rintro e w3 ⟨a3, c3, rfl, hc3, hp3, hf3, hb3⟩
        have HB3 := Lib.hid hb3
        have x0 : w3.heap[B]? = _ := (hb3.block B (Array.getElem?_eq_some_iff.1 HT.out.h0).1).trans HT.out.h0
        clear b0 b1 b2 hb3 HTX
        have e0 : w3.cell? ⟨B, 0, none⟩ = some (.slice a1 st1.1.length c1) := by rw [cell_of_row _ _ _ _ _ _ x0]; rfl
        have e1 : w3.cell? ⟨B, 1, none⟩ = some (.int .i64 (st1.2 : Int)) := by rw [cell_of_row _ _ _ _ _ _ x0]; rfl
        have e2 : w3.cell? ⟨B, 2, none⟩ = some (.int .i64 0) := by rw [cell_of_row _ _ _ _ _ _ x0]; rfl
        have g0 := frozen_of_row w3 (B) 0 _ _ x0
        have g1 := frozen_of_row w3 (B) 1 _ _ x0
        have g2 := frozen_of_row w3 (B) 2 _ _ x0
        clear x0
        obtain ⟨hq1, hq2, hs1, hl1, -⟩ := HQ.out
        generalize hX3 : stepT (bl s) st1 = X3 at hq1 hq2 hs1 hc3 hp3 hf3 ⊢
        obtain ⟨st3, ok⟩ := X3
        cases ok
        · have hE : stepTs (bl s) n st0 = (st3, false) := hs1.symm
          have ho1 : outL (st3, false) = [] := rfl
          have ho2 : outE (st3, false) = 4 := rfl
          rw [ho1, ho2]
          have HBD := Lib.hid (HT.out.bad HB3.out a3 c3 st3.2)
          have HE3 := Lib.hid hE
          clear hE ho1 ho2 hc3 hp3 hf3 HT hq1 hq2 hs1 hl1 hX3 hfr
          simp only [List.length_nil]
          go_upto_region 9 with fail
          clear e0 e1 e2 g0 g1 g2
          generalize World.setCell (World.setCell (World.setCell w3 _ _) _ _) _ _ = Y3 at HBD ⊢
          have b0 : Y3.cell? ⟨B, 0, none⟩ = some (.slice a3 0 c3) := by rw [cell_of_row _ _ _ _ _ _ HBD.out.h0]; rfl
          have b1 : Y3.cell? ⟨B, 1, none⟩ = some (.int .i64 (st3.2 : Int)) := by rw [cell_of_row _ _ _ _ _ _ HBD.out.h0]; rfl
          have b2 : Y3.cell? ⟨B, 2, none⟩ = some (.int .i64 4) := by rw [cell_of_row _ _ _ _ _ _ HBD.out.h0]; rfl
          have r0 : Y3.cell? ⟨B + 1, 0, none⟩ = some (.slice none 0 0) := by rw [cell_of_row _ _ _ _ _ _ HBD.out.h1]; rfl
          have r1 : Y3.cell? ⟨B + 1, 1, none⟩ = some (.int .i64 0) := by rw [cell_of_row _ _ _ _ _ _ HBD.out.h1]; rfl
          have r2 : Y3.cell? ⟨B + 1, 2, none⟩ = some (.int .i64 0) := by rw [cell_of_row _ _ _ _ _ _ HBD.out.h1]; rfl
          have f0 := frozen_of_row Y3 (B + 1) 0 _ _ HBD.out.h1
          have f1 := frozen_of_row Y3 (B + 1) 1 _ _ HBD.out.h1
          have f2 := frozen_of_row Y3 (B + 1) 2 _ _ HBD.out.h1
          have hz0 := store3 HBD.out.h1 (.slice a3 0 c3) (.int .i64 (st3.2 : Int)) (.int .i64 4)
          have hzb := store3_below HBD.out.below (Nat.le_succ_of_le HBD.out.ge) (.slice a3 0 c3) (.int .i64 (st3.2 : Int)) (.int .i64 4)
          have hpz : True := trivial
          have HEN := Lib.hid (And.intro hz0 (And.intro hzb hpz))
          clear hz0 hzb hpz HBD
          go_wp2_with fail
          clear b0 b1 b2 r0 r1 r2 f0 f1 f2
          generalize World.setCell (World.setCell (World.setCell Y3 _ _) _ _) _ _ = Z at HEN ⊢
          have t0 : Z.cell? ⟨B + 1, 0, none⟩ = some (.slice a3 0 c3) := by rw [cell_of_row _ _ _ _ _ _ HEN.out.1]; rfl
          have t1 : Z.cell? ⟨B + 1, 1, none⟩ = some (.int .i64 (st3.2 : Int)) := by rw [cell_of_row _ _ _ _ _ _ HEN.out.1]; rfl
          have t2 : Z.cell? ⟨B + 1, 2, none⟩ = some (.int .i64 4) := by rw [cell_of_row _ _ _ _ _ _ HEN.out.1]; rfl
          rw [HX0.out, HE3.out]
          refine bodyPost_ret (v := .agg #[.slice a3 0 c3, .int .i64 (st3.2 : Int), .int .i64 4]) (by simp [results, Try.results54, go_sem, t0, t1, t2]) rfl ?_
          exact ⟨a3, c3, rfl, Nat.zero_le _, PSl.nil _ _, (fun _ _ h => absurd h (Nat.lt_irrefl 0)), HEN.out.2.1⟩
        · have hE : stepTs (bl s) (n - (j + 1)) st3 = stepTs (bl s) n st0 := hs1
          have ho1 : outL (st3, true) = st3.1 := rfl
          have ho2 : outE (st3, true) = 0 := rfl
          rw [ho1] at hc3 hp3 hf3
          rw [ho1, ho2]
          have hT3 := HT.out.next HB3.out (st' := st3) hp3 hf3 hc3
          have hge : w.heap.size ≤ wr.heap.size := HT.out.below.size
          have HE3 := Lib.hid (And.intro hE (And.intro hq1 (And.intro hq2 (And.intro hT3 (fun ad had hpos => Nat.le_trans hge (hf3 ad had hpos) : ∀ ad, a3 = some ad → 0 < st3.1.length → w.heap.size ≤ ad.block)))))
          have h7 := Two.cell hT3
          have HC7 := Lib.hid h7
          clear hE ho1 ho2 hc3 hp3 hf3 HT hq1 hq2 hs1 hX3 hfr hT3 hge h7
          go_upto_region 9 with fail
          clear e0 e1 e2 g0 g1 g2
          generalize World.setCell (World.setCell (World.setCell w3 _ _) _ _) _ _ = Y3 at HE3 HC7 ⊢
          have b2 := HC7.out
          go_wp2_with fail
          refine ⟨⟨j + 1, st3, a3, c3, by omega, by simp, HE3.out.1, HE3.out.2.1, ?_, HE3.out.2.2.2.1, HE3.out.2.2.2.2⟩, by simp [intOf]; omega⟩
          have := HE3.out.2.2.1
          omega
      · obtain rfl : j = n := by omega
        rw [Nat.sub_self, stepTs] at hs1
        have HE3 := Lib.hid hs1.symm
        have hn : ¬ (j : Int) < (j : Int) := by omega
        have hfar := fun ad had hpos => (hT.far ad had hpos).2
        have hcap := hT.cap
        have hpsl := hT.psl
        clear hs1 hp1 hl1 hT
        go_upto_region 11 with fail
        have b0 : wr.cell? ⟨B, 0, none⟩ = some (.slice a1 st1.1.length c1) := by rw [cell_of_row _ _ _ _ _ _ HT.out.h0]; rfl
        have b1 : wr.cell? ⟨B, 1, none⟩ = some (.int .i64 (st1.2 : Int)) := by rw [cell_of_row _ _ _ _ _ _ HT.out.h0]; rfl
        have b2 : wr.cell? ⟨B, 2, none⟩ = some (.int .i64 0) := by rw [cell_of_row _ _ _ _ _ _ HT.out.h0]; rfl
        have r0 : wr.cell? ⟨B + 1, 0, none⟩ = some (.slice none 0 0) := by rw [cell_of_row _ _ _ _ _ _ HT.out.h1]; rfl
        have r1 : wr.cell? ⟨B + 1, 1, none⟩ = some (.int .i64 0) := by rw [cell_of_row _ _ _ _ _ _ HT.out.h1]; rfl
        have r2 : wr.cell? ⟨B + 1, 2, none⟩ = some (.int .i64 0) := by rw [cell_of_row _ _ _ _ _ _ HT.out.h1]; rfl
        have f0 := frozen_of_row wr (B + 1) 0 _ _ HT.out.h1
        have f1 := frozen_of_row wr (B + 1) 1 _ _ HT.out.h1
        have f2 := frozen_of_row wr (B + 1) 2 _ _ HT.out.h1
        have hz0 := store3 HT.out.h1 (.slice a1 st1.1.length c1) (.int .i64 (st1.2 : Int)) (.int .i64 0)
        have hzb := store3_below HT.out.below (Nat.le_succ_of_le HT.out.ge) (.slice a1 st1.1.length c1) (.int .i64 (st1.2 : Int)) (.int .i64 0)
        have hpz := PSl.three hpsl HT.out.h1 (by decide) hfar (.slice a1 st1.1.length c1) (.int .i64 (st1.2 : Int)) (.int .i64 0)
        have HFC := Lib.hid (And.intro hfr hcap)
        clear hpsl hfar hfr hcap
        have HEN := Lib.hid (And.intro hz0 (And.intro hzb hpz))
        clear hz0 hzb hpz HT
        go_wp2_with fail
        clear b0 b1 b2 r0 r1 r2 f0 f1 f2
        generalize World.setCell (World.setCell (World.setCell wr _ _) _ _) _ _ = Z at HEN ⊢
        have t0 : Z.cell? ⟨B + 1, 0, none⟩ = some (.slice a1 st1.1.length c1) := by rw [cell_of_row _ _ _ _ _ _ HEN.out.1]; rfl
        have t1 : Z.cell? ⟨B + 1, 1, none⟩ = some (.int .i64 (st1.2 : Int)) := by rw [cell_of_row _ _ _ _ _ _ HEN.out.1]; rfl
        have t2 : Z.cell? ⟨B + 1, 2, none⟩ = some (.int .i64 0) := by rw [cell_of_row _ _ _ _ _ _ HEN.out.1]; rfl
        rw [HX0.out, HE3.out]
        refine bodyPost_ret (v := .agg #[.slice a1 st1.1.length c1, .int .i64 (st1.2 : Int), .int .i64 0]) (by simp [results, Try.results54, go_sem, t0, t1, t2]) rfl ?_
        exact ⟨a1, c1, rfl, HFC.out.2, HEN.out.2.2, HFC.out.1, HEN.out.2.1⟩
end Go.Proofs.Ytimijdmigdlhfaa