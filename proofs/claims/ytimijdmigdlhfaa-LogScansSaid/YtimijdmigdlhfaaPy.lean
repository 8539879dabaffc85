/- The contract of the reference's Unpack. -/
import Derived.Test.YtimijdmigdlhfaaPx
import Derived.Test.YtimijdmigdlhfaaPp
namespace Go.Proofs.Ytimijdmigdlhfaa
open Go.RowKit Go.Sort
set_option maxRecDepth 100000
/-- two blocks of the call's own: the row in x, what will be handed back in r -/
structure Duo (w0 w : World) (x r : Nat) (a : Option Addr) (c : Nat) (st : St) : Prop where
  h0 : w.heap[x]? = some (.cells #[.slice a st.1.length c, .int .i64 (st.2 : Int), .int .i64 0] 86)
  h1 : w.heap[r]? = some (.cells #[.slice none 0 0, .int .i64 0, .int .i64 0] 86)
  psl : PSl w a st.1
  far : ∀ ad, a = some ad → 0 < st.1.length → ad.block ≠ x ∧ ad.block ≠ r
  cap : st.1.length ≤ c
  below : Below w0.heap.size w0 w
  gx : w0.heap.size ≤ x
  gr : w0.heap.size ≤ r
  ne : x ≠ r
theorem Duo.next {w0 w w1 : World} {x r : Nat} {a a1 : Option Addr} {c c1 : Nat} {st st' : St} (h : Duo w0 w x r a c st) (hb : Below w.heap.size w w1) (hp : PSl w1 a1 st'.1) (hf : ∀ ad, a1 = some ad → 0 < st'.1.length → w.heap.size ≤ ad.block) (hc : st'.1.length ≤ c1) :
    Duo w0 (((w1.setCell ⟨x, 0, none⟩ (.slice a1 st'.1.length c1)).setCell ⟨x, 1, none⟩ (.int .i64 (st'.2 : Int))).setCell ⟨x, 2, none⟩ (.int .i64 0)) x r a1 c1 st' := by
  have hB := (Array.getElem?_eq_some_iff.1 h.h0).1
  have hB1 := (Array.getElem?_eq_some_iff.1 h.h1).1
  have h0 : w1.heap[x]? = _ := (hb.block x hB).trans h.h0
  have h1 : w1.heap[r]? = _ := (hb.block r hB1).trans h.h1
  refine ⟨store3 h0 _ _ _, by rw [three_other (Ne.symm h.ne)]; exact h1, PSl.three hp h0 (by decide) (fun ad had hpos => ?_) _ _ _, fun ad had hpos => ?_, hc, store3_below (h.below.trans (hb.mono h.below.size)) h.gx _ _ _, h.gx, h.gr, h.ne⟩
  · have := hf ad had hpos; omega
  · have := hf ad had hpos; omega
/-- the row is no good any more: its place and the error alone count -/
structure Woe (w0 w : World) (x r : Nat) (a : Option Addr) (c p : Nat) : Prop where
  h0 : w.heap[x]? = some (.cells #[.slice a 0 c, .int .i64 (p : Int), .int .i64 4] 86)
  h1 : w.heap[r]? = some (.cells #[.slice none 0 0, .int .i64 0, .int .i64 0] 86)
  below : Below w0.heap.size w0 w
  gr : w0.heap.size ≤ r
theorem Duo.bad {w0 w w1 : World} {x r : Nat} {a : Option Addr} {c : Nat} {st : St} (h : Duo w0 w x r a c st) (hb : Below w.heap.size w w1) (a1 : Option Addr) (c1 p : Nat) :
    Woe w0 (((w1.setCell ⟨x, 0, none⟩ (.slice a1 0 c1)).setCell ⟨x, 1, none⟩ (.int .i64 (p : Int))).setCell ⟨x, 2, none⟩ (.int .i64 4)) x r a1 c1 p := by
  have hB := (Array.getElem?_eq_some_iff.1 h.h0).1
  have hB1 := (Array.getElem?_eq_some_iff.1 h.h1).1
  have h0 : w1.heap[x]? = _ := (hb.block x hB).trans h.h0
  have h1 : w1.heap[r]? = _ := (hb.block r hB1).trans h.h1
  exact ⟨store3 h0 _ _ _, by rw [three_other (Ne.symm h.ne)]; exact h1, store3_below (h.below.trans (hb.mono h.below.size)) h.gx _ _ _, h.gr⟩
structure Zer (w0 w : World) (r : Nat) : Prop where
  h1 : w.heap[r]? = some (.cells #[.slice none 0 0, .int .i64 0, .int .i64 0] 86)
  below : Below w0.heap.size w0 w
  gr : w0.heap.size ≤ r
def R1Rel (W : World) (ks : List UInt8) (i : Value) (wr : World) : Prop := ∃ k : Nat, k ≤ ks.length ∧ i = .int .i64 (k : Int) ∧ (ks.take k).all isKind = true ∧ wr = W
def R2Rel (w : World) (X B : Nat) (s : ByteArray) (ks : List UInt8) (i : Value) (wr : World) : Prop :=
  ∃ (k : Nat) (st : St) (a : Option Addr) (c : Nat), k ≤ ks.length ∧ i = .int .i64 (k : Int) ∧ stepKs (bl s) (ks.drop k) st = stepKs (bl s) ks ([], 0) ∧ st.2 ≤ s.size ∧ st.1.length ≤ 33 * k ∧ Duo w wr X B a c st
theorem kind_no (x : UInt8) (h : isKind x = false) : x ≠ 110 ∧ x ≠ 116 ∧ x ≠ 42 := by
  unfold isKind at h
  simp at h
  exact ⟨h.1.1, h.1.2, h.2⟩
theorem u8_lit (x c : UInt8) : ((x.toNat : Int) != (c.toNat : Int)) = !decide (x = c) := by
  by_cases h : x = c
  · subst h; simp
  · rw [decide_eq_false h, Bool.not_false, bne, Bool.not_eq_true', beq_eq_false_iff_ne]
    intro e; exact h (UInt8.toNat_inj.1 (by omega))
def RetU (w : World) (U : List Pt × Nat × Nat) (e : Ending) (w' : World) : Prop :=
  ∃ (a : Option Addr) (c : Nat), e = .returned (.agg #[.slice a U.1.length c, .int .i64 (U.2.1 : Int), .int .i64 (U.2.2 : Int)]) ∧ PSl w' a U.1 ∧ Below w.heap.size w w' ∧ U.1.length ≤ c
set_option maxHeartbeats 8000000 in
theorem rUnpack_any (s ks : ByteArray) (hs : s.size ≤ maxLen) (hk : ks.size ≤ 1000) (w : World) :
    Calls Try.prog 42 #[.string s, .string ks] w (RetU w (unpackL (bl s) (bl ks))) := by
  obtain ⟨U, eU⟩ : ∃ U, unpackL (bl s) (bl ks) = U := ⟨_, rfl⟩
  have HU := Lib.hid eU; have HS := Lib.hid (And.intro hs hk)
  rw [eU]
  have hW1 : Below w.heap.size w (w.alloc (.cells #[.slice none 0 0, .int .i64 0, .int .i64 0] 86)) := (Below.refl _ _).alloc (Nat.le_refl _) _
  have hz : (w.alloc (.cells #[.slice none 0 0, .int .i64 0, .int .i64 0] 86)).heap[w.heap.size]? = some (.cells #[.slice none 0 0, .int .i64 0, .int .i64 0] 86) := heap_alloc_new _ _
  have HZ := Lib.hid (Zer.mk (w0 := w) hz hW1 (Nat.le_refl _))
  clear eU hs hk hW1 hz
  go_enter Try.func42, Try.ntmps42
  go_upto_region 1 with fail
  obtain ⟨B, eB⟩ : ∃ B, w.heap.size = B := ⟨_, rfl⟩
  have HBE := Lib.hid eB
  rw [eB] at HZ ⊢
  clear eB
  generalize World.alloc w _ = V at HZ ⊢
  go_wp2_with fail
  go_loopw [5] (R1Rel V (bl ks)) (fun i _ => ks.size - (intOf i).toNat)
  case atStart => exact ⟨0, Nat.zero_le _, rfl, rfl, rfl⟩
  case round =>
    obtain ⟨k, hk, rfl, hall, rfl⟩ := hrel
    rw [bl_length] at hk
    by_cases hlt : k < ks.size
    · have h1 : (k : Int) < (ks.size : Int) := by omega
      have h1k : (k : Int) < 1000 := by have := HS.out.2; omega
      have hix := str_index ks (k : Int) k rfl hlt
      obtain ⟨x, ex⟩ : ∃ x, (bl ks).getD k 0 = x := ⟨_, rfl⟩
      have hbx : ks[k] = x := by rw [← bl_get ks k hlt, ex]
      simp only [hbx] at hix
      have n1 := u8_lit x 110
      have n2 := u8_lit x 116
      have n3 := u8_lit x 42
      rw [show (((110 : UInt8).toNat : Nat) : Int) = 110 from rfl] at n1
      rw [show (((116 : UInt8).toNat : Nat) : Int) = 116 from rfl] at n2
      rw [show (((42 : UInt8).toNat : Nat) : Int) = 42 from rfl] at n3
      cases hx : isKind x
      · have hbad := unpackL_bad (bl s) (bl ks) (not_all (bl ks) k hlt (by rw [ex]; exact hx))
        have HU2 := Lib.hid (show U = ([], 0, 1) by rw [← HU.out, hbad])
        obtain ⟨m1, m2, m3⟩ := kind_no x hx
        rw [decide_eq_false m1, Bool.not_false] at n1
        rw [decide_eq_false m2, Bool.not_false] at n2
        rw [decide_eq_false m3, Bool.not_false] at n3
        clear hbad hx hall ex hbx m1 m2 m3
        have r0 : wr.cell? ⟨B, 0, none⟩ = some (.slice none 0 0) := by rw [cell_of_row _ _ _ _ _ _ HZ.out.h1]; rfl
        have r1 : wr.cell? ⟨B, 1, none⟩ = some (.int .i64 0) := by rw [cell_of_row _ _ _ _ _ _ HZ.out.h1]; rfl
        have r2 : wr.cell? ⟨B, 2, none⟩ = some (.int .i64 0) := by rw [cell_of_row _ _ _ _ _ _ HZ.out.h1]; rfl
        have f0 := frozen_of_row wr B 0 _ _ HZ.out.h1
        have f1 := frozen_of_row wr B 1 _ _ HZ.out.h1
        have f2 := frozen_of_row wr B 2 _ _ HZ.out.h1
        have hz0 := store3 HZ.out.h1 (.slice none 0 0) (.int .i64 0) (.int .i64 1)
        have hzb := store3_below HZ.out.below HZ.out.gr (.slice none 0 0) (.int .i64 0) (.int .i64 1)
        have hpz : True := trivial
        have HEN := Lib.hid (And.intro hz0 (And.intro hzb hpz))
        clear hz0 hzb hpz HZ
        go_wp2_with fail
        clear r0 r1 r2 f0 f1 f2
        generalize World.setCell (World.setCell (World.setCell wr _ _) _ _) _ _ = Z at HEN ⊢
        have t0 : Z.cell? ⟨B, 0, none⟩ = some (.slice none 0 0) := by rw [cell_of_row _ _ _ _ _ _ HEN.out.1]; rfl
        have t1 : Z.cell? ⟨B, 1, none⟩ = some (.int .i64 0) := by rw [cell_of_row _ _ _ _ _ _ HEN.out.1]; rfl
        have t2 : Z.cell? ⟨B, 2, none⟩ = some (.int .i64 1) := by rw [cell_of_row _ _ _ _ _ _ HEN.out.1]; rfl
        rw [HU2.out]
        refine bodyPost_ret (v := .agg #[.slice none 0 0, .int .i64 0, .int .i64 1]) (by simp [results, Try.results42, go_sem, t0, t1, t2]) rfl ?_
        exact ⟨none, 0, rfl, PSl.nil _ _, HEN.out.2.1, Nat.zero_le _⟩
      · have hall2 := Lib.hid (all_take (bl ks) k hlt hall (by rw [ex]; exact hx))
        have hgo : (x = 110 ∨ x = 116 ∨ x = 42) := isKind_cases x hx
        clear hx hall ex hbx
        rcases hgo with rfl | rfl | rfl
        all_goals
          simp only [decide_true, Bool.not_true, show decide ((110 : UInt8) = 116) = false from rfl, show decide ((110 : UInt8) = 42) = false from rfl, show decide ((116 : UInt8) = 110) = false from rfl, show decide ((116 : UInt8) = 42) = false from rfl, show decide ((42 : UInt8) = 110) = false from rfl, show decide ((42 : UInt8) = 116) = false from rfl, Bool.not_false] at n1 n2 n3
          go_wp2_with fail
          exact ⟨⟨k + 1, by rw [bl_length]; omega, by simp, hall2.out, rfl⟩, by simp [intOf]; omega⟩
    · obtain rfl : k = ks.size := by omega
      have hn : ¬ (ks.size : Int) < (ks.size : Int) := by omega
      rw [List.take_of_length_le (Nat.le_of_eq (bl_length ks))] at hall
      have HALL := Lib.hid hall
      clear hall
      have hal : Below wr.heap.size wr (wr.alloc (.cells #[.slice none 0 0, .int .i64 0, .int .i64 0] 86)) := (Below.refl _ _).alloc (Nat.le_refl _) _
      have hBl := (Array.getElem?_eq_some_iff.1 HZ.out.h1).1
      have hT : Duo w (wr.alloc (.cells #[.slice none 0 0, .int .i64 0, .int .i64 0] 86)) wr.heap.size B none 0 ([], 0) :=
        ⟨heap_alloc_new _ _, by rw [hal.block B hBl]; exact HZ.out.h1, PSl.nil _ _, fun _ h => (by cases h), Nat.le_refl _, HZ.out.below.trans (hal.mono HZ.out.below.size), HZ.out.below.size, HZ.out.gr, by omega⟩
      have HT := Lib.hid hT
      clear hal hBl hT HZ
      go_upto_region 7 with fail
      obtain ⟨X, eX⟩ : ∃ X, wr.heap.size = X := ⟨_, rfl⟩
      rw [eX] at HT ⊢
      clear eX
      generalize World.alloc wr _ = Y at HT ⊢
      go_wp2_with fail
      go_loopw [7] (R2Rel w X B s (bl ks)) (fun i _ => ks.size - (intOf i).toNat)
      case atStart => exact ⟨0, ([], 0), none, 0, Nat.zero_le _, rfl, rfl, Nat.zero_le _, Nat.zero_le _, HT.out⟩
      case round =>
        clear HT
        obtain ⟨k, st, a, c, hk, rfl, hst, hp, hl, hT⟩ := hrel
        rw [bl_length] at hk
        have HT := Lib.hid hT
        by_cases hlt : k < ks.size
        · have h1 : (k : Int) < (ks.size : Int) := by omega
          have h1k : (k : Int) < 1000 := by have := HS.out.2; omega
          have hix := str_index ks (k : Int) k rfl hlt
          have hdr := drop_at (bl ks) k hlt
          obtain ⟨x, ex⟩ : ∃ x, (bl ks).getD k 0 = x := ⟨_, rfl⟩
          have hbx : ks[k] = x := by rw [← bl_get ks k hlt, ex]
          simp only [hbx] at hix
          rw [ex] at hdr
          rw [hdr, stepKs] at hst
          have hcall := rOneK_any s st x a c HS.out.1 hp (by have := HS.out.2; omega) hT.cap wr.drew (hT.psl.on ((Below.refl _ wr).drew))
          obtain ⟨hq1, hq2⟩ := stepK_le (bl s) x st (by rw [bl_length]; exact hp)
          have HC := Lib.hid hcall
          have HQ := Lib.hid (And.intro hst (And.intro hq1 (show (stepK (bl s) x st).1.1.length ≤ 33 * (k + 1) by omega)))
          have b0 : wr.cell? ⟨X, 0, none⟩ = some (.slice a st.1.length c) := by rw [cell_of_row _ _ _ _ _ _ HT.out.h0]; rfl
          have b1 : wr.cell? ⟨X, 1, none⟩ = some (.int .i64 (st.2 : Int)) := by rw [cell_of_row _ _ _ _ _ _ HT.out.h0]; rfl
          have b2 : wr.cell? ⟨X, 2, none⟩ = some (.int .i64 0) := by rw [cell_of_row _ _ _ _ _ _ HT.out.h0]; rfl
          clear hst hq1 hq2 hcall hdr ex hbx hT hp hl hk
          obtain ⟨NL, eNL⟩ : ∃ NL, (outL (stepK (bl s) x st)).length = NL := ⟨_, rfl⟩
          obtain ⟨q, eq⟩ : ∃ q, (stepK (bl s) x st).1.2 = q := ⟨_, rfl⟩
          obtain ⟨E, eE⟩ : ∃ E, outE (stepK (bl s) x st) = E := ⟨_, rfl⟩
          have HNE := Lib.hid (And.intro eNL (And.intro eq eE))
          clear eNL eq eE
          go_upto_region 10 with fail
          go_region_with (first
            | (go_at_call 48; refine HC.out.mono ?_; rintro e w3 ⟨a3, c3, rfl, hc3, hp3, hf3, hb3⟩; rw [HNE.out.1, HNE.out.2.1, HNE.out.2.2]; have hb3' : Below wr.heap.size wr w3 := ((Below.refl _ wr).drew).trans hb3; have x0 : w3.heap[X]? = _ := (hb3'.block X (Array.getElem?_eq_some_iff.1 HT.out.h0).1).trans HT.out.h0; have e0 : w3.cell? ⟨X, 0, none⟩ = some (.slice a st.1.length c) := (by rw [cell_of_row _ _ _ _ _ _ x0]; rfl); have e1 : w3.cell? ⟨X, 1, none⟩ = some (.int .i64 (st.2 : Int)) := (by rw [cell_of_row _ _ _ _ _ _ x0]; rfl); have e2 : w3.cell? ⟨X, 2, none⟩ = some (.int .i64 0) := (by rw [cell_of_row _ _ _ _ _ _ x0]; rfl); have g0 := frozen_of_row w3 X 0 _ _ x0; have g1 := frozen_of_row w3 X 1 _ _ x0; have g2 := frozen_of_row w3 X 2 _ _ x0; have HRET := Lib.hid (And.intro hc3 (And.intro hp3 (And.intro (show ∀ ad, a3 = some ad → 0 < (outL (stepK (bl s) x st)).length → wr.heap.size ≤ ad.block from hf3) hb3'))); clear hc3 hp3 hf3 hb3 hb3' x0))
          all_goals
            clear b0 b1 b2 HC hix
            obtain ⟨hc3, hp3, hf3, hb3⟩ := HRET.out
            obtain ⟨hst, hq1, hq2⟩ := HQ.out
            obtain ⟨n1, n2, n3⟩ := HNE.out
            clear HRET HQ HNE
            generalize stepK (bl s) x st = X3 at hc3 hp3 hf3 hst hq1 hq2 n1 n2 n3
            obtain ⟨st3, ok⟩ := X3
            cases ok
            · obtain rfl : 0 = NL := n1
              obtain rfl : 4 = E := n3
              have n2' : st3.2 = q := n2
              have hU : U = ([], q, 4) := by
                rw [← HU.out, ← n2']
                unfold unpackL
                rw [HALL.out, if_pos rfl, ← hst]
                rfl
              have HU2 := Lib.hid hU
              have HWO := Lib.hid (HT.out.bad hb3 a3 c3 q)
              clear hc3 hp3 hf3 hb3 hst hq1 hq2 n2 n2' hU HT
              clear e0 e1 e2 g0 g1 g2
              generalize World.setCell (World.setCell (World.setCell w3 _ _) _ _) _ _ = Y3 at HWO ⊢
              have b0 : Y3.cell? ⟨X, 0, none⟩ = some (.slice a3 0 c3) := by rw [cell_of_row _ _ _ _ _ _ HWO.out.h0]; rfl
              have b1 : Y3.cell? ⟨X, 1, none⟩ = some (.int .i64 (q : Int)) := by rw [cell_of_row _ _ _ _ _ _ HWO.out.h0]; rfl
              have b2 : Y3.cell? ⟨X, 2, none⟩ = some (.int .i64 4) := by rw [cell_of_row _ _ _ _ _ _ HWO.out.h0]; rfl
              have r0 : Y3.cell? ⟨B, 0, none⟩ = some (.slice none 0 0) := by rw [cell_of_row _ _ _ _ _ _ HWO.out.h1]; rfl
              have r1 : Y3.cell? ⟨B, 1, none⟩ = some (.int .i64 0) := by rw [cell_of_row _ _ _ _ _ _ HWO.out.h1]; rfl
              have r2 : Y3.cell? ⟨B, 2, none⟩ = some (.int .i64 0) := by rw [cell_of_row _ _ _ _ _ _ HWO.out.h1]; rfl
              have f0 := frozen_of_row Y3 B 0 _ _ HWO.out.h1
              have f1 := frozen_of_row Y3 B 1 _ _ HWO.out.h1
              have f2 := frozen_of_row Y3 B 2 _ _ HWO.out.h1
              have hz0 := store3 HWO.out.h1 (.slice a3 0 c3) (.int .i64 (q : Int)) (.int .i64 4)
              have hzb := store3_below HWO.out.below HWO.out.gr (.slice a3 0 c3) (.int .i64 (q : Int)) (.int .i64 4)
              have hpz : True := trivial
              have HEN := Lib.hid (And.intro hz0 (And.intro hzb hpz))
              clear hz0 hzb hpz HWO
              go_wp2_with fail
              clear r0 r1 r2 f0 f1 f2 b0 b1 b2
              generalize World.setCell (World.setCell (World.setCell Y3 _ _) _ _) _ _ = Z at HEN ⊢
              have t0 : Z.cell? ⟨B, 0, none⟩ = some (.slice a3 0 c3) := by rw [cell_of_row _ _ _ _ _ _ HEN.out.1]; rfl
              have t1 : Z.cell? ⟨B, 1, none⟩ = some (.int .i64 (q : Int)) := by rw [cell_of_row _ _ _ _ _ _ HEN.out.1]; rfl
              have t2 : Z.cell? ⟨B, 2, none⟩ = some (.int .i64 4) := by rw [cell_of_row _ _ _ _ _ _ HEN.out.1]; rfl
              rw [HU2.out]
              refine bodyPost_ret (v := .agg #[.slice a3 0 c3, .int .i64 (q : Int), .int .i64 4]) (by simp [results, Try.results42, go_sem, t0, t1, t2]) rfl ?_
              exact ⟨a3, c3, rfl, PSl.nil _ _, HEN.out.2.1, Nat.zero_le _⟩
            · have hn1 : st3.1.length = NL := n1
              obtain rfl : 0 = E := n3
              have hn2 : st3.2 = q := n2
              have hD := HT.out.next hb3 (st' := st3) hp3 hf3 hc3
              rw [hn1, hn2] at hD
              have hE2 : stepKs (bl s) ((bl ks).drop (k + 1)) st3 = stepKs (bl s) (bl ks) ([], 0) := hst
              have HD := Lib.hid hD; have HE2 := Lib.hid (And.intro hE2 (And.intro hq1 hq2))
              have hcell := hD.h0
              rw [hn1, hn2] at hcell
              clear hc3 hp3 hf3 hb3 hst hq1 hq2 n1 n2 hn1 hn2 hD hE2 HT
              clear e0 e1 e2 g0 g1 g2
              have HCL := Lib.hid hcell
              clear hcell
              generalize World.setCell (World.setCell (World.setCell w3 _ _) _ _) _ _ = Y3 at HD HCL ⊢
              have b2 : Y3.cell? ⟨X, 2, none⟩ = some (.int .i64 0) := by rw [cell_of_row _ _ _ _ _ _ HCL.out]; rfl
              go_wp2_with fail
              exact ⟨⟨k + 1, st3, a3, c3, by rw [bl_length]; omega, by simp, HE2.out.1, HE2.out.2.1, HE2.out.2.2, HD.out⟩, by simp [intOf]; omega⟩
        · obtain rfl : k = ks.size := by omega
          have hn : ¬ (ks.size : Int) < (ks.size : Int) := by omega
          rw [List.drop_of_length_le (Nat.le_of_eq (bl_length ks)), stepKs] at hst
          have hUe : U = if st.2 < s.size then ([], st.2, 4) else (st.1, 0, 0) := by
            rw [← HU.out]
            unfold unpackL
            rw [HALL.out, if_pos rfl, ← hst]
            rfl
          have hpsl := hT.psl
          have hfar := fun ad had hpos => (hT.far ad had hpos).2
          have b0 : wr.cell? ⟨X, 0, none⟩ = some (.slice a st.1.length c) := by rw [cell_of_row _ _ _ _ _ _ HT.out.h0]; rfl
          have b1 : wr.cell? ⟨X, 1, none⟩ = some (.int .i64 (st.2 : Int)) := by rw [cell_of_row _ _ _ _ _ _ HT.out.h0]; rfl
          have b2 : wr.cell? ⟨X, 2, none⟩ = some (.int .i64 0) := by rw [cell_of_row _ _ _ _ _ _ HT.out.h0]; rfl
          clear hT hst hp hl hk
          by_cases hfin : st.2 < s.size
          · have l1 : (st.2 : Int) < (s.size : Int) := by omega
            rw [if_pos hfin] at hUe
            have HU2 := Lib.hid hUe
            clear hUe hfin hpsl hfar
            have r0 : wr.cell? ⟨B, 0, none⟩ = some (.slice none 0 0) := by rw [cell_of_row _ _ _ _ _ _ HT.out.h1]; rfl
            have r1 : wr.cell? ⟨B, 1, none⟩ = some (.int .i64 0) := by rw [cell_of_row _ _ _ _ _ _ HT.out.h1]; rfl
            have r2 : wr.cell? ⟨B, 2, none⟩ = some (.int .i64 0) := by rw [cell_of_row _ _ _ _ _ _ HT.out.h1]; rfl
            have f0 := frozen_of_row wr B 0 _ _ HT.out.h1
            have f1 := frozen_of_row wr B 1 _ _ HT.out.h1
            have f2 := frozen_of_row wr B 2 _ _ HT.out.h1
            have hz0 := store3 HT.out.h1 (.slice none 0 0) (.int .i64 (st.2 : Int)) (.int .i64 4)
            have hzb := store3_below HT.out.below HT.out.gr (.slice none 0 0) (.int .i64 (st.2 : Int)) (.int .i64 4)
            have hpz : True := trivial
            have HEN := Lib.hid (And.intro hz0 (And.intro hzb hpz))
            clear hz0 hzb hpz HT
            go_wp2_with fail
            clear r0 r1 r2 f0 f1 f2 b0 b1 b2
            generalize World.setCell (World.setCell (World.setCell wr _ _) _ _) _ _ = Z at HEN ⊢
            have t0 : Z.cell? ⟨B, 0, none⟩ = some (.slice none 0 0) := by rw [cell_of_row _ _ _ _ _ _ HEN.out.1]; rfl
            have t1 : Z.cell? ⟨B, 1, none⟩ = some (.int .i64 (st.2 : Int)) := by rw [cell_of_row _ _ _ _ _ _ HEN.out.1]; rfl
            have t2 : Z.cell? ⟨B, 2, none⟩ = some (.int .i64 4) := by rw [cell_of_row _ _ _ _ _ _ HEN.out.1]; rfl
            rw [HU2.out]
            refine bodyPost_ret (v := .agg #[.slice none 0 0, .int .i64 (st.2 : Int), .int .i64 4]) (by simp [results, Try.results42, go_sem, t0, t1, t2]) rfl ?_
            exact ⟨none, 0, rfl, PSl.nil _ _, HEN.out.2.1, Nat.zero_le _⟩
          · have l1 : ¬ (st.2 : Int) < (s.size : Int) := by omega
            rw [if_neg hfin] at hUe
            have HU2 := Lib.hid hUe
            clear hUe hfin
            have r0 : wr.cell? ⟨B, 0, none⟩ = some (.slice none 0 0) := by rw [cell_of_row _ _ _ _ _ _ HT.out.h1]; rfl
            have r1 : wr.cell? ⟨B, 1, none⟩ = some (.int .i64 0) := by rw [cell_of_row _ _ _ _ _ _ HT.out.h1]; rfl
            have r2 : wr.cell? ⟨B, 2, none⟩ = some (.int .i64 0) := by rw [cell_of_row _ _ _ _ _ _ HT.out.h1]; rfl
            have f0 := frozen_of_row wr B 0 _ _ HT.out.h1
            have f1 := frozen_of_row wr B 1 _ _ HT.out.h1
            have f2 := frozen_of_row wr B 2 _ _ HT.out.h1
            have hz0 := store3 HT.out.h1 (.slice a st.1.length c) (.int .i64 0) (.int .i64 0)
            have hzb := store3_below HT.out.below HT.out.gr (.slice a st.1.length c) (.int .i64 0) (.int .i64 0)
            have hpz := And.intro (PSl.three hpsl HT.out.h1 (by decide) hfar (.slice a st.1.length c) (.int .i64 0) (.int .i64 0)) HT.out.cap
            clear hpsl hfar
            have HEN := Lib.hid (And.intro hz0 (And.intro hzb hpz))
            clear hz0 hzb hpz HT
            go_wp2_with fail
            clear r0 r1 r2 f0 f1 f2 b0 b1 b2
            generalize World.setCell (World.setCell (World.setCell wr _ _) _ _) _ _ = Z at HEN ⊢
            have t0 : Z.cell? ⟨B, 0, none⟩ = some (.slice a st.1.length c) := by rw [cell_of_row _ _ _ _ _ _ HEN.out.1]; rfl
            have t1 : Z.cell? ⟨B, 1, none⟩ = some (.int .i64 0) := by rw [cell_of_row _ _ _ _ _ _ HEN.out.1]; rfl
            have t2 : Z.cell? ⟨B, 2, none⟩ = some (.int .i64 0) := by rw [cell_of_row _ _ _ _ _ _ HEN.out.1]; rfl
            rw [HU2.out]
            refine bodyPost_ret (v := .agg #[.slice a st.1.length c, .int .i64 0, .int .i64 0]) (by simp [results, Try.results42, go_sem, t0, t1, t2]) rfl ?_
            exact ⟨a, c, rfl, HEN.out.2.2.1, HEN.out.2.1, HEN.out.2.2.2⟩
end Go.Proofs.Ytimijdmigdlhfaa