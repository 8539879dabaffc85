/- The contract of the reference's Block. -/
import Derived.Test.YtikgefcbmoomjaaDoorJd
import Derived.Test.YtikgefcbmoomjaaDoorZi
namespace Go.Proofs.YtikgefcbmoomjaaDoor
open Go.RowKit
set_option maxRecDepth 100000
/-- sixteen words of the call's own, and what lay below -/
structure Ox (w : World) (n g cap : Nat) (l : List (BitVec 32)) (wr : World) : Prop where
  own : OwnW wr n (.slice (some ⟨g, 0, none⟩) 16 cap) l
  len : l.length = 16
  bel : Below n w wr
  siz : n ≤ wr.heap.size
theorem mix5_lit {w wr : World} {n g cap : Nat} {l : List (BitVec 32)} (h : Ox w n g cap l wr) (a b c d : Int) (na nb nc nd : Nat) (ea : a = na) (eb : b = nb) (ec : c = nc) (ed : d = nd) (hlt : na < 16 ∧ nb < 16 ∧ nc < 16 ∧ nd < 16) :
    Calls Tryd.prog 56 #[.slice (some ⟨g, 0, none⟩) 16 cap, .int .i64 a, .int .i64 b, .int .i64 c, .int .i64 d] wr fun e w' => ∃ g' cap', e = .returned (.slice (some ⟨g', 0, none⟩) 16 cap') ∧ Ox w n g' cap' (mixC l na nb nc nd) w' := by
  subst ea eb ec ed
  obtain ⟨h1, h2, h3, h4⟩ := hlt
  refine (mix5_any g 0 cap l na nb nc nd h.len h1 h2 h3 h4 wr (h.own.ws (by rw [h.len]; omega))).mono ?_
  rintro e w' ⟨g', cap', rfl, hO, hB⟩
  exact ⟨g', cap', rfl, hO.rebase h.siz, by rw [mixC_length]; exact h.len, h.bel.trans (hB.mono h.siz), Nat.le_trans h.siz hB.size⟩
def BkR (n : Nat) (w : World) (f : List (BitVec 32)) (v i : Value) (wr : World) : Prop :=
  ∃ k g cap : Nat, k ≤ 10 ∧ i = .int .i64 (k : Int) ∧ v = .slice (some ⟨g, 0, none⟩) 16 cap ∧ Ox w n g cap (roundsC f k) wr
theorem OwnW.grownF {w w' : World} {base g n cap : Nat} {l : List (BitVec 32)} {row : Option Nat} (h : OwnW w base (.slice (some ⟨g, 0, none⟩) n cap) l) (hg : w.grownBy w' row) (hne : some g ≠ row) : OwnW w' base (.slice (some ⟨g, 0, none⟩) n cap) l := by
  refine ⟨h.1, ?_⟩
  rcases h.2 with ⟨e, -⟩ | ⟨g', cap', cur, e, hb, hc, h3⟩
  · cases e
  · have : g = g' := by simp at e; exact e.1
    subst this
    exact Or.inr ⟨g, cap', cur, e, hb, by rw [hg.block g (Array.getElem?_eq_some_iff.1 hc).1 hne]; exact hc, h3⟩
theorem OwnW.blkB {w : World} {base base' g n cap G N C : Nat} {l : List (BitVec 32)} {b : List UInt8} (h : OwnW w base (.slice (some ⟨g, 0, none⟩) n cap) l) (hB : Own w base' (.slice (some ⟨G, 0, none⟩) N C) b) : g ≠ G := by
  rintro rfl
  rcases h.2 with ⟨e, -⟩ | ⟨g', cap', cur, e, -, hc, -⟩
  · cases e
  · have : g = g' := by simp at e; exact e.1
    subst this
    rcases hB.2 with ⟨e2, -⟩ | ⟨G', cap2, cur2, e2, -, hc2, -⟩
    · cases e2
    · have : g = G' := by simp at e2; exact e2.1
      subst this
      rw [hc] at hc2
      simp at hc2
theorem World.grownBy.andAlloc {w w' : World} {o : Obj} {row : Option Nat} (h : (w.alloc o).grownBy w' row) : w.grownBy w' row :=
  ⟨h.os, h.tape, h.output, by have := h.size; simp at this; omega, fun k hk hne => by rw [h.block k (by simp; omega) hne, Below.heap_alloc _ _ _ hk]⟩
def BtR (n : Nat) (w : World) (g1 c1 g2 c2 : Nat) (f m : List (BitVec 32)) (v i : Value) (wr : World) : Prop :=
  ∃ k g cap : Nat, k ≤ 16 ∧ i = .int .i64 (k : Int) ∧ v = .slice (some ⟨g, 0, none⟩) (4 * k) cap ∧ Own wr n v (sumC f m k) ∧ OwnW wr n (.slice (some ⟨g1, 0, none⟩) 16 c1) f ∧ OwnW wr n (.slice (some ⟨g2, 0, none⟩) 16 c2) m ∧ Below n w wr

set_option maxHeartbeats 4000000 in
theorem Block5_any (k5 nc : ByteArray) (n : BitVec 32) (hk : k5.size = 32) (hn : nc.size = 12) (w : World) :
    Calls Tryd.prog 47 #[.string k5, .int .u32 (n.toNat : Int), .string nc] w fun e w' => e = .returned (.string (strL (blockC (bl k5) n (bl nc)))) ∧ Below w.heap.size w w' := by
  have HF := Lib.hid (first5_any k5 nc n hk hn)
  obtain ⟨f, ef⟩ : ∃ f, firstC (bl k5) n (bl nc) = f := ⟨_, rfl⟩
  have hfl : f.length = 16 := by rw [← ef]; exact firstC_length _ _ _
  have hbk : blockC (bl k5) n (bl nc) = sumC f (roundsC f 10) 16 := by rw [← ef]; rfl
  rw [ef] at HF
  rw [hbk]
  have HFL := Lib.hid hfl
  clear hbk ef hfl
  go_enter Tryd.func47, Tryd.ntmps47
  go_wp2_with fail
  refine (HF.out _).mono ?_
  rintro e w1 ⟨g1, c1, rfl, hO, hB⟩
  have HO := Lib.hid (Ox.mk hO HFL.out hB hB.size)
  clear hO hB
  go_wp2_with fail
  go_loopw [7, 8] (BkR w.heap.size w f) (fun _ i _ => 10 - (intOf i).toNat)
  case atStart => exact ⟨0, g1, c1, by omega, rfl, rfl, HO.out⟩
  case round =>
    clear HO
    obtain ⟨k, g, cap, hk10, rfl, rfl, hO⟩ := hrel
    by_cases hlt : k < 10
    · have h1 : (k : Int) < 10 := by omega
      obtain ⟨r0, er⟩ : ∃ r, roundsC f k = r := ⟨_, rfl⟩
      have hst : roundsC f (k + 1) = roundC r0 := by rw [← er]; rfl
      rw [er] at hO
      have HS := Lib.hid hst
      have H := Lib.hid hO
      clear hst hO er
      go_wp2_with fail
      refine (mix5_lit H.out 0 4 8 12 0 4 8 12 rfl rfl rfl rfl (by decide)).mono ?_
      clear H
      rintro e v0 ⟨g0', c0', rfl, h⟩
      have H := Lib.hid h
      clear h
      go_wp2_with fail
      refine (mix5_lit H.out 1 5 9 13 1 5 9 13 rfl rfl rfl rfl (by decide)).mono ?_
      clear H
      rintro e v1 ⟨g1', c1', rfl, h⟩
      have H := Lib.hid h
      clear h
      go_wp2_with fail
      refine (mix5_lit H.out 2 6 10 14 2 6 10 14 rfl rfl rfl rfl (by decide)).mono ?_
      clear H
      rintro e v2 ⟨g2', c2', rfl, h⟩
      have H := Lib.hid h
      clear h
      go_wp2_with fail
      refine (mix5_lit H.out 3 7 11 15 3 7 11 15 rfl rfl rfl rfl (by decide)).mono ?_
      clear H
      rintro e v3 ⟨g3', c3', rfl, h⟩
      have H := Lib.hid h
      clear h
      go_wp2_with fail
      refine (mix5_lit H.out 0 5 10 15 0 5 10 15 rfl rfl rfl rfl (by decide)).mono ?_
      clear H
      rintro e v4 ⟨g4', c4', rfl, h⟩
      have H := Lib.hid h
      clear h
      go_wp2_with fail
      refine (mix5_lit H.out 1 6 11 12 1 6 11 12 rfl rfl rfl rfl (by decide)).mono ?_
      clear H
      rintro e v5 ⟨g5', c5', rfl, h⟩
      have H := Lib.hid h
      clear h
      go_wp2_with fail
      refine (mix5_lit H.out 2 7 8 13 2 7 8 13 rfl rfl rfl rfl (by decide)).mono ?_
      clear H
      rintro e v6 ⟨g6', c6', rfl, h⟩
      have H := Lib.hid h
      clear h
      go_wp2_with fail
      refine (mix5_lit H.out 3 4 9 14 3 4 9 14 rfl rfl rfl rfl (by decide)).mono ?_
      clear H
      rintro e v7 ⟨g7', c7', rfl, h⟩
      have H := Lib.hid h
      clear h
      go_wp2_with fail
      exact ⟨⟨k + 1, g7', c7', by omega, by simp, rfl, by rw [HS.out]; exact H.out⟩, by simp [intOf]; omega⟩
    · obtain rfl : k = 10 := by omega
      obtain ⟨m, em⟩ : ∃ m, roundsC f 10 = m := ⟨_, rfl⟩
      rw [em] at hO
      have EM := Lib.hid em
      have HO := Lib.hid hO
      clear hO em
      go_wp2_with fail
      have hE := Own.empty wr w.heap.size HO.out.siz
      have hbA : Below wr.heap.size wr (wr.alloc (.cells #[] 5)) := by go_grown
      have hMm := HO.out.own.on hbA
      have hBb := HO.out.bel.trans (hbA.mono HO.out.siz)
      have hs2 : w.heap.size ≤ (wr.alloc (.cells #[] 5)).heap.size := Nat.le_trans HO.out.siz hbA.size
      clear HO hbA
      generalize World.alloc wr _ = W2 at hE hMm hBb hs2 ⊢
      obtain ⟨ge, ege⟩ : ∃ ge, wr.heap.size = ge := ⟨_, rfl⟩
      rw [ege] at hE ⊢
      clear ege
      have HE := Lib.hid hE; have HM := Lib.hid hMm; have HB := Lib.hid hBb
      clear hE hMm hBb
      refine (HF.out _).mono ?_
      rintro e w2 ⟨g2, c2, rfl, hO2, hB2⟩
      have hO3 := hO2.rebase hs2
      have hE := HE.out.onB hB2
      have hMm := HM.out.on hB2
      have hBb := HB.out.trans (hB2.mono hs2)
      clear HE HM HB hO2 hB2 HF hs2
      have HE := Lib.hid hE; have HM := Lib.hid hMm; have HB := Lib.hid hBb; have HFf := Lib.hid hO3
      clear hE hMm hBb hO3
      have hlm : m.length = 16 := by rw [← EM.out, roundsC_length]; exact HFL.out
      have HLM := Lib.hid hlm
      clear hlm
      go_wp2_with fail
      go_loopw [9, 37] (BtR w.heap.size w g2 c2 g cap f m) (fun _ i _ => 16 - (intOf i).toNat)
      case atStart => exact ⟨0, ge, 0, by omega, rfl, rfl, HE.out, HFf.out, HM.out, HB.out⟩
      case round =>
        clear HE HM HB HFf
        obtain ⟨k, G, C, hk16, rfl, rfl, hO, hFo, hMo, hB⟩ := hrel
        by_cases hlt2 : k < 16
        · have h1 : (k : Int) < 16 := by omega
          have d1 := hFo.cell HFL.out.symm k (by rw [HFL.out]; exact hlt2)
          have d2 := hMo.cell HLM.out.symm k (by rw [HLM.out]; exact hlt2)
          obtain ⟨a, ea⟩ : ∃ a, f.getD k 0 = a := ⟨_, rfl⟩
          obtain ⟨b, eb⟩ : ∃ b, m.getD k 0 = b := ⟨_, rfl⟩
          rw [ea] at d1
          rw [eb] at d2
          obtain ⟨x, ex⟩ : ∃ x, a + b = x := ⟨_, rfl⟩
          have hx := add_mod32 a b x ex
          have hst : sumC f m (k + 1) = sumC f m k ++ le4 x := by rw [show sumC f m (k + 1) = sumC f m k ++ le4 (f.getD k 0 + m.getD k 0) from rfl, ea, eb, ex]
          have hln : (sumC f m k).length = 4 * k := sumC_length _ _ _
          obtain ⟨L, eL⟩ : ∃ L, sumC f m k = L := ⟨_, rfl⟩
          rw [eL] at hO hst hln
          have HST := Lib.hid hst; have HLN := Lib.hid hln
          have hsz : w.heap.size ≤ wr.heap.size := hB.size
          have n1 := hFo.blkB hO
          have n2 := hMo.blkB hO
          have HO := Lib.hid hO; have HFo := Lib.hid hFo; have HMo := Lib.hid hMo; have HB := Lib.hid hB; have HN := Lib.hid (And.intro n1 n2)
          clear hO hFo hMo hB ea eb ex hst hln eL n1 n2
          go_upto_region 12 with fail
          simp only [hx]
          clear d1 d2 hx
          obtain ⟨y0, ey0⟩ : ∃ y, UInt8.ofNat x.toNat = y := ⟨_, rfl⟩
          obtain ⟨y1, ey1⟩ : ∃ y, UInt8.ofNat (x.toNat / 256) = y := ⟨_, rfl⟩
          obtain ⟨y2, ey2⟩ : ∃ y, UInt8.ofNat (x.toNat / 65536) = y := ⟨_, rfl⟩
          obtain ⟨y3, ey3⟩ : ∃ y, UInt8.ofNat (x.toNat / 16777216) = y := ⟨_, rfl⟩
          have HLE : Hid (le4 x = [y0, y1, y2, y3]) := by rw [← ey0, ← ey1, ← ey2, ← ey3]; rfl
          have hx3 : x.toNat / 16777216 < 256 := by have := x.isLt; omega
          have xlt := x.isLt
          have v0 : IntKind.u8.wrap ((x.toNat : Int).tmod 256) = (y0.toNat : Int) := by rw [IntKind.wrap_u8, Int.tmod_eq_emod_of_nonneg (by omega), ← ey0, UInt8.toNat_ofNat']; omega
          have v1 : IntKind.u8.wrap ((IntKind.u32.wrap ((x.toNat : Int) / 256)).tmod 256) = (y1.toNat : Int) := by rw [IntKind.wrap_u8, IntKind.wrap_u32, Int.tmod_eq_emod_of_nonneg (by omega), ← ey1, UInt8.toNat_ofNat']; omega
          have v2 : IntKind.u8.wrap ((IntKind.u32.wrap ((x.toNat : Int) / 65536)).tmod 256) = (y2.toNat : Int) := by rw [IntKind.wrap_u8, IntKind.wrap_u32, Int.tmod_eq_emod_of_nonneg (by omega), ← ey2, UInt8.toNat_ofNat']; omega
          have v3 : IntKind.u8.wrap (IntKind.u32.wrap ((x.toNat : Int) / 16777216)) = (y3.toNat : Int) := by rw [IntKind.wrap_u8, IntKind.wrap_u32, ← ey3, UInt8.toNat_ofNat']; omega
          clear xlt
          clear ey0 ey1 ey2 ey3 hx3
          refine wp_region_lit ?_
          iterate 16 (refine wpList_step (fun K hK => ?_); go_simp; refine hK _ _ ?_; clear hK K)
          refine append_bytes rfl _ _ rfl w.heap.size (.slice (some ⟨G, 0, none⟩) (4 * k) C) L [y0, y1, y2, y3] wr.heap.size rfl (Own.alloc HO.out _) 4 rfl rfl (by omega) (lit_bytes _ _ _ _ rfl) (by rw [HLN.out]; omega) (by simp; omega) ?_
          intro g' cap' w' hY hg
          have hgA := World.grownBy.andAlloc hg
          have hB' := HO.out.below HB.out hsz hg
          have hF' := HFo.out.grownF hgA (by simp [Value.ownBlock]; exact HN.out.1)
          have hM' := HMo.out.grownF hgA (by simp [Value.ownBlock]; exact HN.out.2)
          rw [← HLE.out, ← HST.out, HLN.out] at hY
          rw [HLN.out]
          have HY := Lib.hid hY; have HF' := Lib.hid hF'; have HM' := Lib.hid hM'; have HB' := Lib.hid hB'
          clear hY hF' hM' hB' hg hgA v0 v1 v2 v3 HO HFo HMo HB
          go_wp2_with fail
          exact ⟨⟨k + 1, g', cap', by omega, by simp, rfl, HY.out, HF'.out, HM'.out, HB'.out⟩, by simp [intOf]; omega⟩
        · obtain rfl : k = 16 := by omega
          have ht := hO.text (by rw [sumC_length])
          have HB := Lib.hid hB
          clear hO hFo hMo hB
          go_wp2_with fail
          go_ret
          exact ⟨by rw [EM.out]; rfl, HB.out⟩
end Go.Proofs.YtikgefcbmoomjaaDoor