/- The contract of stream's mixAll: ten rounds of a block's words. -/
import Derived.Test.YtikgefcbmoomjaaDoorHc
namespace Go.Proofs.YtikgefcbmoomjaaDoor
open Go.RowKit
set_option maxRecDepth 100000
/-- a block of sixteen words, and what lay below it -/
structure Mx (w : World) (B : Nat) (l : List (BitVec 32)) (wr : World) : Prop where
  blk : BlkW wr B 86 l
  len : l.length = 16
  bel : Below B w wr
theorem mix_lit {w wr : World} {B : Nat} {l : List (BitVec 32)} (h : Mx w B l wr) (a b c d : Int) (na nb nc nd : Nat) (ea : a = na) (eb : b = nb) (ec : c = nc) (ed : d = nd)
    (hlt : na < 16 ∧ nb < 16 ∧ nc < 16 ∧ nd < 16) (hne : na ≠ nb ∧ na ≠ nc ∧ na ≠ nd ∧ nb ≠ nc ∧ nb ≠ nd ∧ nc ≠ nd) :
    Calls Tryd.prog 74 #[.pointer (some ⟨B, 0, none⟩), .int .i64 a, .int .i64 b, .int .i64 c, .int .i64 d] wr fun e w' => e = .returned (.tuple #[]) ∧ Mx w B (mixC l na nb nc nd) w' := by
  subst ea eb ec ed
  obtain ⟨h1, h2, h3, h4⟩ := hlt
  obtain ⟨n1, n2, n3, n4, n5, n6⟩ := hne
  refine (sMix_any B l na nb nc nd h.len h1 h2 h3 h4 n1 n2 n3 n4 n5 n6 wr h.blk).mono ?_
  rintro e w' ⟨rfl, hb, hl⟩
  exact ⟨rfl, hb, by rw [mixC_length]; exact h.len, h.bel.trans hl⟩
def MaR (w : World) (B : Nat) (l : List (BitVec 32)) (i : Value) (wr : World) : Prop := ∃ k : Nat, k ≤ 10 ∧ i = .int .i64 (k : Int) ∧ Mx w B (roundsC l k) wr

set_option maxHeartbeats 2000000 in
theorem mixAll_any (B : Nat) (l : List (BitVec 32)) (hl : l.length = 16) (w : World) (hB : BlkW w B 86 l) :
    Calls Tryd.prog 63 #[.pointer (some ⟨B, 0, none⟩)] w fun e w' => e = .returned (.tuple #[]) ∧ BlkW w' B 86 (roundsC l 10) ∧ Below B w w' := by
  have H := Lib.hid (Mx.mk (w := w) hB hl (Below.refl _ _))
  clear hB hl
  go_enter Tryd.func63, Tryd.ntmps63
  go_wp2_with fail
  go_loopw [2] (MaR w B l) (fun i _ => 10 - (intOf i).toNat)
  case atStart => exact ⟨0, by omega, rfl, H.out⟩
  case round =>
    clear H
    obtain ⟨k, hk, rfl, h⟩ := hrel
    by_cases hlt : k < 10
    · have h1 : (k : Int) < 10 := by omega
      obtain ⟨r0, er⟩ : ∃ r, roundsC l k = r := ⟨_, rfl⟩
      have hst : roundsC l (k + 1) = roundC r0 := by rw [← er]; rfl
      rw [er] at h
      have HS := Lib.hid hst
      have H := Lib.hid h
      clear hst h er
      go_wp2_with fail
      refine (mix_lit H.out 0 4 8 12 0 4 8 12 rfl rfl rfl rfl (by decide) (by decide)).mono ?_
      clear H
      rintro e w0 ⟨rfl, h⟩
      have H := Lib.hid h
      clear h
      go_wp2_with fail
      refine (mix_lit H.out 1 5 9 13 1 5 9 13 rfl rfl rfl rfl (by decide) (by decide)).mono ?_
      clear H
      rintro e w1 ⟨rfl, h⟩
      have H := Lib.hid h
      clear h
      go_wp2_with fail
      refine (mix_lit H.out 2 6 10 14 2 6 10 14 rfl rfl rfl rfl (by decide) (by decide)).mono ?_
      clear H
      rintro e w2 ⟨rfl, h⟩
      have H := Lib.hid h
      clear h
      go_wp2_with fail
      refine (mix_lit H.out 3 7 11 15 3 7 11 15 rfl rfl rfl rfl (by decide) (by decide)).mono ?_
      clear H
      rintro e w3 ⟨rfl, h⟩
      have H := Lib.hid h
      clear h
      go_wp2_with fail
      refine (mix_lit H.out 0 5 10 15 0 5 10 15 rfl rfl rfl rfl (by decide) (by decide)).mono ?_
      clear H
      rintro e w4 ⟨rfl, h⟩
      have H := Lib.hid h
      clear h
      go_wp2_with fail
      refine (mix_lit H.out 1 6 11 12 1 6 11 12 rfl rfl rfl rfl (by decide) (by decide)).mono ?_
      clear H
      rintro e w5 ⟨rfl, h⟩
      have H := Lib.hid h
      clear h
      go_wp2_with fail
      refine (mix_lit H.out 2 7 8 13 2 7 8 13 rfl rfl rfl rfl (by decide) (by decide)).mono ?_
      clear H
      rintro e w6 ⟨rfl, h⟩
      have H := Lib.hid h
      clear h
      go_wp2_with fail
      refine (mix_lit H.out 3 4 9 14 3 4 9 14 rfl rfl rfl rfl (by decide) (by decide)).mono ?_
      clear H
      rintro e w7 ⟨rfl, h⟩
      have H := Lib.hid h
      clear h
      go_wp2_with fail
      exact ⟨⟨k + 1, by omega, by simp, by rw [HS.out]; exact H.out⟩, by simp [intOf]; omega⟩
    · obtain rfl : k = 10 := by omega
      have H := Lib.hid h
      clear h
      go_wp2_with fail
      go_end0
      exact ⟨rfl, H.out.blk, H.out.bel⟩
end Go.Proofs.YtikgefcbmoomjaaDoor