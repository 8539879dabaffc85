/- Law 15: PrekeysOnce, refused: no shelf, or shelves that may not be. -/
import Derived.Test.YtmmaimopombepaaBs
namespace Go.Proofs.Ytmmaimopombepaa
open Go.RowKit
set_option maxRecDepth 100000
theorem place_user {l : List Sh} {u i : Nat} (h : placeS l u = some i) (hi : i < l.length) : l[i].user = u := by
  unfold placeS at h
  exact of_decide_eq_true (List.findIdx?_eq_some_iff_getElem.1 h).2.1
theorem now_left {l : List Sh} (hr : rightSL l) {i u : Nat} (k : Nat) (hi : i < l.length) (hu : l[i].user = u) : leftE (nowS l i k) u = 0 := by
  subst hu
  exact (left_some (nowS_right hr i k hi) (nowS_place hr.2.2 i k hi) (by rw [nowS_length]; exact hi)).2
theorem now_next {l : List Sh} (i k : Nat) (hi : i < l.length) : (nowS l i k).set i (restSh (dropSh k l[i])) = nowS l i (k + 1) := by
  rw [rest_drop]
  unfold nowS
  rw [List.set_set, List.getD_eq_getElem?_getD, List.getElem?_eq_getElem hi]
  rfl
set_option maxHeartbeats 8000000 in
theorem onceRefused_any (a : Option Addr) (c : Nat) (L : List ShM) (hl : L.length ≤ maxLen) (hp : ∀ m ∈ L, m.s.once.length ≤ maxLen) (u : Nat) (hbad : leftE (shs (fewM L)) u ≠ 0) (w : World) (h : SS w a c L) :
    Calls Try.prog 6 #[.slice a L.length c, .int .u64 (u : Int)] w fun e w' => e = .returned (.bool true) ∧ Below w.heap.size w w' := by
  have HF := Lib.hid (few_any a c L hl hp w h)
  clear h hl hp
  go_enter Try.func6, Try.ntmps6
  go_wp2_with fail
  refine HF.out.mono ?_
  rintro e w1 ⟨a1, c1, rfl, hss, hb1⟩
  obtain ⟨M, eM⟩ : ∃ M, fewM L = M := ⟨_, rfl⟩
  have hM10 : M.length ≤ 10 := by rw [← eM, fewM_length]; omega
  rw [eM] at hss hbad ⊢
  clear eM HF
  have HL := Lib.hid (left_any a1 c1 M u (by omega) w1 hss)
  have HSS := Lib.hid hss
  have HM := Lib.hid hM10
  have HB1 := Lib.hid hb1
  clear hss hM10 hb1
  have hN : leftN (shs M) u = 0 := by
    rcases leftE_cases (shs M) u with ⟨-, -, h⟩ | ⟨-, -, -, h, -⟩ | ⟨-, -, -, -, h, -⟩
    · exact h
    · exact h
    · exact absurd h hbad
  rw [hN] at HL
  obtain ⟨E, eE⟩ : ∃ E, leftE (shs M) u = E := ⟨_, rfl⟩
  rw [eE] at HL hbad
  go_wp2_with fail
  refine HL.out.mono ?_
  rintro e w2 ⟨rfl, hb2⟩
  have HG := Lib.hid (fetchU_any a1 c1 M u (by have := HM.out; omega) w2 (HSS.out.on hb2))
  have HB2 := Lib.hid (HB1.out.trans (hb2.mono HB1.out.size))
  clear hb2
  go_wp2_with fail
  refine HG.out.mono ?_
  rintro e w3 ⟨a2, c2, P, m, rfl, hb3, -, -, -, -⟩
  rw [eE]
  obtain ⟨S, eS⟩ : ∃ S, w3.heap.size = S := ⟨_, rfl⟩
  obtain ⟨W3, eW3⟩ : ∃ W3, w3.alloc (.cells #[.int .u64 0, .string ⟨#[]⟩, .int .u64 0, .string ⟨#[]⟩, .slice none 0 0] 28) = W3 := ⟨_, rfl⟩
  have b3 : Below w3.heap.size w3 W3 := by rw [← eW3]; exact (Below.refl _ w3).alloc (Nat.le_refl _) _
  have kS : BlkV W3 S 28 [.int .u64 0, .string ⟨#[]⟩, .int .u64 0, .string ⟨#[]⟩, .slice none 0 0] := by rw [← eW3, ← eS]; exact BlkV.fresh w3 _ _ _ rfl _ rfl
  have x0 := kS.cell 0 _ rfl
  have x1 := kS.cell 1 _ rfl
  have x2 := kS.cell 2 _ rfl
  have x3 := kS.cell 3 _ rfl
  have x4 := kS.cell 4 _ rfl
  have f0 := kS.frozen 0
  have f1 := kS.frozen 1
  have f2 := kS.frozen 2
  have f3 := kS.frozen 3
  have f4 := kS.frozen 4
  have HX := Lib.hid (And.intro (HB2.out.trans (hb3.mono HB2.out.size)) b3)
  clear hb3 b3 kS
  go_upto_region 5 with fail
  have hb4 := below_put5 HX.out.2 S (by rw [← eS]; exact Nat.le_refl _) (.int .u64 (m.s.user : Int)) (.string m.s.ident) (.int .u64 (m.s.sgn.id : Int)) (.string m.s.sgn.pt) (.slice m.a m.s.once.length m.c)
  clear x0 x1 x2 x3 x4 f0 f1 f2 f3 f4 eW3
  generalize World.setCell _ _ _ = W4 at hb4 ⊢
  have HAl := Lib.hid (alive_any W4)
  have H4 := Lib.hid (HX.out.1.trans (hb4.mono HX.out.1.size))
  clear hb4
  go_wp2_with (go_at_call 20; refine HAl.out.mono ?_; rintro e w5 ⟨rfl, hb5⟩)
  all_goals (go_ret; exact ⟨rfl, H4.out.trans (hb5.mono H4.out.size)⟩)
end Go.Proofs.Ytmmaimopombepaa