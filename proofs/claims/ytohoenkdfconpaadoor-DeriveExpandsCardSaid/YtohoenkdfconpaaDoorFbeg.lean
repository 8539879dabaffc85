/- DeriveBegins: what is expanded to more bytes begins as what is expanded to fewer; keys are cut of it; a tag has 32 bytes; bytes 0 behind a short key change nothing. -/
import Derived.Test.YtohoenkdfconpaaDoorFexp
import Derived.Test.YtohoenkdfconpaaDoorFlaw
namespace Go.Proofs.YtohoenkdfconpaaDoor
open Go.RowKit
set_option maxRecDepth 100000

theorem rowT_pre (k wd : List UInt8) (m n : Nat) (h : m ≤ n) : ∃ t, rowT k wd n = rowT k wd m ++ t := by
  induction h with
  | refl => exact ⟨[], by simp⟩
  | @step n _ ih =>
    obtain ⟨t, ht⟩ := ih
    have e : rowT k wd (n + 1) = rowT k wd n ++ [strL (lastT k wd (n + 1))] := rfl
    exact ⟨t ++ [strL (lastT k wd (n + 1))], by rw [e, ht, List.append_assoc]⟩
theorem expL_take (k wd : List UInt8) (a b : Nat) (h : a ≤ b) : (expL k wd b).take a = expL k wd a := by
  obtain ⟨t, ht⟩ := rowT_pre k wd ((a + 31) / 32) ((b + 31) / 32) (by omega)
  unfold expL
  rw [List.take_take, Nat.min_eq_left h, ht]
  have hf : flat (rowT k wd ((a + 31) / 32) ++ t) = flat (rowT k wd ((a + 31) / 32)) ++ flat t := by unfold flat; rw [List.flatMap_append]
  rw [hf, List.take_append_of_le_length (by rw [flat_row]; omega)]
theorem expL_224 (k wd : List UInt8) : expL k wd 224 = flat (rowT k wd 7) := by
  unfold expL
  rw [List.take_of_length_le]
  rw [flat_row]; omega
theorem tag_zero (k s : List UInt8) (h : k.length ≤ 63) : tagL (k ++ [0]) s = tagL k s := by
  have e : padK (keyL (k ++ [0])) = padK (keyL k) := by
    unfold keyL
    rw [if_pos (by simp; omega), if_pos (by omega)]
    unfold padK
    rw [List.length_append, List.append_assoc]
    congr 1
    rw [show 64 - k.length = (64 - (k.length + [(0 : UInt8)].length)) + 1 by simp; omega, List.replicate_succ]
    rfl
  have m : ∀ c, maskL (k ++ [0]) c = maskL k c := fun c => by unfold maskL; rw [e]
  unfold tagL
  rw [m, m]
theorem mod_ex (i : Int) : ∃ (t : Int) (a : Nat), i.tmod 200 = t ∧ -199 ≤ t ∧ t ≤ 199 ∧ (t + 200).tmod 200 = (a : Int) ∧ (t + 200) % 200 = (a : Int) ∧ a < 200 := by
  have h1 : -200 < i.tmod 200 := by
    rcases Int.le_total 0 i with h | h
    · rw [Int.tmod_eq_emod_of_nonneg h]; omega
    · have : (-i).tmod 200 = -(i.tmod 200) := Int.neg_tmod i 200
      rw [Int.tmod_eq_emod_of_nonneg (by omega)] at this
      omega
  have h2 : i.tmod 200 < 200 := by
    rcases Int.le_total 0 i with h | h
    · rw [Int.tmod_eq_emod_of_nonneg h]; omega
    · have : (-i).tmod 200 = -(i.tmod 200) := Int.neg_tmod i 200
      rw [Int.tmod_eq_emod_of_nonneg (by omega)] at this
      omega
  refine ⟨i.tmod 200, ((i.tmod 200 + 200) % 200).toNat, rfl, by omega, by omega, ?_, by omega, by omega⟩
  rw [Int.tmod_eq_emod_of_nonneg (by omega)]
  omega
theorem order_ex (a b : Nat) : ∃ x y : Nat, x ≤ y ∧ ((¬ b < a ∧ x = a ∧ y = b) ∨ (b < a ∧ x = b ∧ y = a)) := by
  by_cases h : b < a
  · exact ⟨b, a, by omega, Or.inr ⟨h, rfl, rfl⟩⟩
  · exact ⟨a, b, by omega, Or.inl ⟨h, rfl, rfl⟩⟩

set_option maxHeartbeats 8000000 in
theorem deriveBegins_any (k s : ByteArray) (i j : Int) (hk : k.size ≤ maxLen) (hs : s.size ≤ maxLen) (_hi : -9223372036854775808 ≤ i ∧ i ≤ 9223372036854775807) (_hj : -9223372036854775808 ≤ j ∧ j ≤ 9223372036854775807) (w : World) (hF : FirstAt w) (hK : KeysAt w) :
    Calls Tryd.prog 9 #[.string k, .string s, .int .i64 i, .int .i64 j] w fun e w' => e = .returned (.bool true) ∧ Below w.heap.size w w' := by
  have h1 := cutd_any k hk
  have h2 := cutd_any s hs
  have hb1 := cutS_size k 150
  have hb2 := cutS_size s 150
  obtain ⟨c, hx⟩ : ∃ x, cutS k 150 = x := ⟨_, rfl⟩
  obtain ⟨d, hy⟩ : ∃ y, cutS s 150 = y := ⟨_, rfl⟩
  rw [hx] at h1 hb1
  rw [hy] at h2 hb2
  have H1 := Lib.hid h1; have H2 := Lib.hid h2
  clear h1 h2 hx hy hk hs
  obtain ⟨t, a, e1, t0, t1, e2, e3, ha⟩ := mod_ex i
  obtain ⟨t', b, e4, t2, t3, e5, e6, hb⟩ := mod_ex j
  have w1 : IntKind.i64.wrap t = t := IntWalk.i64_in _ (by omega)
  have w2 : IntKind.i64.wrap (t + 200) = t + 200 := IntWalk.i64_in _ (by omega)
  have w3 : IntKind.i64.wrap t' = t' := IntWalk.i64_in _ (by omega)
  have w4 : IntKind.i64.wrap (t' + 200) = t' + 200 := IntWalk.i64_in _ (by omega)
  have g1 : (0 : Int) ≤ t + 200 := by omega
  have g2 : (0 : Int) ≤ t' + 200 := by omega
  obtain ⟨x, y, hxy, hcase⟩ := order_ex a b
  go_enter Tryd.func9, Tryd.ntmps9
  go_upto_region 3 with (go_at_call 26; (first | with_reducible refine (H1.out _).mono ?_ | with_reducible refine (H2.out _).mono ?_); rintro e w' ⟨rfl, rfl⟩)
  rcases hcase with ⟨hab, rfl, rfl⟩ | ⟨hab, rfl, rfl⟩
  · have l0 : ¬ (y : Int) < (x : Int) := by omega
    have b0 : decide ((y : Int) < (x : Int)) = false := by simp; omega
    go_upto_region 5 with fail
    clear e1 e2 e3 e4 e5 e6 w1 w2 w3 w4 g1 g2 t0 t1 t2 t3 H1 H2
    have hEx := fun W p q => expand_good c d x (by omega) (by omega) (by omega) W p q
    have hEy := fun W p q => expand_good c d y (by omega) (by omega) (by omega) W p q
    have hEu : ∀ W : World, FirstAt W → KeysAt W → Calls Tryd.prog 32 #[.string c, .string d, .int .i64 224] W fun e w' => e = .returned (.tuple #[.string (strL (expL (bl c) (bl d) 224)), .int .i64 0]) ∧ Below W.heap.size W w' := fun W p q => expand_good c d 224 (by omega) (by omega) (by omega) W p q
    have hSp : ∀ W : World, FirstAt W → KeysAt W → Calls Tryd.prog 33 #[.string c, .string d, .int .i64 7] W fun e w' => ∃ g cap, e = .returned (.tuple #[.slice (some ⟨g, 0, none⟩) 7 cap, .int .i64 0]) ∧ StrsAt w' (.slice (some ⟨g, 0, none⟩) 7 cap) (rowT (bl c) (bl d) 7) ∧ 7 ≤ cap ∧ Below W.heap.size W w' := fun W p q => split_good c d 7 (by omega) (by omega) (by omega) W p q
    have hTg := fun W p q => tagd_any c d (by omega) (by omega) W p q
    have hJn : ∀ (g cap : Nat) (W : World), 7 ≤ cap → StrsAt W (.slice (some ⟨g, 0, none⟩) 7 cap) (rowT (bl c) (bl d) 7) → Calls Tryd.prog 37 #[.slice (some ⟨g, 0, none⟩) 7 cap, .string ⟨#[]⟩] W fun e w' => e = .returned (.string (strL (flat (rowT (bl c) (bl d) 7)))) ∧ Below W.heap.size W w' := fun g cap W hc h => join_any g 7 cap _ (rowT_length _ _ _).symm (by rw [rowT_length]; omega) (by rw [flat_row]; omega) hc W h
    rw [← expL_224] at hJn
    obtain ⟨X, hX⟩ : ∃ X, strL (expL (bl c) (bl d) x) = X := ⟨_, rfl⟩
    obtain ⟨Y, hY⟩ : ∃ Y, strL (expL (bl c) (bl d) y) = Y := ⟨_, rfl⟩
    obtain ⟨U, hU⟩ : ∃ U, strL (expL (bl c) (bl d) 224) = U := ⟨_, rfl⟩
    obtain ⟨T, hT⟩ : ∃ T, strL (tagL (bl c) (bl d)) = T := ⟨_, rfl⟩
    have hXs : X.size = x := by rw [← hX, strL_size, expL_length]
    have hYs : Y.size = y := by rw [← hY, strL_size, expL_length]
    have hTs : T.size = 32 := by rw [← hT, strL_size, tagL_length]
    have hXY : Y.extract 0 x = X := bl_inj (by rw [bl_extract, List.drop_zero, ← hX, ← hY, bl_strL, bl_strL, expL_take _ _ _ _ hxy])
    have hsl : ∀ W : World, (Instr.slice 9 (.string Y) none (some (.int .i64 (x : Int))) none).run Tryd.prog W = .ok (.string X) W := by
      have l1 : (x : Int) ≤ (Y.size : Int) := by omega
      clear hXs hYs hTs
      intro W; rw [← hXY]; go_simp
    have hz0 : c.size ≤ 63 → ∀ c0 : ByteArray, c ++ ⟨#[0]⟩ = c0 → strL (tagL (bl c0) (bl d)) = T := by
      intro hc c0 h0
      rw [← h0, bl_append, show bl ⟨#[0]⟩ = [0] from rfl, tag_zero _ _ (by rw [bl_length]; exact hc), hT]
    rw [hX] at hEx
    rw [hY] at hEy
    rw [hU] at hEu hJn
    rw [hT] at hTg
    have HEX := Lib.hid hEx; have HEY := Lib.hid hEy; have HEU := Lib.hid hEu; have HSP := Lib.hid hSp; have HTG := Lib.hid hTg; have HJN := Lib.hid hJn; have HZ := Lib.hid hz0
    have HAL := Lib.hid alived_any
    have hF := Lib.hid hF; have hK := Lib.hid hK
    have q1 : ((X.size : Int) == (x : Int)) = true := by rw [hXs]; simp
    have q2 : ((Y.size : Int) == (y : Int)) = true := by rw [hYs]; simp
    have q3 : ((T.size : Int) == 32) = true := by rw [hTs]; rfl
    have HXS := Lib.hid (And.intro hXs (And.intro hYs hTs))
    clear hEx hEy hEu hSp hTg hJn hX hY hU hT hXY hz0 hXs hYs hTs
    go_wp2_with fail
    refine (HEX.out _ hF.out hK.out).mono ?_
    rintro e v1 ⟨rfl, hc1⟩
    have hF1 := Lib.hid (hF.out.on hc1); have hK1 := Lib.hid (hK.out.on hc1)
    clear hF hK HEX
    go_wp2_with fail
    refine (HEY.out _ hF1.out hK1.out).mono ?_
    rintro e v2 ⟨rfl, hc2⟩
    have hF2 := Lib.hid (hF1.out.on hc2); have hK2 := Lib.hid (hK1.out.on hc2)
    have hB2 := hc1.trans (hc2.mono hc1.size)
    clear hF1 hK1 HEY hc1 hc2
    go_wp2_with fail
    refine (HSP.out _ hF2.out hK2.out).mono ?_
    rintro e v3 ⟨g, cap, rfl, hs3, hcap, hc3⟩
    have hF3 := Lib.hid (hF2.out.on hc3); have hK3 := Lib.hid (hK2.out.on hc3); have HS3 := Lib.hid hs3
    have hB3 := hB2.trans (hc3.mono hB2.size)
    clear hF2 hK2 HSP hc3 hB2 hs3
    go_wp2_with fail
    refine (HEU.out _ hF3.out hK3.out).mono ?_
    rintro e v4 ⟨rfl, hc4⟩
    have hF4 := Lib.hid (hF3.out.on hc4); have hK4 := Lib.hid (hK3.out.on hc4); have HS4 := Lib.hid (HS3.out.on hc4)
    have hB4 := hB3.trans (hc4.mono hB3.size)
    clear hF3 hK3 HEU hc4 hB3 HS3
    by_cases hc63 : 63 < c.size
    · have l63 : (63 : Int) < (c.size : Int) := by omega
      have b63 : decide ((63 : Int) < (c.size : Int)) = true := by simpa using l63
      have hF5 := hF4; have hK5 := hK4; have HS5 := HS4; have hB5 := hB4
      clear hF4 hK4 HS4 hB4 HZ hc63
      go_wp2_with fail
      refine (HAL.out _ hF5.out hK5.out).mono ?_
      rintro e v6 ⟨rfl, hc6⟩
      have hF6 := Lib.hid (hF5.out.on hc6); have hK6 := Lib.hid (hK5.out.on hc6); have HS6 := Lib.hid (HS5.out.on hc6)
      have hB6 := hB5.trans (hc6.mono hB5.size)
      clear hc6 hB5 hF5 hK5 HS5 HAL
      go_wp2_with fail
      refine (HJN.out _ _ _ hcap HS6.out).mono ?_
      rintro e v7 ⟨rfl, hc7⟩
      have hF7 := Lib.hid (hF6.out.on hc7); have hK7 := Lib.hid (hK6.out.on hc7)
      have hB7 := hB6.trans (hc7.mono hB6.size)
      clear hc7 hB6 hF6 hK6 HS6 HJN
      go_wp2_with fail
      refine (HTG.out _ hF7.out hK7.out).mono ?_
      rintro e v8 ⟨rfl, hc8⟩
      have hB8 := hB7.trans (hc8.mono hB7.size)
      clear hc8 hB7 hF7 hK7 HTG
      go_wp2_with fail
      go_ret
      exact ⟨by first | rfl | simp, hB8⟩
    · have l63 : ¬ (63 : Int) < (c.size : Int) := by omega
      have b63 : decide ((63 : Int) < (c.size : Int)) = false := by simp; omega
      obtain ⟨c0, hc0⟩ : ∃ c0, c ++ ⟨#[0]⟩ = c0 := ⟨_, rfl⟩
      have hone : (ByteArray.mk #[0]).size = 1 := rfl
      have hcat : ∀ W : World, (Op.stringOp .add c ⟨#[0]⟩).run Tryd.prog W = .ok (.string c0) W := fun W => by rw [run_string_add_sum W _ _ (by rw [hone]; omega), hc0]
      have hns : (9223372036854775807 < c.size + 1) = False := by simp; omega
      have hc0s : c0.size ≤ 200 := by rw [← hc0, ByteArray.size_append, hone]; omega
      have hT0 := fun W p q => tagd_any c0 d (by omega) (by omega) W p q
      rw [HZ.out (by omega) c0 hc0] at hT0
      have HT0 := Lib.hid hT0
      clear hT0 HZ hc63 hc0 hone hc0s
      go_wp2_with fail
      refine (HT0.out _ hF4.out hK4.out).mono ?_
      rintro e u1 ⟨rfl, hd1⟩
      have hF4 := Lib.hid (hF4.out.on hd1); have hK4 := Lib.hid (hK4.out.on hd1); have HS4 := Lib.hid (HS4.out.on hd1)
      have hB4 := hB4.trans (hd1.mono hB4.size)
      clear HT0 hd1
      go_wp2_with fail
      refine (HTG.out _ hF4.out hK4.out).mono ?_
      rintro e u2 ⟨rfl, hd2⟩
      have hF5 := Lib.hid (hF4.out.on hd2); have hK5 := Lib.hid (hK4.out.on hd2); have HS5 := Lib.hid (HS4.out.on hd2)
      have hB5 := hB4.trans (hd2.mono hB4.size)
      clear hd2 hB4 hF4 hK4 HS4
      go_wp2_with fail
      refine (HAL.out _ hF5.out hK5.out).mono ?_
      rintro e v6 ⟨rfl, hc6⟩
      have hF6 := Lib.hid (hF5.out.on hc6); have hK6 := Lib.hid (hK5.out.on hc6); have HS6 := Lib.hid (HS5.out.on hc6)
      have hB6 := hB5.trans (hc6.mono hB5.size)
      clear hc6 hB5 hF5 hK5 HS5 HAL
      go_wp2_with fail
      refine (HJN.out _ _ _ hcap HS6.out).mono ?_
      rintro e v7 ⟨rfl, hc7⟩
      have hF7 := Lib.hid (hF6.out.on hc7); have hK7 := Lib.hid (hK6.out.on hc7)
      have hB7 := hB6.trans (hc7.mono hB6.size)
      clear hc7 hB6 hF6 hK6 HS6 HJN
      go_wp2_with fail
      refine (HTG.out _ hF7.out hK7.out).mono ?_
      rintro e v8 ⟨rfl, hc8⟩
      have hB8 := hB7.trans (hc8.mono hB7.size)
      clear hc8 hB7 hF7 hK7 HTG
      go_wp2_with fail
      go_ret
      exact ⟨by first | rfl | simp, hB8⟩
  · have l0 : (x : Int) < (y : Int) := by omega
    have b0 : decide ((x : Int) < (y : Int)) = true := by simp; omega
    go_upto_region 5 with fail
    clear e1 e2 e3 e4 e5 e6 w1 w2 w3 w4 g1 g2 t0 t1 t2 t3 H1 H2
    have hEx := fun W p q => expand_good c d x (by omega) (by omega) (by omega) W p q
    have hEy := fun W p q => expand_good c d y (by omega) (by omega) (by omega) W p q
    have hEu : ∀ W : World, FirstAt W → KeysAt W → Calls Tryd.prog 32 #[.string c, .string d, .int .i64 224] W fun e w' => e = .returned (.tuple #[.string (strL (expL (bl c) (bl d) 224)), .int .i64 0]) ∧ Below W.heap.size W w' := fun W p q => expand_good c d 224 (by omega) (by omega) (by omega) W p q
    have hSp : ∀ W : World, FirstAt W → KeysAt W → Calls Tryd.prog 33 #[.string c, .string d, .int .i64 7] W fun e w' => ∃ g cap, e = .returned (.tuple #[.slice (some ⟨g, 0, none⟩) 7 cap, .int .i64 0]) ∧ StrsAt w' (.slice (some ⟨g, 0, none⟩) 7 cap) (rowT (bl c) (bl d) 7) ∧ 7 ≤ cap ∧ Below W.heap.size W w' := fun W p q => split_good c d 7 (by omega) (by omega) (by omega) W p q
    have hTg := fun W p q => tagd_any c d (by omega) (by omega) W p q
    have hJn : ∀ (g cap : Nat) (W : World), 7 ≤ cap → StrsAt W (.slice (some ⟨g, 0, none⟩) 7 cap) (rowT (bl c) (bl d) 7) → Calls Tryd.prog 37 #[.slice (some ⟨g, 0, none⟩) 7 cap, .string ⟨#[]⟩] W fun e w' => e = .returned (.string (strL (flat (rowT (bl c) (bl d) 7)))) ∧ Below W.heap.size W w' := fun g cap W hc h => join_any g 7 cap _ (rowT_length _ _ _).symm (by rw [rowT_length]; omega) (by rw [flat_row]; omega) hc W h
    rw [← expL_224] at hJn
    obtain ⟨X, hX⟩ : ∃ X, strL (expL (bl c) (bl d) x) = X := ⟨_, rfl⟩
    obtain ⟨Y, hY⟩ : ∃ Y, strL (expL (bl c) (bl d) y) = Y := ⟨_, rfl⟩
    obtain ⟨U, hU⟩ : ∃ U, strL (expL (bl c) (bl d) 224) = U := ⟨_, rfl⟩
    obtain ⟨T, hT⟩ : ∃ T, strL (tagL (bl c) (bl d)) = T := ⟨_, rfl⟩
    have hXs : X.size = x := by rw [← hX, strL_size, expL_length]
    have hYs : Y.size = y := by rw [← hY, strL_size, expL_length]
    have hTs : T.size = 32 := by rw [← hT, strL_size, tagL_length]
    have hXY : Y.extract 0 x = X := bl_inj (by rw [bl_extract, List.drop_zero, ← hX, ← hY, bl_strL, bl_strL, expL_take _ _ _ _ hxy])
    have hsl : ∀ W : World, (Instr.slice 9 (.string Y) none (some (.int .i64 (x : Int))) none).run Tryd.prog W = .ok (.string X) W := by
      have l1 : (x : Int) ≤ (Y.size : Int) := by omega
      clear hXs hYs hTs
      intro W; rw [← hXY]; go_simp
    have hz0 : c.size ≤ 63 → ∀ c0 : ByteArray, c ++ ⟨#[0]⟩ = c0 → strL (tagL (bl c0) (bl d)) = T := by
      intro hc c0 h0
      rw [← h0, bl_append, show bl ⟨#[0]⟩ = [0] from rfl, tag_zero _ _ (by rw [bl_length]; exact hc), hT]
    rw [hX] at hEx
    rw [hY] at hEy
    rw [hU] at hEu hJn
    rw [hT] at hTg
    have HEX := Lib.hid hEx; have HEY := Lib.hid hEy; have HEU := Lib.hid hEu; have HSP := Lib.hid hSp; have HTG := Lib.hid hTg; have HJN := Lib.hid hJn; have HZ := Lib.hid hz0
    have HAL := Lib.hid alived_any
    have hF := Lib.hid hF; have hK := Lib.hid hK
    have q1 : ((X.size : Int) == (x : Int)) = true := by rw [hXs]; simp
    have q2 : ((Y.size : Int) == (y : Int)) = true := by rw [hYs]; simp
    have q3 : ((T.size : Int) == 32) = true := by rw [hTs]; rfl
    have HXS := Lib.hid (And.intro hXs (And.intro hYs hTs))
    clear hEx hEy hEu hSp hTg hJn hX hY hU hT hXY hz0 hXs hYs hTs
    go_wp2_with fail
    refine (HEX.out _ hF.out hK.out).mono ?_
    rintro e v1 ⟨rfl, hc1⟩
    have hF1 := Lib.hid (hF.out.on hc1); have hK1 := Lib.hid (hK.out.on hc1)
    clear hF hK HEX
    go_wp2_with fail
    refine (HEY.out _ hF1.out hK1.out).mono ?_
    rintro e v2 ⟨rfl, hc2⟩
    have hF2 := Lib.hid (hF1.out.on hc2); have hK2 := Lib.hid (hK1.out.on hc2)
    have hB2 := hc1.trans (hc2.mono hc1.size)
    clear hF1 hK1 HEY hc1 hc2
    go_wp2_with fail
    refine (HSP.out _ hF2.out hK2.out).mono ?_
    rintro e v3 ⟨g, cap, rfl, hs3, hcap, hc3⟩
    have hF3 := Lib.hid (hF2.out.on hc3); have hK3 := Lib.hid (hK2.out.on hc3); have HS3 := Lib.hid hs3
    have hB3 := hB2.trans (hc3.mono hB2.size)
    clear hF2 hK2 HSP hc3 hB2 hs3
    go_wp2_with fail
    refine (HEU.out _ hF3.out hK3.out).mono ?_
    rintro e v4 ⟨rfl, hc4⟩
    have hF4 := Lib.hid (hF3.out.on hc4); have hK4 := Lib.hid (hK3.out.on hc4); have HS4 := Lib.hid (HS3.out.on hc4)
    have hB4 := hB3.trans (hc4.mono hB3.size)
    clear hF3 hK3 HEU hc4 hB3 HS3
    by_cases hc63 : 63 < c.size
    · have l63 : (63 : Int) < (c.size : Int) := by omega
      have b63 : decide ((63 : Int) < (c.size : Int)) = true := by simpa using l63
      have hF5 := hF4; have hK5 := hK4; have HS5 := HS4; have hB5 := hB4
      clear hF4 hK4 HS4 hB4 HZ hc63
      go_wp2_with fail
      refine (HAL.out _ hF5.out hK5.out).mono ?_
      rintro e v6 ⟨rfl, hc6⟩
      have hF6 := Lib.hid (hF5.out.on hc6); have hK6 := Lib.hid (hK5.out.on hc6); have HS6 := Lib.hid (HS5.out.on hc6)
      have hB6 := hB5.trans (hc6.mono hB5.size)
      clear hc6 hB5 hF5 hK5 HS5 HAL
      go_wp2_with fail
      refine (HJN.out _ _ _ hcap HS6.out).mono ?_
      rintro e v7 ⟨rfl, hc7⟩
      have hF7 := Lib.hid (hF6.out.on hc7); have hK7 := Lib.hid (hK6.out.on hc7)
      have hB7 := hB6.trans (hc7.mono hB6.size)
      clear hc7 hB6 hF6 hK6 HS6 HJN
      go_wp2_with fail
      refine (HTG.out _ hF7.out hK7.out).mono ?_
      rintro e v8 ⟨rfl, hc8⟩
      have hB8 := hB7.trans (hc8.mono hB7.size)
      clear hc8 hB7 hF7 hK7 HTG
      go_wp2_with fail
      go_ret
      exact ⟨by first | rfl | simp, hB8⟩
    · have l63 : ¬ (63 : Int) < (c.size : Int) := by omega
      have b63 : decide ((63 : Int) < (c.size : Int)) = false := by simp; omega
      obtain ⟨c0, hc0⟩ : ∃ c0, c ++ ⟨#[0]⟩ = c0 := ⟨_, rfl⟩
      have hone : (ByteArray.mk #[0]).size = 1 := rfl
      have hcat : ∀ W : World, (Op.stringOp .add c ⟨#[0]⟩).run Tryd.prog W = .ok (.string c0) W := fun W => by rw [run_string_add_sum W _ _ (by rw [hone]; omega), hc0]
      have hns : (9223372036854775807 < c.size + 1) = False := by simp; omega
      have hc0s : c0.size ≤ 200 := by rw [← hc0, ByteArray.size_append, hone]; omega
      have hT0 := fun W p q => tagd_any c0 d (by omega) (by omega) W p q
      rw [HZ.out (by omega) c0 hc0] at hT0
      have HT0 := Lib.hid hT0
      clear hT0 HZ hc63 hc0 hone hc0s
      go_wp2_with fail
      refine (HT0.out _ hF4.out hK4.out).mono ?_
      rintro e u1 ⟨rfl, hd1⟩
      have hF4 := Lib.hid (hF4.out.on hd1); have hK4 := Lib.hid (hK4.out.on hd1); have HS4 := Lib.hid (HS4.out.on hd1)
      have hB4 := hB4.trans (hd1.mono hB4.size)
      clear HT0 hd1
      go_wp2_with fail
      refine (HTG.out _ hF4.out hK4.out).mono ?_
      rintro e u2 ⟨rfl, hd2⟩
      have hF5 := Lib.hid (hF4.out.on hd2); have hK5 := Lib.hid (hK4.out.on hd2); have HS5 := Lib.hid (HS4.out.on hd2)
      have hB5 := hB4.trans (hd2.mono hB4.size)
      clear hd2 hB4 hF4 hK4 HS4
      go_wp2_with fail
      refine (HAL.out _ hF5.out hK5.out).mono ?_
      rintro e v6 ⟨rfl, hc6⟩
      have hF6 := Lib.hid (hF5.out.on hc6); have hK6 := Lib.hid (hK5.out.on hc6); have HS6 := Lib.hid (HS5.out.on hc6)
      have hB6 := hB5.trans (hc6.mono hB5.size)
      clear hc6 hB5 hF5 hK5 HS5 HAL
      go_wp2_with fail
      refine (HJN.out _ _ _ hcap HS6.out).mono ?_
      rintro e v7 ⟨rfl, hc7⟩
      have hF7 := Lib.hid (hF6.out.on hc7); have hK7 := Lib.hid (hK6.out.on hc7)
      have hB7 := hB6.trans (hc7.mono hB6.size)
      clear hc7 hB6 hF6 hK6 HS6 HJN
      go_wp2_with fail
      refine (HTG.out _ hF7.out hK7.out).mono ?_
      rintro e v8 ⟨rfl, hc8⟩
      have hB8 := hB7.trans (hc8.mono hB7.size)
      clear hc8 hB7 hF7 hK7 HTG
      go_wp2_with fail
      go_ret
      exact ⟨by first | rfl | simp, hB8⟩
end Go.Proofs.YtohoenkdfconpaaDoor
