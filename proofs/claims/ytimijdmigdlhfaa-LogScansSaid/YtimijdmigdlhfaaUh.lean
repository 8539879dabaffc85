/- The package's first, walked. -/
import Derived.Test.YtimijdmigdlhfaaUg
import Derived.BigQuiet
namespace Go.Proofs.Ytimijdmigdlhfaa
open Go.RowKit
set_option maxRecDepth 100000
theorem below_dn {B : Nat} {a w : World} (h : Below B a w) (n : Nat) : Below B a (w.drewN n) := ⟨h.os, h.tape, h.output, h.size, h.block⟩
theorem ckP_f (t : ByteArray) : ckP.f t = be4 (crc (txB t)) := rfl
set_option maxHeartbeats 400000 in
theorem first_any (s : ByteArray) (hs : s.size ≤ maxLen) (w : World) :
    Calls Try.prog 40 #[.string s] w fun e w' => e = .returned (.tuple #[.string (fstS (aheadR ckP (bl s))), .int .i64 (fstK (aheadR ckP (bl s)) : Int), .bool (fstB (aheadR ckP (bl s)))]) ∧ Below w.heap.size w w' := by
  have hU1 := Unpack_any s ⟨#[116]⟩ hs (by decide) w
  rw [show bl ⟨#[116]⟩ = [116] from rfl] at hU1
  obtain ⟨X, eX⟩ : ∃ X, aheadR ckP (bl s) = X := ⟨_, rfl⟩
  rw [eX]
  rcases first_cases ckP (bl s) with ⟨f1, f2, f3⟩ | ⟨m, t, f1, f2, f3, f4, f5, f6⟩
  · rw [f1] at hU1
    have hU2 := fun W => Unpack_any (strL ((bl s).take 0)) ⟨#[116]⟩ (by rw [strL_size]; simp) (by decide) W
    simp only [bl_strL, show bl ⟨#[116]⟩ = [116] from rfl, f2] at hU2
    have hcut : ∀ W : World, (Instr.slice 9 (.string s) none (some (.int .i64 0)) none).run Try.prog W = .ok (.string (strL ((bl s).take 0))) W := cut_ahead s 0 (Nat.zero_le _)
    obtain rfl : X = none := by rw [← eX, f3]
    have hcut2 : ∀ W : World, (Instr.slice 9 (.string s) (some (.int .i64 0)) none none).run Try.prog W = .ok (.string (strL ((bl s).drop 0))) W := cut_behind s 0 (Nat.zero_le _)
    have H1 := Lib.hid hU1; have H2 := Lib.hid hU2
    clear hU1 hU2 f1 f2 f3 eX
    generalize strL ((bl s).take 0) = p at H2 hcut
    generalize strL ((bl s).drop 0) = q at hcut2
    generalize (unpackL (bl s) [116]).1.length = n1 at H1
    generalize (unpackL (bl s) [116]).2.2 = n2 at H1
    go_enter Try.func40, Try.ntmps40
    go_wp2_with fail
    refine H1.out.mono ?_
    rintro e w1 ⟨a, c, rfl, -, -, hb⟩
    have HB := Lib.hid hb
    clear hb H1
    go_wp2_with fail
    go_quiet (fail)
    clear hcut hcut2
    go_wp2_with fail
    refine (H2.out _).mono ?_
    rintro e w2 ⟨a2, c2, rfl, -, -, hb⟩
    have HB2 := Lib.hid ((below_dn HB.out _).trans (hb.mono (below_dn HB.out _).size))
    clear hb H2 HB
    go_wp2_with fail
    go_ret3
    exact ⟨rfl, HB2.out⟩
  · rw [bl_length] at f3 f6
    rw [f1] at hU1
    have hU2 := fun W => Unpack_any (strL ((bl s).take m)) ⟨#[116]⟩ (by rw [strL_size, List.length_take, bl_length]; omega) (by decide) W
    simp only [bl_strL, show bl ⟨#[116]⟩ = [116] from rfl, f2] at hU2
    have hcut := cut_ahead s m f3
    have hcut2 := cut_behind s m f3
    have hpre := pre_eq s m (ckP.f t) (ckP.four t)
    have hX : X = if preS (strL ((bl s).drop m)) (strL (ckP.f t)) = true then some (t, m + 4) else none := by
      rw [← eX, f6, hpre, bl_length]
      by_cases h : m + 4 ≤ s.size ∧ ((bl s).drop m).take 4 = ckP.f t
      · rw [if_pos h, decide_eq_true h, if_pos rfl]
      · rw [if_neg h, decide_eq_false h, if_neg (by simp)]
    have hH := fun W => hasPrefix_any (strL ((bl s).drop m)) (strL (ckP.f t)) W
    have hC2 : ∀ W, Calls Try.prog 26 #[.string (strL ((bl s).take m))] W fun e w' => e = .returned (.string (strL (ckP.f t))) ∧ Below W.heap.size W w' := fun W => by
      have hC := crcBytes_any (strL ((bl s).take m)) (by rw [strL_size, List.length_take, bl_length]; omega) W
      rw [bl_strL] at hC
      rw [ckP_f, f5]
      exact hC
    have hm4 : preS (strL ((bl s).drop m)) (strL (ckP.f t)) = true → (m : Int) + 4 ≤ 9223372036854775807 := by
      intro h
      rw [hpre] at h
      have := (of_decide_eq_true h).1
      rw [bl_length] at this
      unfold maxLen at hs; omega
    have H1 := Lib.hid hU1; have H2 := Lib.hid hU2; have HC := Lib.hid hC2; have HH := Lib.hid hH; have HX := Lib.hid hX
    clear hU1 hU2 f1 f2 f3 f4 f5 f6 eX hpre hC2 hH hX
    generalize strL ((bl s).take m) = p at H2 HC hcut
    generalize strL ((bl s).drop m) = q at HH hcut2 HX hm4
    generalize strL (ckP.f t) = k4 at HC HH HX hm4
    generalize preS q k4 = pb at HH HX hm4
    generalize (unpackL (bl s) [116]).1.length = n1 at H1
    generalize (unpackL (bl s) [116]).2.2 = n2 at H1
    go_enter Try.func40, Try.ntmps40
    go_wp2_with fail
    refine H1.out.mono ?_
    rintro e w1 ⟨a, c, rfl, -, -, hb⟩
    have HB := Lib.hid hb
    clear hb H1
    go_wp2_with fail
    go_quiet (fail)
    clear hcut hcut2
    go_wp2_with fail
    refine (H2.out _).mono ?_
    rintro e w2 ⟨a2, c2, rfl, -, hp2, hb⟩
    obtain ⟨b, off, rfl, hlt, hc⟩ := hp2 (by simp)
    obtain ⟨-, -, c0⟩ := hc 0 (by simp)
    have HB2 := Lib.hid ((below_dn HB.out _).trans (hb.mono (below_dn HB.out _).size))
    have c2 : w2.cell? ⟨b, off + 2, none⟩ = some (.string t) := by simpa using c0
    have HC2 := Lib.hid (And.intro c2 hlt)
    clear hb H2 HB hc c0 hlt c2
    go_wp2_with fail
    refine (HC.out w2).mono ?_
    rintro e w3 ⟨rfl, hb⟩
    have c3 : w3.cell? ⟨b, off + 2, none⟩ = some (.string t) := by rw [hb.cell (p := ⟨b, off + 2, none⟩) HC2.out.2]; exact HC2.out.1
    have HB3 := Lib.hid (HB2.out.trans (hb.mono HB2.out.size))
    clear hb HC HC2 HB2
    go_wp2_with fail
    refine (HH.out w3).mono ?_
    rintro e w4 ⟨rfl, rfl⟩
    clear HH
    cases pb
    · have hX : X = none := by rw [HX.out, if_neg (by simp)]
      subst hX
      clear HX hm4
      go_wp2_with fail
      go_ret3
      exact ⟨rfl, HB3.out⟩
    · have h4 : (m : Int) ≤ 9223372036854775803 := by have := hm4 rfl; omega
      clear hm4 hp2 hs
      go_wp2_with fail
      go_ret3
      rw [HX.out]
      exact ⟨by simp [fstS, fstK, fstB], HB3.out⟩
end Go.Proofs.Ytimijdmigdlhfaa