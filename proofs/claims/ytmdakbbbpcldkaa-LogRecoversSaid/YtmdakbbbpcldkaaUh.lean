/- The package's first, walked. -/
import Derived.Test.YtmdakbbbpcldkaaUg
import Derived.BigQuiet
namespace Go.Proofs.Ytmdakbbbpcldkaa
open Go.RowKit
set_option maxRecDepth 100000
theorem below_dn {B : Nat} {a w : World} (h : Below B a w) (n : Nat) : Below B a (w.drewN n) := ⟨h.os, h.tape, h.output, h.size, h.block⟩
set_option maxHeartbeats 400000 in
theorem first_any (s : ByteArray) (hs : s.size ≤ maxLen) (w : World) :
    Calls Try.prog 29 #[.string s] w fun e w' => e = .returned (.tuple #[.string (fstS (aheadR ckP (bl s))), .int .i64 (fstK (aheadR ckP (bl s)) : Int), .bool (fstB (aheadR ckP (bl s)))]) ∧ Below w.heap.size w w' := by
  have hU1 := Unpack_any s ⟨#[116]⟩ hs (by decide) w
  rw [show bl ⟨#[116]⟩ = [116] from rfl] at hU1
  obtain ⟨X, eX⟩ : ∃ X, aheadR ckP (bl s) = X := ⟨_, rfl⟩
  rw [eX]
  rcases first_cases ckP (bl s) with ⟨f1, f2, f3⟩ | ⟨m, t, f1, f2, f3, f4, -, f6⟩
  · rw [f1] at hU1
    have hU2 := fun W => Unpack_any (strL ((bl s).take 0)) ⟨#[116]⟩ (by rw [strL_size]; simp) (by decide) W
    simp only [bl_strL, show bl ⟨#[116]⟩ = [116] from rfl, f2] at hU2
    have hcut : ∀ W : World, (Instr.slice 9 (.string s) none (some (.int .i64 0)) none).run Try.prog W = .ok (.string (strL ((bl s).take 0))) W := cut_ahead s 0 (Nat.zero_le _)
    obtain rfl : X = none := by rw [← eX, f3]
    have H1 := Lib.hid hU1; have H2 := Lib.hid hU2
    clear hU1 hU2 f1 f2 f3 eX
    generalize strL ((bl s).take 0) = p at H2 hcut
    generalize (unpackL (bl s) [116]).1.length = n1 at H1
    generalize (unpackL (bl s) [116]).2.2 = n2 at H1
    go_enter Try.func29, Try.ntmps29
    go_wp2_with fail
    refine H1.out.mono ?_
    rintro e w1 ⟨a, c, rfl, -, -, hb⟩
    have HB := Lib.hid hb
    clear hb H1
    go_wp2_with fail
    go_at_call_of 35 (Value.string p)
    refine (H2.out w1).mono ?_
    rintro e w2 ⟨a2, c2, rfl, -, -, hb⟩
    have HB2 := Lib.hid (HB.out.trans (hb.mono HB.out.size))
    clear hb H2 HB
    go_wp2_with fail
    go_quiet (fail)
    go_wp2_with fail
    go_ret3
    exact ⟨rfl, below_dn HB2.out _⟩
  · rw [bl_length] at f3 f6
    rw [f1] at hU1
    have hU2 := fun W => Unpack_any (strL ((bl s).take m)) ⟨#[116]⟩ (by rw [strL_size, List.length_take, bl_length]; omega) (by decide) W
    simp only [bl_strL, show bl ⟨#[116]⟩ = [116] from rfl, f2] at hU2
    have hcut := cut_ahead s m f3
    have hcut2 := cut_behind s m f3
    have hpre := pre_eq s m (ckP.f t) (ckP.four t)
    have hC := fun W => crcBytes_any t (by unfold maxLen; omega) W
    have hX : X = if preS (strL ((bl s).drop m)) (strL (ckP.f t)) = true then some (t, m + 4) else none := by
      rw [← eX, f6, hpre, bl_length]
      by_cases h : m + 4 ≤ s.size ∧ ((bl s).drop m).take 4 = ckP.f t
      · rw [if_pos h, decide_eq_true h, if_pos rfl]
      · rw [if_neg h, decide_eq_false h, if_neg (by simp)]
    have hH := fun W => hasPrefix_any (strL ((bl s).drop m)) (strL (ckP.f t)) W
    have hC2 : ∀ W, Calls Try.prog 27 #[.string t] W fun e w' => e = .returned (.string (strL (ckP.f t))) ∧ Below W.heap.size W w' := hC
    have hm4 : preS (strL ((bl s).drop m)) (strL (ckP.f t)) = true → (m : Int) + 4 ≤ 9223372036854775807 := by
      intro h
      rw [hpre] at h
      have := (of_decide_eq_true h).1
      rw [bl_length] at this
      unfold maxLen at hs; omega
    have H1 := Lib.hid hU1; have H2 := Lib.hid hU2; have HC := Lib.hid hC2; have HH := Lib.hid hH; have HX := Lib.hid hX
    clear hU1 hU2 f1 f2 f3 f4 f6 eX hpre hC hC2 hH hX
    generalize strL ((bl s).take m) = p at H2 hcut
    generalize strL ((bl s).drop m) = q at HH hcut2 HX hm4
    generalize strL (ckP.f t) = k4 at HC HH HX hm4
    generalize preS q k4 = pb at HH HX hm4
    generalize (unpackL (bl s) [116]).1.length = n1 at H1
    generalize (unpackL (bl s) [116]).2.2 = n2 at H1
    go_enter Try.func29, Try.ntmps29
    go_wp2_with fail
    refine H1.out.mono ?_
    rintro e w1 ⟨a, c, rfl, -, -, hb⟩
    have HB := Lib.hid hb
    clear hb H1
    go_wp2_with fail
    refine (H2.out w1).mono ?_
    rintro e w2 ⟨a2, c2, rfl, -, hp2, hb⟩
    obtain ⟨b, off, rfl, hlt, hc⟩ := hp2 (by simp)
    obtain ⟨-, -, c0⟩ := hc 0 (by simp)
    have HB2 := Lib.hid (HB.out.trans (hb.mono HB.out.size))
    have c2 : w2.cell? ⟨b, off + 2, none⟩ = some (.string t) := by simpa using c0
    have hS : (fun w' : World => w'.cell? ⟨b, off + 2, none⟩ = some (.string t)) w2 := c2
    have HLT := Lib.hid hlt
    clear hb H2 HB hc c0 hlt
    go_wp2_with fail
    go_region_held3 (fun w' : World => w'.cell? ⟨b, off + 2, none⟩ = some (.string t)) (first | with_reducible assumption | go_keep)
      (first
      | (go_at_call 27; refine (HC.out _).mono ?_; rintro e w3 ⟨rfl, hb⟩; have c3 : w3.cell? ⟨b, off + 2, none⟩ = some (.string t) := (by rw [hb.cell (p := ⟨b, off + 2, none⟩) HLT.out]; exact c2); have HB3 := Lib.hid (HB2.out.trans (Below.mono (show Below w2.heap.size w2 w3 from ⟨hb.os, hb.tape, hb.output, hb.size, hb.block⟩) HB2.out.size)); clear hb)
      | (go_at_call 36; refine (HH.out _).mono ?_; rintro e w4 ⟨rfl, rfl⟩))
    clear HC HH c2 hS hcut hcut2 HLT HB2
    cases pb
    · have hX : X = none := by rw [HX.out, if_neg (by simp)]
      subst hX
      clear HX hm4
      go_wp2_with fail
      go_ret3
      exact ⟨rfl, HB3.out⟩
    · have h4 : (m : Int) ≤ 9223372036854775803 := by have := hm4 rfl; omega
      clear hm4 hp2 hs
      go_wp2_with fail
      go_ret3
      rw [HX.out]
      exact ⟨by simp [fstS, fstK, fstB], HB3.out⟩
end Go.Proofs.Ytmdakbbbpcldkaa