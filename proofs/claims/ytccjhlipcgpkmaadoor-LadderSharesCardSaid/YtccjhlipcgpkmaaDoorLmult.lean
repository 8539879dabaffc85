/- What the ladder's exported functions tell. -/
import Derived.Test.YtccjhlipcgpkmaaDoorLtimes
namespace Go.Proofs.YtccjhlipcgpkmaaDoor
open Go.RowKit Go.PlainAid

/-- the point u times the key k -/
def multN (k u : ByteArray) : Int := ladOut (leNum (pointB u) % Pr) (bitsUp (clampB k) 255)

set_option maxHeartbeats 1000000 in
theorem clamp_good (k : ByteArray) (hk : k.size = 32) (w : World) :
    Calls Tryd.prog 27 #[.string k] w fun e w' => e = .returned (.tuple #[.string (clampB k), .int .i64 0]) ∧ Below w.heap.size w w' := by
  have q1 : ((k.size : Int) != 32) = false := by rw [bne_eq_false_iff_eq]; omega
  have HK := Lib.hid hk
  clear hk
  go_enter Tryd.func27, Tryd.ntmps27
  go_wp2_with fail
  refine (clamped_any k HK.out _).mono ?_
  rintro e w1 ⟨rfl, hb1⟩
  go_wp2_with fail
  go_ret2
  exact ⟨rfl, hb1⟩
set_option maxHeartbeats 1000000 in
theorem clamp_bad (k : ByteArray) (hk : k.size ≠ 32) (w : World) :
    Calls Tryd.prog 27 #[.string k] w (StrBad w) := by
  have q1 : ((k.size : Int) != 32) = true := by rw [bne_iff_ne]; omega
  go_enter Tryd.func27, Tryd.ntmps27
  go_wp2_with fail
  go_ret2
  exact ⟨rfl, Below.refl _ _⟩

set_option maxHeartbeats 1000000 in
theorem mult_good (k u : ByteArray) (hk : k.size = 32) (hu : u.size = 32) (w : World) (hP : PrimeAt w) :
    Calls Tryd.prog 29 #[.string k, .string u] w (StrOk (multN k u) w) := by
  have lb := hP.lt
  have q1 : ((k.size : Int) != 32) = false := by rw [bne_eq_false_iff_eq]; omega
  have q2 : ((u.size : Int) != 32) = false := by rw [bne_eq_false_iff_eq]; omega
  have HK := Lib.hid hk; have HU := Lib.hid hu
  clear hk hu
  go_enter Tryd.func29, Tryd.ntmps29
  go_wp2_with fail
  refine (clamped_any k HK.out _).mono ?_
  rintro e w1 ⟨rfl, hB1⟩
  have hs1 := hB1.size
  have hP1 := hP.below hB1 lb
  go_wp2_with fail
  refine (ofPoint_any u HU.out _ hP1).mono ?_
  rintro e w2 ⟨rfl, hb2⟩
  have hB2 := hB1.trans (hb2.mono hs1)
  have hs2 := hB2.size
  have HT := Lib.hid (ladder_times (clampB k) (row32_size _) (Rd.mod (leNum (pointB u))) w2 (hP.below hB2 lb))
  clear hb2 hB1 hs1 hP1
  go_wp2_with fail
  refine HT.out.mono ?_
  rintro e w3 ⟨rfl, hb3⟩
  have hB3 := hB2.trans (hb3.mono hs2)
  clear hb3 hB2 HT
  go_wp2_with fail
  go_ret2
  exact ⟨rfl, hB3⟩
set_option maxHeartbeats 1000000 in
theorem mult_bad (k u : ByteArray) (h : k.size ≠ 32 ∨ u.size ≠ 32) (w : World) :
    Calls Tryd.prog 29 #[.string k, .string u] w (StrBad w) := by
  by_cases hk : k.size = 32
  · have q1 : ((k.size : Int) != 32) = false := by rw [bne_eq_false_iff_eq]; omega
    have q2 : ((u.size : Int) != 32) = true := by rw [bne_iff_ne]; omega
    clear hk h
    go_enter Tryd.func29, Tryd.ntmps29
    go_wp2_with fail
    go_ret2
    exact ⟨rfl, Below.refl _ _⟩
  · have q1 : ((k.size : Int) != 32) = true := by rw [bne_iff_ne]; omega
    clear hk h
    go_enter Tryd.func29, Tryd.ntmps29
    go_wp2_with fail
    go_ret2
    exact ⟨rfl, Below.refl _ _⟩
set_option maxHeartbeats 1000000 in
theorem base_good (k : ByteArray) (hk : k.size = 32) (w : World) (hP : PrimeAt w) :
    Calls Tryd.prog 28 #[.string k] w (StrOk (multN k (leStr 9)) w) := by
  have H := mult_good k (leStr 9) hk (leStr_size 9) w hP
  rw [← nine_str] at H ⊢
  have HM := Lib.hid H
  clear H
  go_enter Tryd.func28, Tryd.ntmps28
  go_wp2_with fail
  refine HM.out.mono ?_
  rintro e w1 ⟨rfl, hb1⟩
  go_wp2_with fail
  go_ret2
  exact ⟨rfl, hb1⟩
set_option maxHeartbeats 1000000 in
theorem base_bad (k : ByteArray) (hk : k.size ≠ 32) (w : World) :
    Calls Tryd.prog 28 #[.string k] w (StrBad w) := by
  have HM := Lib.hid (mult_bad k ⟨#[9, 0, 0, 0, 0, 0, 0, 0, 0, 0, 0, 0, 0, 0, 0, 0, 0, 0, 0, 0, 0, 0, 0, 0, 0, 0, 0, 0, 0, 0, 0, 0]⟩ (Or.inl hk) w)
  clear hk
  go_enter Tryd.func28, Tryd.ntmps28
  go_wp2_with fail
  refine HM.out.mono ?_
  rintro e w1 ⟨rfl, hb1⟩
  go_wp2_with fail
  go_ret2
  exact ⟨rfl, hb1⟩

set_option maxHeartbeats 1000000 in
theorem cut2_any (s : ByteArray) (w : World) :
    Calls Tryd.prog 26 #[.string s] w fun e w' => ∃ t : ByteArray, e = .returned (.string t) ∧ t.size ≤ 34 ∧ w = w' := by
  go_enter Tryd.func26, Tryd.ntmps26
  go_wp2_with fail
  all_goals go_ret
  · exact ⟨_, rfl, by rw [ByteArray.size_extract]; omega, rfl⟩
  · exact ⟨_, rfl, by omega, rfl⟩
end Go.Proofs.YtccjhlipcgpkmaaDoor
