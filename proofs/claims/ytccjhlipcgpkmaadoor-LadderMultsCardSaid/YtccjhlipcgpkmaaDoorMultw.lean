/- The walk of the law LadderMults. -/
import Derived.Test.YtccjhlipcgpkmaaDoorMbase
import Derived.Test.YtccjhlipcgpkmaaDoorTellw
namespace Go.Proofs.YtccjhlipcgpkmaaDoor
open Go.RowKit Go.PlainAid

set_option maxHeartbeats 2000000 in
theorem mults_any (a b : ByteArray) (_ha : a.size ≤ maxLen) (_hb : b.size ≤ maxLen) (w : World) (hP : PrimeAt w) :
    Calls Tryd.prog 6 #[.string a, .string b] w fun e w' => e = .returned (.bool true) ∧ Below w.heap.size w w' := by
  have lb := hP.lt
  go_enter Tryd.func6, Tryd.ntmps6
  go_wp2_with fail
  refine (cut2_any a _).mono ?_
  rintro e w0 ⟨k, rfl, hk34, rfl⟩
  go_wp2_with fail
  refine (cut2_any b _).mono ?_
  rintro e w0 ⟨u, rfl, hu34, rfl⟩
  clear hk34 hu34
  by_cases hk : k.size = 32
  · have q1 : ((k.size : Int) == 32) = true := by rw [beq_iff_eq]; omega
    have HK := Lib.hid hk
    clear hk
    go_wp2_with fail
    refine (clamp_good k HK.out _).mono ?_
    rintro e w1 ⟨rfl, hB1⟩
    have hs1 := hB1.size
    have hP1 := hP.below hB1 lb
    go_wp2_with fail
    refine (base_good k HK.out _ hP1).mono ?_
    rintro e w2 ⟨rfl, hb2⟩
    have hB2 := hB1.trans (hb2.mono hs1)
    have hs2 := hB2.size
    have hP2 := hP.below hB2 lb
    clear hb2 hB1 hs1 hP1
    by_cases hu : u.size = 32
    · have HU := Lib.hid hu
      clear hu
      go_wp2_with fail
      refine (mult_good k u HK.out HU.out _ hP2).mono ?_
      rintro e w3 ⟨rfl, hb3⟩
      have hB3 := hB2.trans (hb3.mono hs2)
      have hs3 := hB3.size
      clear hb3 hB2 hs2 hP2
      go_wp2_with fail
      refine (refClamp_any k HK.out _).mono ?_
      rintro e w4 ⟨rfl, hb4⟩
      have hB4 := hB3.trans (hb4.mono hs3)
      have hs4 := hB4.size
      clear hb4 hB3 hs3
      go_wp2_with fail
      refine (refBase_any k HK.out _).mono ?_
      rintro e w5 ⟨rfl, hb5⟩
      have hB5 := hB4.trans (hb5.mono hs4)
      have hs5 := hB5.size
      clear hb5 hB4 hs4
      go_wp2_with fail
      refine (alive2_any _).mono ?_
      rintro e w6 ⟨rfl, hb6⟩
      have hB6 := hB5.trans (hb6.mono hs5)
      have hs6 := hB6.size
      clear hb6 hB5 hs5
      go_wp2_with fail
      refine (sized2_good k u HK.out HU.out _ _ ⟨by simp, by simp⟩).mono ?_
      rintro e w7 ⟨rfl, rfl⟩
      have hB7 := Lib.hid (hB6.alloc hB6.size (.cells #[.string k, .string u] 9))
      go_wp2_with fail
      refine (refMult_any k u HK.out HU.out _).mono ?_
      rintro e w8 ⟨rfl, hb8⟩
      have hB8 := hB7.out.trans (hb8.mono (by simp; omega))
      clear hb8 hB7 hB6
      go_wp2_with fail
      go_ret
      exact ⟨rfl, hB8⟩
    · have HU := Lib.hid (show k.size ≠ 32 ∨ u.size ≠ 32 from Or.inr hu)
      clear hu
      go_wp2_with fail
      refine (mult_bad k u HU.out _).mono ?_
      rintro e w3 ⟨rfl, hb3⟩
      have hB3 := hB2.trans (hb3.mono hs2)
      have hs3 := hB3.size
      clear hb3 hB2 hs2 hP2
      go_wp2_with fail
      refine (refClamp_any k HK.out _).mono ?_
      rintro e w4 ⟨rfl, hb4⟩
      have hB4 := hB3.trans (hb4.mono hs3)
      have hs4 := hB4.size
      clear hb4 hB3 hs3
      go_wp2_with fail
      refine (refBase_any k HK.out _).mono ?_
      rintro e w5 ⟨rfl, hb5⟩
      have hB5 := hB4.trans (hb5.mono hs4)
      have hs5 := hB5.size
      clear hb5 hB4 hs4
      go_wp2_with fail
      refine (alive2_any _).mono ?_
      rintro e w6 ⟨rfl, hb6⟩
      have hB6 := hB5.trans (hb6.mono hs5)
      have hs6 := hB6.size
      clear hb6 hB5 hs5
      go_wp2_with fail
      refine (sized2_bad k u HU.out _ _ ⟨by simp, by simp⟩).mono ?_
      rintro e w7 ⟨rfl, rfl⟩
      have hB7 := Lib.hid (hB6.alloc hB6.size (.cells #[.string k, .string u] 9))
      go_wp2_with fail
      go_ret
      exact ⟨rfl, hB7.out⟩
  · have q1 : ((k.size : Int) == 32) = false := by rw [beq_eq_false_iff_ne]; omega
    have HK := Lib.hid hk
    have HU := Lib.hid (show k.size ≠ 32 ∨ u.size ≠ 32 from Or.inl hk)
    clear hk
    go_wp2_with fail
    refine (clamp_bad k HK.out _).mono ?_
    rintro e w1 ⟨rfl, hB1⟩
    have hs1 := hB1.size
    go_wp2_with fail
    refine (base_bad k HK.out _).mono ?_
    rintro e w2 ⟨rfl, hb2⟩
    have hB2 := hB1.trans (hb2.mono hs1)
    have hs2 := hB2.size
    clear hb2 hB1 hs1
    go_wp2_with fail
    refine (mult_bad k u HU.out _).mono ?_
    rintro e w3 ⟨rfl, hb3⟩
    have hB3 := hB2.trans (hb3.mono hs2)
    have hs3 := hB3.size
    clear hb3 hB2 hs2
    have n0 : (({ data := #[] } : ByteArray) ++ { data := #[] }).toList.isEmpty = true := by decide +kernel
    go_wp2_with fail
    refine (alive2_any _).mono ?_
    rintro e w4 ⟨rfl, hb4⟩
    have hB4 := hB3.trans (hb4.mono hs3)
    have hs4 := hB4.size
    clear hb4 hB3 hs3
    go_wp2_with fail
    refine (sized2_bad k u HU.out _ _ ⟨by simp, by simp⟩).mono ?_
    rintro e w5 ⟨rfl, rfl⟩
    have hB5 := Lib.hid (hB4.alloc hB4.size (.cells #[.string k, .string u] 9))
    go_wp2_with fail
    go_ret
    exact ⟨rfl, hB5.out⟩
end Go.Proofs.YtccjhlipcgpkmaaDoor
