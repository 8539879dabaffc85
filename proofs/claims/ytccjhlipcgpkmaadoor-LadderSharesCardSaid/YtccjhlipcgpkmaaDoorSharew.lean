/- The walk of the law LadderShares. -/
import Derived.Test.YtccjhlipcgpkmaaDoorShareb
namespace Go.Proofs.YtccjhlipcgpkmaaDoor
open Go.RowKit Go.PlainAid

set_option maxHeartbeats 2000000 in
theorem shares_any (a b : ByteArray) (_ha : a.size ≤ maxLen) (_hb : b.size ≤ maxLen) (w : World) (hP : PrimeAt w) :
    Calls Tryd.prog 7 #[.string a, .string b] w fun e w' => e = .returned (.bool true) ∧ Below w.heap.size w w' := by
  have lb := hP.lt
  go_enter Tryd.func7, Tryd.ntmps7
  go_wp2_with fail
  refine (cut2_any a _).mono ?_
  rintro e w0 ⟨k, rfl, hk34, rfl⟩
  go_wp2_with fail
  refine (cut2_any b _).mono ?_
  rintro e w0 ⟨u, rfl, hu34, rfl⟩
  clear hk34 hu34
  by_cases hk : k.size = 32
  · have q1 : ((k.size : Int) != 32) = false := by rw [bne_eq_false_iff_eq]; omega
    have HK := Lib.hid hk
    clear hk
    go_wp2_with fail
    refine (base_good k HK.out _ hP).mono ?_
    rintro e w1 ⟨rfl, hB1⟩
    have hs1 := hB1.size
    have hP1 := hP.below hB1 lb
    by_cases hu : u.size = 32
    · have q2 : ((u.size : Int) != 32) = false := by rw [bne_eq_false_iff_eq]; omega
      have HU := Lib.hid hu
      clear hu
      go_wp2_with fail
      refine (base_good u HU.out _ hP1).mono ?_
      rintro e w2 ⟨rfl, hb2⟩
      have hB2 := hB1.trans (hb2.mono hs1)
      have hs2 := hB2.size
      have hP2 := hP.below hB2 lb
      clear hb2 hB1 hs1 hP1
      have HM := mult_good k (leStr (multN u (leStr 9))) HK.out (leStr_size _) w2 hP2
      rw [mult_shares k u] at HM
      obtain ⟨z, hz⟩ : ∃ z, multN u (leStr (multN k (leStr 9))) = z := ⟨_, rfl⟩
      rw [hz] at HM
      have HM1 := Lib.hid HM
      clear HM
      go_wp2_with fail
      refine HM1.out.mono ?_
      rintro e w3 ⟨rfl, hb3⟩
      have hB3 := hB2.trans (hb3.mono hs2)
      have hs3 := hB3.size
      have HM := mult_good u (leStr (multN k (leStr 9))) HU.out (leStr_size _) w3 (hP.below hB3 lb)
      rw [hz] at HM
      have HM2 := Lib.hid HM
      clear HM hb3 hB2 hs2 hP2 HM1
      go_wp2_with fail
      refine HM2.out.mono ?_
      rintro e w4 ⟨rfl, hb4⟩
      have hB4 := hB3.trans (hb4.mono hs3)
      have hs4 := hB4.size
      clear hb4 hB3 hs3 HM2
      have hsz : (leStr z).size = 32 := leStr_size z
      have q3 : (((leStr z).size : Int) == 32) = true := by rw [hsz]; rfl
      go_wp2_with fail
      refine (alive2_any _).mono ?_
      rintro e w5 ⟨rfl, hb5⟩
      have hB5 := hB4.trans (hb5.mono hs4)
      clear hb5 hB4
      go_wp2_with fail
      go_ret
      exact ⟨rfl, hB5⟩
    · have q2 : ((u.size : Int) != 32) = true := by rw [bne_iff_ne]; omega
      have HU := Lib.hid hu
      clear hu
      go_wp2_with fail
      refine (base_bad u HU.out _).mono ?_
      rintro e w2 ⟨rfl, hb2⟩
      have hB2 := hB1.trans (hb2.mono hs1)
      have hs2 := hB2.size
      clear hb2 hB1 hs1 hP1
      go_wp2_with fail
      refine (alive2_any _).mono ?_
      rintro e w3 ⟨rfl, hb3⟩
      have hB3 := hB2.trans (hb3.mono hs2)
      clear hb3 hB2
      go_wp2_with fail
      go_ret
      exact ⟨rfl, hB3⟩
  · have q1 : ((k.size : Int) != 32) = true := by rw [bne_iff_ne]; omega
    have HK := Lib.hid hk
    clear hk
    go_wp2_with fail
    refine (base_bad k HK.out _).mono ?_
    rintro e w1 ⟨rfl, hB1⟩
    have hs1 := hB1.size
    have hP1 := hP.below hB1 lb
    by_cases hu : u.size = 32
    · have HU := Lib.hid hu
      clear hu
      go_wp2_with fail
      refine (base_good u HU.out _ hP1).mono ?_
      rintro e w2 ⟨rfl, hb2⟩
      have hB2 := hB1.trans (hb2.mono hs1)
      have hs2 := hB2.size
      clear hb2 hB1 hs1 hP1
      go_wp2_with fail
      refine (alive2_any _).mono ?_
      rintro e w3 ⟨rfl, hb3⟩
      have hB3 := hB2.trans (hb3.mono hs2)
      clear hb3 hB2
      go_wp2_with fail
      go_ret
      exact ⟨rfl, hB3⟩
    · have HU := Lib.hid hu
      clear hu
      go_wp2_with fail
      refine (base_bad u HU.out _).mono ?_
      rintro e w2 ⟨rfl, hb2⟩
      have hB2 := hB1.trans (hb2.mono hs1)
      have hs2 := hB2.size
      clear hb2 hB1 hs1 hP1
      go_wp2_with fail
      refine (alive2_any _).mono ?_
      rintro e w3 ⟨rfl, hb3⟩
      have hB3 := hB2.trans (hb3.mono hs2)
      clear hb3 hB2
      go_wp2_with fail
      go_ret
      exact ⟨rfl, hB3⟩
end Go.Proofs.YtccjhlipcgpkmaaDoor
