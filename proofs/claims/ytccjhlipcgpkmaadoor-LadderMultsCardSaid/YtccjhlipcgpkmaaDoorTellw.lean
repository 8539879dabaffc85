/- The walk of the law LimbTells. -/
import Derived.Test.YtccjhlipcgpkmaaDoorDig
import Derived.Test.YtccjhlipcgpkmaaDoorLaw
namespace Go.Proofs.YtccjhlipcgpkmaaDoor
open Go.RowKit

/-- two texts in a row -/
def TwoAt (w : World) (B : Nat) (s t : ByteArray) : Prop := w.cell? ⟨B, 0, none⟩ = some (.string s) ∧ w.cell? ⟨B, 1, none⟩ = some (.string t)

set_option maxHeartbeats 1000000 in
theorem sized2_good (s t : ByteArray) (hs : s.size = 32) (ht : t.size = 32) (B : Nat) (w : World) (h2 : TwoAt w B s t) :
    Calls Tryd.prog 18 #[.slice (some ⟨B, 0, none⟩) 2 2] w fun e w' => e = .returned (.bool true) ∧ w = w' := by
  obtain ⟨c0, c1⟩ := h2
  have b1 : ((s.size : Int) != 32) = false := by rw [bne_eq_false_iff_eq]; omega
  have b2 : ((t.size : Int) != 32) = false := by rw [bne_eq_false_iff_eq]; omega
  clear hs ht
  go_enter Tryd.func18, Tryd.ntmps18
  go_wp2_with fail
  refine wp_loop_rounds 3 ?_
  rw [rounds_succ]; go_wp2_with fail
  rw [rounds_succ]; go_wp2_with fail
  rw [rounds_succ]; go_wp2_with fail
  go_ret
  exact ⟨rfl, rfl⟩

set_option maxHeartbeats 1000000 in
theorem sized2_bad (s t : ByteArray) (hn : s.size ≠ 32 ∨ t.size ≠ 32) (B : Nat) (w : World) (h2 : TwoAt w B s t) :
    Calls Tryd.prog 18 #[.slice (some ⟨B, 0, none⟩) 2 2] w fun e w' => e = .returned (.bool false) ∧ w = w' := by
  obtain ⟨c0, c1⟩ := h2
  by_cases hs : s.size = 32
  · have b1 : ((s.size : Int) != 32) = false := by rw [bne_eq_false_iff_eq]; omega
    have b2 : ((t.size : Int) != 32) = true := by rw [bne_iff_ne]; omega
    clear hs hn
    go_enter Tryd.func18, Tryd.ntmps18
    go_wp2_with fail
    refine wp_loop_rounds 3 ?_
    rw [rounds_succ]; go_wp2_with fail
    rw [rounds_succ]; go_wp2_with fail
    go_ret
    exact ⟨rfl, rfl⟩
  · have b1 : ((s.size : Int) != 32) = true := by rw [bne_iff_ne]; omega
    clear hs hn
    go_enter Tryd.func18, Tryd.ntmps18
    go_wp2_with fail
    refine wp_loop_rounds 3 ?_
    rw [rounds_succ]; go_wp2_with fail
    go_ret
    exact ⟨rfl, rfl⟩

set_option maxHeartbeats 2000000 in
theorem tells_any (a b : ByteArray) (ha : a.size ≤ maxLen) (hb : b.size ≤ maxLen) (w : World) (hP : PrimeAt w) :
    Calls Tryd.prog 3 #[.string a, .string b] w fun e w' => e = .returned (.bool true) ∧ Below w.heap.size w w' := by
  have lb := hP.lt
  have HA := Lib.hid ha; have HB := Lib.hid hb
  clear ha hb
  go_enter Tryd.func3, Tryd.ntmps3
  go_wp2_with fail
  refine (cut_any a HA.out _).mono ?_
  rintro e w0 ⟨s, rfl, hs, rfl⟩
  have HS := Lib.hid (show s.size ≤ maxLen by unfold maxLen; omega)
  clear hs
  go_wp2_with fail
  refine (cut_any b HB.out _).mono ?_
  rintro e w0 ⟨t, rfl, ht, rfl⟩
  have HT := Lib.hid (show t.size ≤ maxLen by unfold maxLen; omega)
  clear ht HA HB
  by_cases h1 : s.size = 32
  · have q1 : ((s.size : Int) == 32) = true := by rw [beq_iff_eq]; omega
    have H1 := Lib.hid h1
    clear h1
    go_wp2_with fail
    refine (norm_good s H1.out _ hP).mono ?_
    rintro e w1 ⟨rfl, hB1⟩
    have hs1 := hB1.size
    have hP1 := hP.below hB1 lb
    by_cases h2 : t.size = 32
    · have H2 := Lib.hid h2
      clear h2
      go_wp2_with fail
      refine (add_good s t H1.out H2.out _ hP1).mono ?_
      rintro e w2 ⟨rfl, hb2⟩
      have hB2 : Below w.heap.size w w2 := hB1.trans (hb2.mono hs1)
      have hs2 := hB2.size
      have hP2 := hP.below hB2 lb
      clear hb2 hB1 hs1 hP1
      go_wp2_with fail
      refine (sub_good s t H1.out H2.out _ hP2).mono ?_
      rintro e w1 ⟨rfl, hb1⟩
      have hB1 : Below w.heap.size w w1 := hB2.trans (hb1.mono hs2)
      have hs1 := hB1.size
      have hP1 := hP.below hB1 lb
      clear hb1 hB2 hs2 hP2
      go_wp2_with fail
      refine (mul_good s t H1.out H2.out _ hP1).mono ?_
      rintro e w2 ⟨rfl, hb2⟩
      have hB2 : Below w.heap.size w w2 := hB1.trans (hb2.mono hs1)
      have hs2 := hB2.size
      clear hb2 hB1 hs1 hP1
      go_wp2_with fail
      refine (digDigits s H1.out _).mono ?_
      rintro e w1 ⟨v1, rfl, D1, hb1⟩
      have hB1 : Below w.heap.size w w1 := hB2.trans (hb1.mono hs2)
      have hs1 := hB1.size
      clear hb1 hB2 hs2
      go_wp2_with fail
      refine (digLeft D1).mono ?_
      rintro e w2 ⟨v2, rfl, D2, hb2⟩
      have hB2 : Below w.heap.size w w2 := hB1.trans (hb2.mono hs1)
      have hs2 := hB2.size
      clear hb2 hB1 hs1 D1
      go_wp2_with fail
      refine (digText D2).mono ?_
      rintro e w1 ⟨rfl, hb1⟩
      have hB1 : Below w.heap.size w w1 := hB2.trans (hb1.mono hs2)
      have hs1 := hB1.size
      clear hb1 hB2 hs2 D2
      go_wp2_with fail
      refine (alive_any _ (hP.below hB1 lb)).mono ?_
      rintro e w2 ⟨rfl, hb2⟩
      have hB2 : Below w.heap.size w w2 := hB1.trans (hb2.mono hs1)
      have hs2 := hB2.size
      clear hb2 hB1 hs1
      go_wp2_with fail
      refine (sized2_good s t H1.out H2.out _ _ ⟨by simp, by simp⟩).mono ?_
      rintro e w1 ⟨rfl, rfl⟩
      have hB1 := Lib.hid (hB2.alloc hB2.size (.cells #[.string s, .string t] 9))
      go_wp2_with fail
      refine (digDigits s H1.out _).mono ?_
      rintro e w3 ⟨v1, rfl, D1, hb3⟩
      have hB3 : Below w.heap.size w w3 := hB1.out.trans (hb3.mono (by simp; omega))
      have hs3 := hB3.size
      clear hb3 hB1 hB2 hs2
      go_wp2_with fail
      refine (digDigits t H2.out _).mono ?_
      rintro e w2 ⟨v2, rfl, D2, hb2⟩
      have hB2 : Below w.heap.size w w2 := hB3.trans (hb2.mono hs3)
      have hs2 := hB2.size
      have D1' := D1.below hb2
      clear hb2 hB3 hs3 D1
      go_wp2_with fail
      refine (digAdd D1' D2).mono ?_
      rintro e w1 ⟨v3, rfl, D3, hb1⟩
      have hB1 : Below w.heap.size w w1 := hB2.trans (hb1.mono hs2)
      have hs1 := hB1.size
      have D1 := D1'.below hb1
      have D2' := D2.below hb1
      clear hb1 hB2 hs2 D1' D2
      go_wp2_with fail
      refine (digText D3).mono ?_
      rintro e w2 ⟨rfl, hb2⟩
      have hB2 : Below w.heap.size w w2 := hB1.trans (hb2.mono hs1)
      have hs2 := hB2.size
      have D1' := D1.below hb2
      have D2 := D2'.below hb2
      clear hb2 hB1 hs1 D1 D2' D3
      go_wp2_with fail
      refine (digLeft D1').mono ?_
      rintro e w1 ⟨v3, rfl, D3, hb1⟩
      have hB1 : Below w.heap.size w w1 := hB2.trans (hb1.mono hs2)
      have hs1 := hB1.size
      have D1 := D1'.below hb1
      have D2' := D2.below hb1
      clear hb1 hB2 hs2 D1' D2
      go_wp2_with fail
      refine (digLeft D2').mono ?_
      rintro e w2 ⟨v4, rfl, D4, hb2⟩
      have hB2 : Below w.heap.size w w2 := hB1.trans (hb2.mono hs1)
      have hs2 := hB2.size
      have D1' := D1.below hb2
      have D2 := D2'.below hb2
      have D3' := D3.below hb2
      clear hb2 hB1 hs1 D1 D2' D3
      go_wp2_with fail
      refine (digSub D3' D4 (pr_lt _)).mono ?_
      rintro e w1 ⟨v5, rfl, D5, hb1⟩
      have hB1 : Below w.heap.size w w1 := hB2.trans (hb1.mono hs2)
      have hs1 := hB1.size
      have D1 := D1'.below hb1
      have D2' := D2.below hb1
      clear hb1 hB2 hs2 D1' D2 D3' D4
      rw [← Int.sub_emod] at D5
      go_wp2_with fail
      refine (digText D5).mono ?_
      rintro e w2 ⟨rfl, hb2⟩
      have hB2 : Below w.heap.size w w2 := hB1.trans (hb2.mono hs1)
      have hs2 := hB2.size
      have D1' := D1.below hb2
      have D2 := D2'.below hb2
      clear hb2 hB1 hs1 D1 D2' D5
      go_wp2_with fail
      refine (digMul D1' D2).mono ?_
      rintro e w1 ⟨v3, rfl, D3, hb1⟩
      have hB1 : Below w.heap.size w w1 := hB2.trans (hb1.mono hs2)
      have hs1 := hB1.size
      clear hb1 hB2 hs2 D1' D2
      go_wp2_with fail
      refine (digText D3).mono ?_
      rintro e w2 ⟨rfl, hb2⟩
      have hB2 : Below w.heap.size w w2 := hB1.trans (hb2.mono hs1)
      clear hb2 hB1 hs1 D3
      go_wp2_with fail
      go_ret
      exact ⟨rfl, hB2⟩
    · have H2 := Lib.hid (show s.size ≠ 32 ∨ t.size ≠ 32 from Or.inr h2)
      clear h2
      go_wp2_with fail
      refine (add_bad s t H2.out HS.out HT.out _).mono ?_
      rintro e w2 ⟨rfl, hb2⟩
      have hB2 : Below w.heap.size w w2 := hB1.trans (hb2.mono hs1)
      have hs2 := hB2.size
      clear hb2 hB1 hs1 hP1
      go_wp2_with fail
      refine (sub_bad s t H2.out HS.out HT.out _).mono ?_
      rintro e w1 ⟨rfl, hb1⟩
      have hB1 : Below w.heap.size w w1 := hB2.trans (hb1.mono hs2)
      have hs1 := hB1.size
      clear hb1 hB2 hs2
      go_wp2_with fail
      refine (mul_bad s t H2.out HS.out HT.out _).mono ?_
      rintro e w2 ⟨rfl, hb2⟩
      have hB2 : Below w.heap.size w w2 := hB1.trans (hb2.mono hs1)
      have hs2 := hB2.size
      clear hb2 hB1 hs1
      go_wp2_with fail
      refine (digDigits s H1.out _).mono ?_
      rintro e w1 ⟨v1, rfl, D1, hb1⟩
      have hB1 : Below w.heap.size w w1 := hB2.trans (hb1.mono hs2)
      have hs1 := hB1.size
      clear hb1 hB2 hs2
      go_wp2_with fail
      refine (digLeft D1).mono ?_
      rintro e w2 ⟨v2, rfl, D2, hb2⟩
      have hB2 : Below w.heap.size w w2 := hB1.trans (hb2.mono hs1)
      have hs2 := hB2.size
      clear hb2 hB1 hs1 D1
      go_wp2_with fail
      refine (digText D2).mono ?_
      rintro e w1 ⟨rfl, hb1⟩
      have hB1 : Below w.heap.size w w1 := hB2.trans (hb1.mono hs2)
      have hs1 := hB1.size
      clear hb1 hB2 hs2 D2
      go_wp2_with fail
      refine (alive_any _ (hP.below hB1 lb)).mono ?_
      rintro e w2 ⟨rfl, hb2⟩
      have hB2 : Below w.heap.size w w2 := hB1.trans (hb2.mono hs1)
      have hs2 := hB2.size
      clear hb2 hB1 hs1
      go_wp2_with fail
      refine (sized2_bad s t H2.out _ _ ⟨by simp, by simp⟩).mono ?_
      rintro e w1 ⟨rfl, rfl⟩
      have hB1 := Lib.hid (hB2.alloc hB2.size (.cells #[.string s, .string t] 9))
      have n0 : (({ data := #[] } : ByteArray) ++ { data := #[] } ++ { data := #[] }).toList.isEmpty = true := by decide +kernel
      go_wp2_with fail
      go_ret
      exact ⟨rfl, hB1.out⟩
  · have q1 : ((s.size : Int) == 32) = false := by rw [beq_eq_false_iff_ne]; omega
    have H1 := Lib.hid h1
    have H2 := Lib.hid (show s.size ≠ 32 ∨ t.size ≠ 32 from Or.inl h1)
    clear h1
    go_wp2_with fail
    refine (norm_bad s H1.out HS.out _).mono ?_
    rintro e w1 ⟨rfl, hB1⟩
    have hs1 := hB1.size
    go_wp2_with fail
    refine (add_bad s t H2.out HS.out HT.out _).mono ?_
    rintro e w2 ⟨rfl, hb2⟩
    have hB2 : Below w.heap.size w w2 := hB1.trans (hb2.mono hs1)
    have hs2 := hB2.size
    clear hb2 hB1 hs1
    go_wp2_with fail
    refine (sub_bad s t H2.out HS.out HT.out _).mono ?_
    rintro e w1 ⟨rfl, hb1⟩
    have hB1 : Below w.heap.size w w1 := hB2.trans (hb1.mono hs2)
    have hs1 := hB1.size
    clear hb1 hB2 hs2
    go_wp2_with fail
    refine (mul_bad s t H2.out HS.out HT.out _).mono ?_
    rintro e w2 ⟨rfl, hb2⟩
    have hB2 : Below w.heap.size w w2 := hB1.trans (hb2.mono hs1)
    have hs2 := hB2.size
    clear hb2 hB1 hs1
    go_wp2_with fail
    refine (alive_any _ (hP.below hB2 lb)).mono ?_
    rintro e w1 ⟨rfl, hb1⟩
    have hB1 : Below w.heap.size w w1 := hB2.trans (hb1.mono hs2)
    have hs1 := hB1.size
    clear hb1 hB2 hs2
    go_wp2_with fail
    refine (sized2_bad s t H2.out _ _ ⟨by simp, by simp⟩).mono ?_
    rintro e w2 ⟨rfl, rfl⟩
    have hB2 := Lib.hid (hB1.alloc hB1.size (.cells #[.string s, .string t] 9))
    have n0 : (({ data := #[] } : ByteArray) ++ { data := #[] } ++ { data := #[] }).toList.isEmpty = true := by decide +kernel
    go_wp2_with fail
    go_ret
    exact ⟨rfl, hB2.out⟩
end Go.Proofs.YtccjhlipcgpkmaaDoor
