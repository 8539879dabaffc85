/- The walk of the law LimbField where a text has not 32 bytes. -/
import Derived.Test.YtccjhlipcgpkmaaDoorLaw
namespace Go.Proofs.YtccjhlipcgpkmaaDoor
open Go.RowKit

set_option maxRecDepth 100000 in
set_option maxHeartbeats 1000000 in
theorem field_bad (a b c : ByteArray) (hn : ¬ (a.size = 32 ∧ b.size = 32 ∧ c.size = 32)) (hma : a.size ≤ maxLen) (hmb : b.size ≤ maxLen) (w : World) (hP : PrimeAt w) :
    Calls Tryd.prog 5 #[.string a, .string b, .string c] w fun e w' => e = .returned (.bool true) ∧ Below w.heap.size w w' := by
  have HN := Lib.hid hn
  clear hn
  have lb := hP.lt
  have HB := Lib.hid hmb
  clear hmb
  go_enter Tryd.func5, Tryd.ntmps5
  go_wp2_with fail
  refine (sized3_bad a b c HN.out _ _ ?_).mono ?_
  · exact ⟨by simp, by simp, by simp⟩
  rintro e w1 ⟨rfl, rfl⟩
  go_wp2_with fail
  · refine (mul_bad _ _ (Or.inl (by rw [ByteArray.size_extract]; omega)) (by rw [ByteArray.size_extract]; unfold maxLen; omega) HB.out _).mono ?_
    rintro e w2 ⟨rfl, hb2⟩
    have hB2 : Below w.heap.size w w2 := Below.trans (by go_grown) (hb2.mono (by simp))
    clear hb2
    have hs2 := hB2.size
    go_wp2_with fail
    refine (alive_any _ (hP.below hB2 lb)).mono ?_
    rintro e w3 ⟨rfl, hb3⟩
    go_wp2_with fail
    go_ret
    exact ⟨rfl, hB2.trans (hb3.mono hs2)⟩
  · refine (mul_bad _ _ (Or.inl (by omega)) hma HB.out _).mono ?_
    rintro e w2 ⟨rfl, hb2⟩
    have hB2 : Below w.heap.size w w2 := Below.trans (by go_grown) (hb2.mono (by simp))
    clear hb2
    have hs2 := hB2.size
    go_wp2_with fail
    refine (alive_any _ (hP.below hB2 lb)).mono ?_
    rintro e w3 ⟨rfl, hb3⟩
    go_wp2_with fail
    go_ret
    exact ⟨rfl, hB2.trans (hb3.mono hs2)⟩
end Go.Proofs.YtccjhlipcgpkmaaDoor
