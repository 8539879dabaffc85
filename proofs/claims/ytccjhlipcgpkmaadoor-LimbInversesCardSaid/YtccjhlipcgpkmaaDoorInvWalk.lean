/- The walk of the law LimbInverses. -/
import Derived.Test.YtccjhlipcgpkmaaDoorRefv
import Derived.Test.YtccjhlipcgpkmaaDoorLaw
namespace Go.Proofs.YtccjhlipcgpkmaaDoor
open Go.RowKit

set_option maxHeartbeats 1000000 in
theorem inverses_any (s : ByteArray) (hs : s.size ≤ maxLen) (w : World) (hP : PrimeAt w) :
    Calls Tryd.prog 4 #[.string s] w fun e w' => e = .returned (.bool true) ∧ Below w.heap.size w w' := by
  have lb := hP.lt
  have HS := Lib.hid hs
  clear hs
  go_enter Tryd.func4, Tryd.ntmps4
  go_wp2_with fail
  refine (cut_any s HS.out _).mono ?_
  rintro e w0 ⟨t, rfl, ht, rfl⟩
  have HT := Lib.hid ht
  clear ht
  by_cases h32 : t.size = 32
  · have q1 : ((t.size : Int) != 32) = false := by rw [bne_eq_false_iff_eq]; omega
    have H32 := Lib.hid h32
    clear h32
    go_wp2_with fail
    refine (inv_good t H32.out _ hP).mono ?_
    rintro e w1 ⟨rfl, hb1⟩
    have hs1 := hb1.size
    go_wp2_with fail
    refine (alive_any _ (hP.below hb1 lb)).mono ?_
    rintro e w2 ⟨rfl, hb2⟩
    have hB2 : Below w.heap.size w w2 := hb1.trans (hb2.mono hs1)
    have hs2 := hB2.size
    clear hb1 hb2
    go_wp2_with fail
    refine (digits_any t H32.out _).mono ?_
    rintro e w3 ⟨v3, rfl, hI3, hb3⟩
    have hB3 : Below w.heap.size w w3 := hB2.trans (hb3.mono hs2)
    have hs3 := hB3.size
    have hl := left_ref_any v3 _ (digs_length t 16) (fun d hd => by have := digs_small t 16 d hd; omega) w3 (hI3.at (by rw [digs_length]; omega))
    rw [digs_val t H32.out] at hl
    have HL := Lib.hid hl
    clear hl hb3 hI3 hB2
    go_wp2_with fail
    refine HL.out.mono ?_
    rintro e w4 ⟨v4, out4, rfl, l4, s4, e4, hI4, hb4⟩
    have hB4 : Below w.heap.size w w4 := hB3.trans (hb4.mono hs3)
    have hs4 := hB4.size
    have hi := refInv_any v4 out4 l4 s4 w4 (hI4.at (by rw [l4]; omega))
    rw [e4, pow_left] at hi
    have HI := Lib.hid hi
    clear hi hb4 hI4 hB3 HL e4
    go_wp2_with fail
    refine HI.out.mono ?_
    rintro e w5 ⟨v5, out5, rfl, l5, s5, e5, hI5, hb5⟩
    have hB5 : Below w.heap.size w w5 := hB4.trans (hb5.mono hs4)
    have hs5 := hB5.size
    have htx := text_any v5 out5 l5 s5 w5 (hI5.at (by rw [l5]; omega))
    rw [e5] at htx
    have HX := Lib.hid htx
    clear htx hb5 hI5 hB4 HI e5
    go_wp2_with fail
    refine HX.out.mono ?_
    rintro e w6 ⟨rfl, hb6⟩
    have hB6 : Below w.heap.size w w6 := hB5.trans (hb6.mono hs5)
    clear hb6 hB5
    go_wp2_with fail
    go_ret
    exact ⟨rfl, hB6⟩
  · have q1 : ((t.size : Int) != 32) = true := by rw [bne_iff_ne]; omega
    have H32 := Lib.hid h32
    clear h32
    go_wp2_with fail
    refine (inv_bad t H32.out (by have := HT.out; unfold maxLen; omega) _).mono ?_
    rintro e w1 ⟨rfl, hb1⟩
    have hs1 := hb1.size
    go_wp2_with fail
    refine (alive_any _ (hP.below hb1 lb)).mono ?_
    rintro e w2 ⟨rfl, hb2⟩
    have hB2 : Below w.heap.size w w2 := hb1.trans (hb2.mono hs1)
    clear hb1 hb2
    go_wp2_with fail
    go_ret
    exact ⟨rfl, hB2⟩
end Go.Proofs.YtccjhlipcgpkmaaDoor
