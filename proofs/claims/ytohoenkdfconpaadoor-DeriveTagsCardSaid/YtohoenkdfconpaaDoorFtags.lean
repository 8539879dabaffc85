/- DeriveTags: any text's tag, by any key, and whether any two texts are one, is as the document says. -/
import Derived.Test.YtohoenkdfconpaaDoorFref
import Derived.Test.YtohoenkdfconpaaDoorFsame
import Derived.Test.YtohoenkdfconpaaDoorFlaw
namespace Go.Proofs.YtohoenkdfconpaaDoor
open Go.RowKit
set_option maxRecDepth 100000

set_option maxHeartbeats 4000000 in
theorem deriveTags_any (k s t : ByteArray) (hk : k.size ≤ maxLen) (hs : s.size ≤ maxLen) (ht : t.size ≤ maxLen) (w : World) (hF : FirstAt w) (hK : KeysAt w) :
    Calls Tryd.prog 7 #[.string k, .string s, .string t] w fun e w' => e = .returned (.bool true) ∧ Below w.heap.size w w' := by
  have h1 := cutd_any k hk
  have h2 := cutd_any s hs
  have hb1 := cutS_size k 150
  have hb2 := cutS_size s 150
  obtain ⟨x, hx⟩ : ∃ x, cutS k 150 = x := ⟨_, rfl⟩
  obtain ⟨y, hy⟩ : ∃ y, cutS s 150 = y := ⟨_, rfl⟩
  rw [hx] at h1 hb1
  rw [hy] at h2 hb2
  have hrt := fun kv W h => reftag_any kv x y (by omega) (by omega) W h
  have htg := fun W a b => tagd_any x y (by omega) (by omega) W a b
  have hex := fun W a b => extract_any x y (by omega) (by omega) W a b
  obtain ⟨S, hS⟩ : ∃ S, strL (tagL (bl x) (bl y)) = S := ⟨_, rfl⟩
  rw [hS] at hrt htg hex
  have hsm := fun W => samed_any y t (by unfold maxLen; omega) ht W
  have hsm2 := fun W => samed_any t t ht ht W
  have hdt : decide (t = t) = true := by simp
  rw [hdt] at hsm2
  have heq : (y.toList == t.toList) = decide (y = t) := by
    rw [Bool.eq_iff_iff, beq_iff_eq, decide_eq_true_iff, Lib.toList_data, Lib.toList_data]
    exact ⟨fun h => bl_inj h, fun h => by rw [h]⟩
  obtain ⟨r, hr⟩ : ∃ r, decide (y = t) = r := ⟨_, rfl⟩
  rw [hr] at hsm heq
  have H1 := Lib.hid h1; have H2 := Lib.hid h2; have HRT := Lib.hid hrt; have HTG := Lib.hid htg; have HEX := Lib.hid hex; have HSM := Lib.hid hsm; have HSM2 := Lib.hid hsm2
  clear h1 h2 hb1 hb2 hx hy hrt htg hex hS hsm hsm2 hdt hr hk hs ht
  go_enter Tryd.func7, Tryd.ntmps7
  go_wp2_with (go_at_call 26; (first | with_reducible refine (H1.out _).mono ?_ | with_reducible refine (H2.out _).mono ?_); rintro e w' ⟨rfl, rfl⟩)
  refine (numbers_all _).mono ?_
  rintro e w1 ⟨kv, rfl, hKA, hb1⟩
  have hF1 := hF.on hb1
  have hK1 := hK.on hb1
  go_wp2_with fail
  refine (HRT.out kv _ hKA).mono ?_
  rintro e w2 ⟨rfl, hb2⟩
  have hF2 := hF1.on hb2
  have hK2 := hK1.on hb2
  have hB2 := hb1.trans (hb2.mono hb1.size)
  clear hKA hF1 hK1 hb1 hb2 HRT
  have hF2 := Lib.hid hF2; have hK2 := Lib.hid hK2
  go_wp2_with fail
  refine (alived_any _ hF2.out hK2.out).mono ?_
  rintro e w3 ⟨rfl, hb3⟩
  have hF3 := Lib.hid (hF2.out.on hb3); have hK3 := Lib.hid (hK2.out.on hb3)
  have hB3 := hB2.trans (hb3.mono hB2.size)
  clear hb3 hB2 hF2 hK2
  go_wp2_with fail
  refine (HTG.out _ hF3.out hK3.out).mono ?_
  rintro e w4 ⟨rfl, hb4⟩
  have hF4 := Lib.hid (hF3.out.on hb4); have hK4 := Lib.hid (hK3.out.on hb4)
  have hB4 := hB3.trans (hb4.mono hB3.size)
  clear hb4 hB3 hF3 hK3 HTG
  go_wp2_with fail
  refine (HEX.out _ hF4.out hK4.out).mono ?_
  rintro e w5 ⟨rfl, hb5⟩
  have hB5 := hB4.trans (hb5.mono hB4.size)
  clear hb5 hB4 hF4 hK4 HEX
  go_wp2_with fail
  refine (HSM.out _).mono ?_
  rintro e w6 ⟨rfl, rfl⟩
  go_wp2_with fail
  refine (HSM2.out _).mono ?_
  rintro e w6 ⟨rfl, rfl⟩
  go_wp2_with fail
  go_ret
  exact ⟨by first | rfl | simp, hB5⟩
end Go.Proofs.YtohoenkdfconpaaDoor
