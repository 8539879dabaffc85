/- HelloTells and HelloAnswers: the secret of any keys and points, by who begins, and by who is asked, is as the document says, or refused. -/
import Derived.Test.YtnfhfibbaeiglaaGreatDoorWg
import Derived.Test.YtnfhfibbaeiglaaGreatDoorWd
import Derived.Test.YtnfhfibbaeiglaaGreatDoorBg7
namespace Go.Proofs.YtnfhfibbaeiglaaGreatDoor
open Go.RowKit
set_option maxRecDepth 100000

set_option maxHeartbeats 4000000 in
theorem helloTells_bad (i0 b0 p0 s0 o0 : ByteArray) (hi0 : i0.size ≤ maxLen) (hb0 : b0.size ≤ maxLen) (hp0 : p0.size ≤ maxLen) (hs0 : s0.size ≤ maxLen) (ho0 : o0.size ≤ maxLen) (hm : ¬ (mayH (cutH i0 34) (cutH b0 34) (cutH p0 34) (cutH s0 34) (cutH o0 34))) (w : World) (hT : TriAt w) :
    Calls Tryz.prog 3 #[.string i0, .string b0, .string p0, .string s0, .string o0] w fun e w' => e = .returned (.bool true) ∧ Below w.heap.size w w' := by
  have hc_i := cut11_any i0 hi0
  have hc_b := cut11_any b0 hb0
  have hc_p := cut11_any p0 hp0
  have hc_s := cut11_any s0 hs0
  have hc_o := cut11_any o0 ho0
  obtain ⟨i, e_i⟩ : ∃ i, cutH i0 34 = i := ⟨_, rfl⟩
  obtain ⟨b, e_b⟩ : ∃ b, cutH b0 34 = b := ⟨_, rfl⟩
  obtain ⟨p, e_p⟩ : ∃ p, cutH p0 34 = p := ⟨_, rfl⟩
  obtain ⟨s, e_s⟩ : ∃ s, cutH s0 34 = s := ⟨_, rfl⟩
  obtain ⟨o, e_o⟩ : ∃ o, cutH o0 34 = o := ⟨_, rfl⟩
  rw [e_i] at hc_i
  rw [e_b] at hc_b
  rw [e_p] at hc_p
  rw [e_s] at hc_s
  rw [e_o] at hc_o
  rw [e_i, e_b, e_p, e_s, e_o] at hm
  have HC_i := Lib.hid hc_i
  have HC_b := Lib.hid hc_b
  have HC_p := Lib.hid hc_p
  have HC_s := Lib.hid hc_s
  have HC_o := Lib.hid hc_o
  clear hc_i e_i hi0 hc_b e_b hb0 hc_p e_p hp0 hc_s e_s hs0 hc_o e_o ho0
  have hM := mayH_any i b p s o
  rw [decide_eq_false hm] at hM
  have HM := Lib.hid hM; have HI := Lib.hid (Initiate_bad i b p s o hm)
  have HT := Lib.hid hT; have HB := Lib.hid (Below.refl w.heap.size w)
  clear hM hm hT
  go_enter Tryz.func3, Tryz.ntmps3
  go_wp2_with fail
  refine (HC_i.out _).mono ?_
  rintro e w1 ⟨rfl, rfl⟩
  go_wp2_with fail
  refine (HC_b.out _).mono ?_
  rintro e w1 ⟨rfl, rfl⟩
  go_wp2_with fail
  refine (HC_p.out _).mono ?_
  rintro e w1 ⟨rfl, rfl⟩
  go_wp2_with fail
  refine (HC_s.out _).mono ?_
  rintro e w1 ⟨rfl, rfl⟩
  go_wp2_with fail
  refine (HC_o.out _).mono ?_
  rintro e w1 ⟨rfl, rfl⟩
  clear HC_i HC_b HC_p HC_s HC_o
  go_wp2_with fail
  refine (HI.out _ HT.out).mono ?_
  rintro e w2 ⟨rfl, hb⟩
  have HT := Lib.hid (HT.out.on hb); have HB := Lib.hid (HB.out.trans (hb.mono HB.out.size))
  clear hb HI
  go_wp2_with fail
  refine (HM.out _).mono ?_
  rintro e w3 ⟨rfl, rfl⟩
  clear HM
  go_wp2_with fail
  refine (alive11_any _ HT.out).mono ?_
  rintro e w4 ⟨rfl, hb⟩
  have HT := Lib.hid (HT.out.on hb); have HB := Lib.hid (HB.out.trans (hb.mono HB.out.size))
  clear hb
  go_wp2_with fail
  go_ret
  exact ⟨by first | rfl | simp, HB.out⟩
set_option maxHeartbeats 4000000 in
theorem helloTells_good (i0 b0 p0 s0 o0 : ByteArray) (hi0 : i0.size ≤ maxLen) (hb0 : b0.size ≤ maxLen) (hp0 : p0.size ≤ maxLen) (hs0 : s0.size ≤ maxLen) (ho0 : o0.size ≤ maxLen) (hm : mayH (cutH i0 34) (cutH b0 34) (cutH p0 34) (cutH s0 34) (cutH o0 34)) (w : World) (hT : TriAt w) :
    Calls Tryz.prog 3 #[.string i0, .string b0, .string p0, .string s0, .string o0] w fun e w' => e = .returned (.bool true) ∧ Below w.heap.size w w' := by
  have hc_i := cut11_any i0 hi0
  have hc_b := cut11_any b0 hb0
  have hc_p := cut11_any p0 hp0
  have hc_s := cut11_any s0 hs0
  have hc_o := cut11_any o0 ho0
  obtain ⟨i, e_i⟩ : ∃ i, cutH i0 34 = i := ⟨_, rfl⟩
  obtain ⟨b, e_b⟩ : ∃ b, cutH b0 34 = b := ⟨_, rfl⟩
  obtain ⟨p, e_p⟩ : ∃ p, cutH p0 34 = p := ⟨_, rfl⟩
  obtain ⟨s, e_s⟩ : ∃ s, cutH s0 34 = s := ⟨_, rfl⟩
  obtain ⟨o, e_o⟩ : ∃ o, cutH o0 34 = o := ⟨_, rfl⟩
  rw [e_i] at hc_i
  rw [e_b] at hc_b
  rw [e_p] at hc_p
  rw [e_s] at hc_s
  rw [e_o] at hc_o
  rw [e_i, e_b, e_p, e_s, e_o] at hm
  have HC_i := Lib.hid hc_i
  have HC_b := Lib.hid hc_b
  have HC_p := Lib.hid hc_p
  have HC_s := Lib.hid hc_s
  have HC_o := Lib.hid hc_o
  clear hc_i e_i hi0 hc_b e_b hb0 hc_p e_p hp0 hc_s e_s hs0 hc_o e_o ho0
  have hM := mayH_any i b p s o
  rw [decide_eq_true hm] at hM
  have hI := Initiate_good i b p s o hm
  have hR := fun kv => refInitiate_any kv i b p s o hm
  obtain ⟨S, eS⟩ : ∃ S, secB (ptsI i b p s o) = S := ⟨_, rfl⟩
  simp only [eS] at hI hR
  clear eS
  have HM := Lib.hid hM; have HI := Lib.hid hI; have HR := Lib.hid hR
  have HT := Lib.hid hT; have HB := Lib.hid (Below.refl w.heap.size w)
  clear hM hm hT hI hR
  go_enter Tryz.func3, Tryz.ntmps3
  go_wp2_with fail
  refine (HC_i.out _).mono ?_
  rintro e w1 ⟨rfl, rfl⟩
  go_wp2_with fail
  refine (HC_b.out _).mono ?_
  rintro e w1 ⟨rfl, rfl⟩
  go_wp2_with fail
  refine (HC_p.out _).mono ?_
  rintro e w1 ⟨rfl, rfl⟩
  go_wp2_with fail
  refine (HC_s.out _).mono ?_
  rintro e w1 ⟨rfl, rfl⟩
  go_wp2_with fail
  refine (HC_o.out _).mono ?_
  rintro e w1 ⟨rfl, rfl⟩
  clear HC_i HC_b HC_p HC_s HC_o
  go_wp2_with fail
  refine (HI.out _ HT.out).mono ?_
  rintro e w2 ⟨rfl, hb⟩
  have HT := Lib.hid (HT.out.on hb); have HB := Lib.hid (HB.out.trans (hb.mono HB.out.size))
  clear hb HI
  go_wp2_with fail
  refine (HM.out _).mono ?_
  rintro e w3 ⟨rfl, rfl⟩
  clear HM
  go_wp2_with fail
  refine (alive11_any _ HT.out).mono ?_
  rintro e w4 ⟨rfl, hb⟩
  have HT := Lib.hid (HT.out.on hb); have HB := Lib.hid (HB.out.trans (hb.mono HB.out.size))
  clear hb
  go_wp2_with fail
  refine (numbers_all _).mono ?_
  rintro e w5 ⟨kv, rfl, hKA, hb⟩
  have HT := Lib.hid (HT.out.on hb); have HB := Lib.hid (HB.out.trans (hb.mono HB.out.size))
  have HKA := Lib.hid hKA
  clear hb hKA
  go_wp2_with fail
  refine (HR.out _ _ HKA.out).mono ?_
  rintro e w6 ⟨rfl, hb⟩
  have HT := Lib.hid (HT.out.on hb); have HB := Lib.hid (HB.out.trans (hb.mono HB.out.size))
  clear hb HR
  go_wp2_with fail
  go_ret
  exact ⟨by first | rfl | simp, HB.out⟩
theorem helloTells_any (i0 b0 p0 s0 o0 : ByteArray) (hi0 : i0.size ≤ maxLen) (hb0 : b0.size ≤ maxLen) (hp0 : p0.size ≤ maxLen) (hs0 : s0.size ≤ maxLen) (ho0 : o0.size ≤ maxLen) (w : World) (hF : FirstAt w) (hK : KeysAt w) (hP : PrimeAt w) :
    Calls Tryz.prog 3 #[.string i0, .string b0, .string p0, .string s0, .string o0] w fun e w' => e = .returned (.bool true) ∧ Below w.heap.size w w' := by
  by_cases hm : mayH (cutH i0 34) (cutH b0 34) (cutH p0 34) (cutH s0 34) (cutH o0 34)
  · exact helloTells_good i0 b0 p0 s0 o0 hi0 hb0 hp0 hs0 ho0 hm w ⟨hF, hK, hP⟩
  · exact helloTells_bad i0 b0 p0 s0 o0 hi0 hb0 hp0 hs0 ho0 hm w ⟨hF, hK, hP⟩
set_option maxHeartbeats 4000000 in
theorem helloAnswers_bad (i0 s0 o0 p0 b0 : ByteArray) (hi0 : i0.size ≤ maxLen) (hs0 : s0.size ≤ maxLen) (ho0 : o0.size ≤ maxLen) (hp0 : p0.size ≤ maxLen) (hb0 : b0.size ≤ maxLen) (hm : ¬ (mayH (cutH i0 34) (cutH b0 34) (cutH p0 34) (cutH s0 34) (cutH o0 34))) (w : World) (hT : TriAt w) :
    Calls Tryz.prog 4 #[.string i0, .string s0, .string o0, .string p0, .string b0] w fun e w' => e = .returned (.bool true) ∧ Below w.heap.size w w' := by
  have hc_i := cut11_any i0 hi0
  have hc_b := cut11_any b0 hb0
  have hc_p := cut11_any p0 hp0
  have hc_s := cut11_any s0 hs0
  have hc_o := cut11_any o0 ho0
  obtain ⟨i, e_i⟩ : ∃ i, cutH i0 34 = i := ⟨_, rfl⟩
  obtain ⟨b, e_b⟩ : ∃ b, cutH b0 34 = b := ⟨_, rfl⟩
  obtain ⟨p, e_p⟩ : ∃ p, cutH p0 34 = p := ⟨_, rfl⟩
  obtain ⟨s, e_s⟩ : ∃ s, cutH s0 34 = s := ⟨_, rfl⟩
  obtain ⟨o, e_o⟩ : ∃ o, cutH o0 34 = o := ⟨_, rfl⟩
  rw [e_i] at hc_i
  rw [e_b] at hc_b
  rw [e_p] at hc_p
  rw [e_s] at hc_s
  rw [e_o] at hc_o
  rw [e_i, e_b, e_p, e_s, e_o] at hm
  have HC_i := Lib.hid hc_i
  have HC_b := Lib.hid hc_b
  have HC_p := Lib.hid hc_p
  have HC_s := Lib.hid hc_s
  have HC_o := Lib.hid hc_o
  clear hc_i e_i hi0 hc_b e_b hb0 hc_p e_p hp0 hc_s e_s hs0 hc_o e_o ho0
  have hM := mayH_any i b p s o
  rw [decide_eq_false hm] at hM
  have HM := Lib.hid hM; have HI := Lib.hid (Respond_bad i s o p b hm)
  have HT := Lib.hid hT; have HB := Lib.hid (Below.refl w.heap.size w)
  clear hM hm hT
  go_enter Tryz.func4, Tryz.ntmps4
  go_wp2_with fail
  refine (HC_i.out _).mono ?_
  rintro e w1 ⟨rfl, rfl⟩
  go_wp2_with fail
  refine (HC_b.out _).mono ?_
  rintro e w1 ⟨rfl, rfl⟩
  go_wp2_with fail
  refine (HC_p.out _).mono ?_
  rintro e w1 ⟨rfl, rfl⟩
  go_wp2_with fail
  refine (HC_s.out _).mono ?_
  rintro e w1 ⟨rfl, rfl⟩
  go_wp2_with fail
  refine (HC_o.out _).mono ?_
  rintro e w1 ⟨rfl, rfl⟩
  clear HC_i HC_b HC_p HC_s HC_o
  go_wp2_with fail
  refine (HI.out _ HT.out).mono ?_
  rintro e w2 ⟨rfl, hb⟩
  have HT := Lib.hid (HT.out.on hb); have HB := Lib.hid (HB.out.trans (hb.mono HB.out.size))
  clear hb HI
  go_wp2_with fail
  refine (HM.out _).mono ?_
  rintro e w3 ⟨rfl, rfl⟩
  clear HM
  go_wp2_with fail
  refine (alive11_any _ HT.out).mono ?_
  rintro e w4 ⟨rfl, hb⟩
  have HT := Lib.hid (HT.out.on hb); have HB := Lib.hid (HB.out.trans (hb.mono HB.out.size))
  clear hb
  go_wp2_with fail
  go_ret
  exact ⟨by first | rfl | simp, HB.out⟩
set_option maxHeartbeats 4000000 in
theorem helloAnswers_good (i0 s0 o0 p0 b0 : ByteArray) (hi0 : i0.size ≤ maxLen) (hs0 : s0.size ≤ maxLen) (ho0 : o0.size ≤ maxLen) (hp0 : p0.size ≤ maxLen) (hb0 : b0.size ≤ maxLen) (hm : mayH (cutH i0 34) (cutH b0 34) (cutH p0 34) (cutH s0 34) (cutH o0 34)) (w : World) (hT : TriAt w) :
    Calls Tryz.prog 4 #[.string i0, .string s0, .string o0, .string p0, .string b0] w fun e w' => e = .returned (.bool true) ∧ Below w.heap.size w w' := by
  have hc_i := cut11_any i0 hi0
  have hc_b := cut11_any b0 hb0
  have hc_p := cut11_any p0 hp0
  have hc_s := cut11_any s0 hs0
  have hc_o := cut11_any o0 ho0
  obtain ⟨i, e_i⟩ : ∃ i, cutH i0 34 = i := ⟨_, rfl⟩
  obtain ⟨b, e_b⟩ : ∃ b, cutH b0 34 = b := ⟨_, rfl⟩
  obtain ⟨p, e_p⟩ : ∃ p, cutH p0 34 = p := ⟨_, rfl⟩
  obtain ⟨s, e_s⟩ : ∃ s, cutH s0 34 = s := ⟨_, rfl⟩
  obtain ⟨o, e_o⟩ : ∃ o, cutH o0 34 = o := ⟨_, rfl⟩
  rw [e_i] at hc_i
  rw [e_b] at hc_b
  rw [e_p] at hc_p
  rw [e_s] at hc_s
  rw [e_o] at hc_o
  rw [e_i, e_b, e_p, e_s, e_o] at hm
  have HC_i := Lib.hid hc_i
  have HC_b := Lib.hid hc_b
  have HC_p := Lib.hid hc_p
  have HC_s := Lib.hid hc_s
  have HC_o := Lib.hid hc_o
  clear hc_i e_i hi0 hc_b e_b hb0 hc_p e_p hp0 hc_s e_s hs0 hc_o e_o ho0
  have hM := mayH_any i b p s o
  rw [decide_eq_true hm] at hM
  have hI := Respond_good i s o p b hm
  have hR := fun kv => refRespond_any kv i s o p b hm
  obtain ⟨S, eS⟩ : ∃ S, secB (ptsR i s o p b) = S := ⟨_, rfl⟩
  simp only [eS] at hI hR
  clear eS
  have HM := Lib.hid hM; have HI := Lib.hid hI; have HR := Lib.hid hR
  have HT := Lib.hid hT; have HB := Lib.hid (Below.refl w.heap.size w)
  clear hM hm hT hI hR
  go_enter Tryz.func4, Tryz.ntmps4
  go_wp2_with fail
  refine (HC_i.out _).mono ?_
  rintro e w1 ⟨rfl, rfl⟩
  go_wp2_with fail
  refine (HC_b.out _).mono ?_
  rintro e w1 ⟨rfl, rfl⟩
  go_wp2_with fail
  refine (HC_p.out _).mono ?_
  rintro e w1 ⟨rfl, rfl⟩
  go_wp2_with fail
  refine (HC_s.out _).mono ?_
  rintro e w1 ⟨rfl, rfl⟩
  go_wp2_with fail
  refine (HC_o.out _).mono ?_
  rintro e w1 ⟨rfl, rfl⟩
  clear HC_i HC_b HC_p HC_s HC_o
  go_wp2_with fail
  refine (HI.out _ HT.out).mono ?_
  rintro e w2 ⟨rfl, hb⟩
  have HT := Lib.hid (HT.out.on hb); have HB := Lib.hid (HB.out.trans (hb.mono HB.out.size))
  clear hb HI
  go_wp2_with fail
  refine (HM.out _).mono ?_
  rintro e w3 ⟨rfl, rfl⟩
  clear HM
  go_wp2_with fail
  refine (alive11_any _ HT.out).mono ?_
  rintro e w4 ⟨rfl, hb⟩
  have HT := Lib.hid (HT.out.on hb); have HB := Lib.hid (HB.out.trans (hb.mono HB.out.size))
  clear hb
  go_wp2_with fail
  refine (numbers_all _).mono ?_
  rintro e w5 ⟨kv, rfl, hKA, hb⟩
  have HT := Lib.hid (HT.out.on hb); have HB := Lib.hid (HB.out.trans (hb.mono HB.out.size))
  have HKA := Lib.hid hKA
  clear hb hKA
  go_wp2_with fail
  refine (HR.out _ _ HKA.out).mono ?_
  rintro e w6 ⟨rfl, hb⟩
  have HT := Lib.hid (HT.out.on hb); have HB := Lib.hid (HB.out.trans (hb.mono HB.out.size))
  clear hb HR
  go_wp2_with fail
  go_ret
  exact ⟨by first | rfl | simp, HB.out⟩
theorem helloAnswers_any (i0 s0 o0 p0 b0 : ByteArray) (hi0 : i0.size ≤ maxLen) (hs0 : s0.size ≤ maxLen) (ho0 : o0.size ≤ maxLen) (hp0 : p0.size ≤ maxLen) (hb0 : b0.size ≤ maxLen) (w : World) (hF : FirstAt w) (hK : KeysAt w) (hP : PrimeAt w) :
    Calls Tryz.prog 4 #[.string i0, .string s0, .string o0, .string p0, .string b0] w fun e w' => e = .returned (.bool true) ∧ Below w.heap.size w w' := by
  by_cases hm : mayH (cutH i0 34) (cutH b0 34) (cutH p0 34) (cutH s0 34) (cutH o0 34)
  · exact helloAnswers_good i0 s0 o0 p0 b0 hi0 hs0 ho0 hp0 hb0 hm w ⟨hF, hK, hP⟩
  · exact helloAnswers_bad i0 s0 o0 p0 b0 hi0 hs0 ho0 hp0 hb0 hm w ⟨hF, hK, hP⟩
end Go.Proofs.YtnfhfibbaeiglaaGreatDoor
