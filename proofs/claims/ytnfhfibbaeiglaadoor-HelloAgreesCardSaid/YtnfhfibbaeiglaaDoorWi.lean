/- HelloAgrees: both tell the same secret, of the points of each other's keys, with a one-time key or without. -/
import Derived.Test.YtnfhfibbaeiglaaDoorWg
import Derived.Test.YtnfhfibbaeiglaaDoorWc
import Derived.Test.YtnfhfibbaeiglaaDoorWj
namespace Go.Proofs.YtnfhfibbaeiglaaDoor
open Go.RowKit
set_option maxRecDepth 100000

set_option maxHeartbeats 4000000 in
theorem helloAgrees_bad (a0 c0 b0 s0 o0 : ByteArray) (ha0 : a0.size ≤ maxLen) (hc0 : c0.size ≤ maxLen) (hb0 : b0.size ≤ maxLen) (hs0 : s0.size ≤ maxLen) (ho0 : o0.size ≤ maxLen) (hm : ¬ (mayH (cutH a0 34) (cutH c0 34) (cutH b0 34) (cutH s0 34) (cutH o0 34))) (w : World) (hT : TriAt w) :
    Calls Tryd.prog 3 #[.string a0, .string c0, .string b0, .string s0, .string o0] w fun e w' => e = .returned (.bool true) ∧ Below w.heap.size w w' := by
  have hc_a := cut11_any a0 ha0
  have hc_c := cut11_any c0 hc0
  have hc_b := cut11_any b0 hb0
  have hc_s := cut11_any s0 hs0
  have hc_o := cut11_any o0 ho0
  obtain ⟨a, e_a⟩ : ∃ a, cutH a0 34 = a := ⟨_, rfl⟩
  obtain ⟨c, e_c⟩ : ∃ c, cutH c0 34 = c := ⟨_, rfl⟩
  obtain ⟨b, e_b⟩ : ∃ b, cutH b0 34 = b := ⟨_, rfl⟩
  obtain ⟨s, e_s⟩ : ∃ s, cutH s0 34 = s := ⟨_, rfl⟩
  obtain ⟨o, e_o⟩ : ∃ o, cutH o0 34 = o := ⟨_, rfl⟩
  rw [e_a] at hc_a
  rw [e_c] at hc_c
  rw [e_b] at hc_b
  rw [e_s] at hc_s
  rw [e_o] at hc_o
  rw [e_a, e_c, e_b, e_s, e_o] at hm
  have HC_a := Lib.hid hc_a
  have HC_c := Lib.hid hc_c
  have HC_b := Lib.hid hc_b
  have HC_s := Lib.hid hc_s
  have HC_o := Lib.hid hc_o
  clear hc_a e_a ha0 hc_c e_c hc0 hc_b e_b hb0 hc_s e_s hs0 hc_o e_o ho0
  have hM := mayH_any a c b s o
  rw [decide_eq_false hm] at hM
  have HM := Lib.hid hM; have HI := Lib.hid (Initiate_bad a c b s o hm)
  have HT := Lib.hid hT; have HB := Lib.hid (Below.refl w.heap.size w)
  clear hM hm hT
  go_enter Tryd.func3, Tryd.ntmps3
  go_wp2_with fail
  refine (HC_a.out _).mono ?_
  rintro e w1 ⟨rfl, rfl⟩
  go_wp2_with fail
  refine (HC_c.out _).mono ?_
  rintro e w1 ⟨rfl, rfl⟩
  go_wp2_with fail
  refine (HC_b.out _).mono ?_
  rintro e w1 ⟨rfl, rfl⟩
  go_wp2_with fail
  refine (HC_s.out _).mono ?_
  rintro e w1 ⟨rfl, rfl⟩
  go_wp2_with fail
  refine (HC_o.out _).mono ?_
  rintro e w1 ⟨rfl, rfl⟩
  clear HC_a HC_c HC_b HC_s HC_o
  go_wp2_with fail
  refine (HM.out _).mono ?_
  rintro e w3 ⟨rfl, rfl⟩
  clear HM
  go_wp2_with fail
  refine (HI.out _ HT.out).mono ?_
  rintro e w2 ⟨rfl, hb⟩
  have HT := Lib.hid (HT.out.on hb); have HB := Lib.hid (HB.out.trans (hb.mono HB.out.size))
  clear hb HI
  go_wp2_with fail
  refine (alive11_any _ HT.out).mono ?_
  rintro e w4 ⟨rfl, hb⟩
  have HT := Lib.hid (HT.out.on hb); have HB := Lib.hid (HB.out.trans (hb.mono HB.out.size))
  clear hb
  go_wp2_with fail
  go_ret
  exact ⟨by first | rfl | simp, HB.out⟩
theorem base_pt (k : ByteArray) (hk : k.size = 32) (w : World) (hP : PrimeAt w) :
    Calls Tryd.prog 8 #[.string k] w fun e w' => e = .returned (.tuple #[.string (bpt k), .int .i64 0]) ∧ Below w.heap.size w w' := base_good k hk w hP
set_option maxHeartbeats 4000000 in
theorem helloAgrees_one (a0 c0 b0 s0 o0 : ByteArray) (ha0 : a0.size ≤ maxLen) (hc0 : c0.size ≤ maxLen) (hb0 : b0.size ≤ maxLen) (hs0 : s0.size ≤ maxLen) (ho0 : o0.size ≤ maxLen) (hm : mayH (cutH a0 34) (cutH c0 34) (cutH b0 34) (cutH s0 34) (cutH o0 34)) (ho : ¬ (cutH o0 34).size = 0) (w : World) (hT : TriAt w) :
    Calls Tryd.prog 3 #[.string a0, .string c0, .string b0, .string s0, .string o0] w fun e w' => e = .returned (.bool true) ∧ Below w.heap.size w w' := by
  have hc_a := cut11_any a0 ha0
  have hc_c := cut11_any c0 hc0
  have hc_b := cut11_any b0 hb0
  have hc_s := cut11_any s0 hs0
  have hc_o := cut11_any o0 ho0
  obtain ⟨a, e_a⟩ : ∃ a, cutH a0 34 = a := ⟨_, rfl⟩
  obtain ⟨c, e_c⟩ : ∃ c, cutH c0 34 = c := ⟨_, rfl⟩
  obtain ⟨b, e_b⟩ : ∃ b, cutH b0 34 = b := ⟨_, rfl⟩
  obtain ⟨s, e_s⟩ : ∃ s, cutH s0 34 = s := ⟨_, rfl⟩
  obtain ⟨o, e_o⟩ : ∃ o, cutH o0 34 = o := ⟨_, rfl⟩
  rw [e_a] at hc_a
  rw [e_c] at hc_c
  rw [e_b] at hc_b
  rw [e_s] at hc_s
  rw [e_o] at hc_o
  rw [e_a, e_c, e_b, e_s, e_o] at hm
  rw [e_o] at ho
  have HC_a := Lib.hid hc_a
  have HC_c := Lib.hid hc_c
  have HC_b := Lib.hid hc_b
  have HC_s := Lib.hid hc_s
  have HC_o := Lib.hid hc_o
  clear hc_a e_a ha0 hc_c e_c hc0 hc_b e_b hb0 hc_s e_s hs0 hc_o e_o ho0
  have hM := mayH_any a c b s o
  rw [decide_eq_true hm] at hM
  obtain ⟨h1, h2, h3, h4, h5⟩ := hm
  have h6 : o.size = 32 := h5.resolve_left ho
  have hn : (o.toList == []) = false := by rw [str_nilH, decide_eq_false ho]
  have hag := pts_agree a c b s o
  rw [if_neg ho] at hag
  have hI := Initiate_good a c (bpt b) (bpt s) (bpt o) ⟨h1, h2, pt_size _ _, pt_size _ _, Or.inr (pt_size _ _)⟩
  have hR := Respond_good b s o (bpt a) (bpt c) ⟨h3, pt_size _ _, pt_size _ _, h4, h5⟩
  rw [hag] at hI
  have hA := base_pt a h1
  have hC := base_pt c h2
  have hB' := base_pt b h3
  have hS := base_pt s h4
  have hO := base_pt o h6
  obtain ⟨X, eX⟩ : ∃ X, secB (ptsR b s o (bpt a) (bpt c)) = X := ⟨_, rfl⟩
  have hX : X.size = 32 := by rw [← eX]; exact secB_size _
  simp only [eX] at hI hR
  clear eX hag
  obtain ⟨pa, epa⟩ : ∃ q, bpt a = q := ⟨_, rfl⟩
  simp only [epa] at hI hR hA
  clear epa
  obtain ⟨pc, epc⟩ : ∃ q, bpt c = q := ⟨_, rfl⟩
  simp only [epc] at hI hR hC
  clear epc
  obtain ⟨pb, epb⟩ : ∃ q, bpt b = q := ⟨_, rfl⟩
  simp only [epb] at hI hR hB'
  clear epb
  obtain ⟨ps, eps⟩ : ∃ q, bpt s = q := ⟨_, rfl⟩
  simp only [eps] at hI hR hS
  clear eps
  obtain ⟨po, epo⟩ : ∃ q, bpt o = q := ⟨_, rfl⟩
  simp only [epo] at hI hR hO
  clear epo
  have x0 : ((X.size : Int) == 32) = true := by rw [hX]; rfl
  have HM := Lib.hid hM; have HI := Lib.hid hI; have HR := Lib.hid hR; have HA := Lib.hid hA; have HC := Lib.hid hC; have HBB := Lib.hid hB'; have HS := Lib.hid hS
  have HO := Lib.hid hO
  have HT := Lib.hid hT; have HB := Lib.hid (Below.refl w.heap.size w)
  clear hM hT hI hR hA hC hB' hS hX h1 h2 h3 h4 h5 ho hO h6
  go_enter Tryd.func3, Tryd.ntmps3
  go_wp2_with fail
  refine (HC_a.out _).mono ?_
  rintro e w1 ⟨rfl, rfl⟩
  go_wp2_with fail
  refine (HC_c.out _).mono ?_
  rintro e w1 ⟨rfl, rfl⟩
  go_wp2_with fail
  refine (HC_b.out _).mono ?_
  rintro e w1 ⟨rfl, rfl⟩
  go_wp2_with fail
  refine (HC_s.out _).mono ?_
  rintro e w1 ⟨rfl, rfl⟩
  go_wp2_with fail
  refine (HC_o.out _).mono ?_
  rintro e w1 ⟨rfl, rfl⟩
  clear HC_a HC_c HC_b HC_s HC_o
  go_wp2_with fail
  refine (HM.out _).mono ?_
  rintro e w3 ⟨rfl, rfl⟩
  clear HM
  go_wp2_with fail
  refine (HA.out _ HT.out.p).mono ?_
  rintro e w2 ⟨rfl, hb⟩
  have HT := Lib.hid (HT.out.on hb); have HB := Lib.hid (HB.out.trans (hb.mono HB.out.size))
  clear hb HA
  go_wp2_with fail
  refine (HC.out _ HT.out.p).mono ?_
  rintro e w2 ⟨rfl, hb⟩
  have HT := Lib.hid (HT.out.on hb); have HB := Lib.hid (HB.out.trans (hb.mono HB.out.size))
  clear hb HC
  go_wp2_with fail
  refine (HBB.out _ HT.out.p).mono ?_
  rintro e w2 ⟨rfl, hb⟩
  have HT := Lib.hid (HT.out.on hb); have HB := Lib.hid (HB.out.trans (hb.mono HB.out.size))
  clear hb HBB
  go_wp2_with fail
  refine (HS.out _ HT.out.p).mono ?_
  rintro e w2 ⟨rfl, hb⟩
  have HT := Lib.hid (HT.out.on hb); have HB := Lib.hid (HB.out.trans (hb.mono HB.out.size))
  clear hb HS
  go_wp2_with fail
  refine (HO.out _ HT.out.p).mono ?_
  rintro e w2 ⟨rfl, hb⟩
  have HT := Lib.hid (HT.out.on hb); have HB := Lib.hid (HB.out.trans (hb.mono HB.out.size))
  clear hb HO
  go_wp2_with fail
  refine (HI.out _ HT.out).mono ?_
  rintro e w2 ⟨rfl, hb⟩
  have HT := Lib.hid (HT.out.on hb); have HB := Lib.hid (HB.out.trans (hb.mono HB.out.size))
  clear hb HI
  go_wp2_with fail
  refine (HR.out _ HT.out).mono ?_
  rintro e w2 ⟨rfl, hb⟩
  have HT := Lib.hid (HT.out.on hb); have HB := Lib.hid (HB.out.trans (hb.mono HB.out.size))
  clear hb HR
  go_wp2_with fail
  refine (alive11_any _ HT.out).mono ?_
  rintro e w4 ⟨rfl, hb⟩
  have HT := Lib.hid (HT.out.on hb); have HB := Lib.hid (HB.out.trans (hb.mono HB.out.size))
  clear hb
  go_wp2_with fail
  go_ret
  exact ⟨by first | rfl | simp, HB.out⟩
set_option maxHeartbeats 4000000 in
theorem helloAgrees_none (a0 c0 b0 s0 o0 : ByteArray) (ha0 : a0.size ≤ maxLen) (hc0 : c0.size ≤ maxLen) (hb0 : b0.size ≤ maxLen) (hs0 : s0.size ≤ maxLen) (ho0 : o0.size ≤ maxLen) (hm : mayH (cutH a0 34) (cutH c0 34) (cutH b0 34) (cutH s0 34) (cutH o0 34)) (ho : (cutH o0 34).size = 0) (w : World) (hT : TriAt w) :
    Calls Tryd.prog 3 #[.string a0, .string c0, .string b0, .string s0, .string o0] w fun e w' => e = .returned (.bool true) ∧ Below w.heap.size w w' := by
  have hc_a := cut11_any a0 ha0
  have hc_c := cut11_any c0 hc0
  have hc_b := cut11_any b0 hb0
  have hc_s := cut11_any s0 hs0
  have hc_o := cut11_any o0 ho0
  obtain ⟨a, e_a⟩ : ∃ a, cutH a0 34 = a := ⟨_, rfl⟩
  obtain ⟨c, e_c⟩ : ∃ c, cutH c0 34 = c := ⟨_, rfl⟩
  obtain ⟨b, e_b⟩ : ∃ b, cutH b0 34 = b := ⟨_, rfl⟩
  obtain ⟨s, e_s⟩ : ∃ s, cutH s0 34 = s := ⟨_, rfl⟩
  obtain ⟨o, e_o⟩ : ∃ o, cutH o0 34 = o := ⟨_, rfl⟩
  rw [e_a] at hc_a
  rw [e_c] at hc_c
  rw [e_b] at hc_b
  rw [e_s] at hc_s
  rw [e_o] at hc_o
  rw [e_a, e_c, e_b, e_s, e_o] at hm
  rw [e_o] at ho
  have HC_a := Lib.hid hc_a
  have HC_c := Lib.hid hc_c
  have HC_b := Lib.hid hc_b
  have HC_s := Lib.hid hc_s
  have HC_o := Lib.hid hc_o
  clear hc_a e_a ha0 hc_c e_c hc0 hc_b e_b hb0 hc_s e_s hs0 hc_o e_o ho0
  obtain rfl : o = ⟨#[]⟩ := size_nilH o ho
  have hM := mayH_any a c b s ⟨#[]⟩
  rw [decide_eq_true hm] at hM
  obtain ⟨h1, h2, h3, h4, h5⟩ := hm
  have hag := pts_agree a c b s ⟨#[]⟩
  rw [if_pos (show (⟨#[]⟩ : ByteArray).size = 0 from rfl)] at hag
  have hI := Initiate_good a c (bpt b) (bpt s) ⟨#[]⟩ ⟨h1, h2, pt_size _ _, pt_size _ _, Or.inl rfl⟩
  have hR := Respond_good b s ⟨#[]⟩ (bpt a) (bpt c) ⟨h3, pt_size _ _, pt_size _ _, h4, h5⟩
  rw [hag] at hI
  have hA := base_pt a h1
  have hC := base_pt c h2
  have hB' := base_pt b h3
  have hS := base_pt s h4
  obtain ⟨X, eX⟩ : ∃ X, secB (ptsR b s ⟨#[]⟩ (bpt a) (bpt c)) = X := ⟨_, rfl⟩
  have hX : X.size = 32 := by rw [← eX]; exact secB_size _
  simp only [eX] at hI hR
  clear eX hag
  obtain ⟨pa, epa⟩ : ∃ q, bpt a = q := ⟨_, rfl⟩
  simp only [epa] at hI hR hA
  clear epa
  obtain ⟨pc, epc⟩ : ∃ q, bpt c = q := ⟨_, rfl⟩
  simp only [epc] at hI hR hC
  clear epc
  obtain ⟨pb, epb⟩ : ∃ q, bpt b = q := ⟨_, rfl⟩
  simp only [epb] at hI hR hB'
  clear epb
  obtain ⟨ps, eps⟩ : ∃ q, bpt s = q := ⟨_, rfl⟩
  simp only [eps] at hI hR hS
  clear eps
  have x0 : ((X.size : Int) == 32) = true := by rw [hX]; rfl
  have HM := Lib.hid hM; have HI := Lib.hid hI; have HR := Lib.hid hR; have HA := Lib.hid hA; have HC := Lib.hid hC; have HBB := Lib.hid hB'; have HS := Lib.hid hS
  have HT := Lib.hid hT; have HB := Lib.hid (Below.refl w.heap.size w)
  clear hM hT hI hR hA hC hB' hS hX h1 h2 h3 h4 h5 ho
  go_enter Tryd.func3, Tryd.ntmps3
  go_wp2_with fail
  refine (HC_a.out _).mono ?_
  rintro e w1 ⟨rfl, rfl⟩
  go_wp2_with fail
  refine (HC_c.out _).mono ?_
  rintro e w1 ⟨rfl, rfl⟩
  go_wp2_with fail
  refine (HC_b.out _).mono ?_
  rintro e w1 ⟨rfl, rfl⟩
  go_wp2_with fail
  refine (HC_s.out _).mono ?_
  rintro e w1 ⟨rfl, rfl⟩
  go_wp2_with fail
  refine (HC_o.out _).mono ?_
  rintro e w1 ⟨rfl, rfl⟩
  clear HC_a HC_c HC_b HC_s HC_o
  go_wp2_with fail
  refine (HM.out _).mono ?_
  rintro e w3 ⟨rfl, rfl⟩
  clear HM
  go_wp2_with fail
  refine (HA.out _ HT.out.p).mono ?_
  rintro e w2 ⟨rfl, hb⟩
  have HT := Lib.hid (HT.out.on hb); have HB := Lib.hid (HB.out.trans (hb.mono HB.out.size))
  clear hb HA
  go_wp2_with fail
  refine (HC.out _ HT.out.p).mono ?_
  rintro e w2 ⟨rfl, hb⟩
  have HT := Lib.hid (HT.out.on hb); have HB := Lib.hid (HB.out.trans (hb.mono HB.out.size))
  clear hb HC
  go_wp2_with fail
  refine (HBB.out _ HT.out.p).mono ?_
  rintro e w2 ⟨rfl, hb⟩
  have HT := Lib.hid (HT.out.on hb); have HB := Lib.hid (HB.out.trans (hb.mono HB.out.size))
  clear hb HBB
  go_wp2_with fail
  refine (HS.out _ HT.out.p).mono ?_
  rintro e w2 ⟨rfl, hb⟩
  have HT := Lib.hid (HT.out.on hb); have HB := Lib.hid (HB.out.trans (hb.mono HB.out.size))
  clear hb HS
  go_wp2_with fail
  refine (HI.out _ HT.out).mono ?_
  rintro e w2 ⟨rfl, hb⟩
  have HT := Lib.hid (HT.out.on hb); have HB := Lib.hid (HB.out.trans (hb.mono HB.out.size))
  clear hb HI
  go_wp2_with fail
  refine (HR.out _ HT.out).mono ?_
  rintro e w2 ⟨rfl, hb⟩
  have HT := Lib.hid (HT.out.on hb); have HB := Lib.hid (HB.out.trans (hb.mono HB.out.size))
  clear hb HR
  go_wp2_with fail
  refine (alive11_any _ HT.out).mono ?_
  rintro e w4 ⟨rfl, hb⟩
  have HT := Lib.hid (HT.out.on hb); have HB := Lib.hid (HB.out.trans (hb.mono HB.out.size))
  clear hb
  go_wp2_with fail
  go_ret
  exact ⟨by first | rfl | simp, HB.out⟩
theorem helloAgrees_any (a0 c0 b0 s0 o0 : ByteArray) (ha0 : a0.size ≤ maxLen) (hc0 : c0.size ≤ maxLen) (hb0 : b0.size ≤ maxLen) (hs0 : s0.size ≤ maxLen) (ho0 : o0.size ≤ maxLen) (w : World) (hF : FirstAt w) (hK : KeysAt w) (hP : PrimeAt w) :
    Calls Tryd.prog 3 #[.string a0, .string c0, .string b0, .string s0, .string o0] w fun e w' => e = .returned (.bool true) ∧ Below w.heap.size w w' := by
  by_cases hm : mayH (cutH a0 34) (cutH c0 34) (cutH b0 34) (cutH s0 34) (cutH o0 34)
  · by_cases ho : (cutH o0 34).size = 0
    · exact helloAgrees_none a0 c0 b0 s0 o0 ha0 hc0 hb0 hs0 ho0 hm ho w ⟨hF, hK, hP⟩
    · exact helloAgrees_one a0 c0 b0 s0 o0 ha0 hc0 hb0 hs0 ho0 hm ho w ⟨hF, hK, hP⟩
  · exact helloAgrees_bad a0 c0 b0 s0 o0 ha0 hc0 hb0 hs0 ho0 hm w ⟨hF, hK, hP⟩
end Go.Proofs.YtnfhfibbaeiglaaDoor
