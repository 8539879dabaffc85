/- WirePacks: a number's, a text's and parts' bytes, and which rows are the same. -/
import Derived.Test.YtkpmemigdikplaaPf
import Derived.Test.YtkpmemigdikplaaPh
namespace Go.Proofs.Ytkpmemigdikplaa
open Go.RowKit Go.Sort
set_option maxRecDepth 100000

theorem pack_one (s : ByteArray) (h : ¬ 1024 < s.size) : packS [⟨true, 0, s⟩] = strL (partB ⟨true, 0, s⟩) ∧ packE [⟨true, 0, s⟩] = 0 ∧ longP ⟨true, 0, s⟩ = false := by
  have hl : longP ⟨true, 0, s⟩ = false := by unfold longP; simp; omega
  have hl2 : longL [⟨true, 0, s⟩] = false := by unfold longL; simp [hl]
  refine ⟨?_, ?_, hl⟩
  · unfold packS; rw [hl2, packL_one]; rfl
  · unfold packE; rw [hl2]; rfl
theorem pack_two (s : ByteArray) (h : 1024 < s.size) : packS [⟨true, 0, s⟩] = ⟨#[]⟩ ∧ packE [⟨true, 0, s⟩] = 2 := by
  have hl : longP ⟨true, 0, s⟩ = true := by unfold longP; simp; omega
  have hl2 : longL [⟨true, 0, s⟩] = true := by unfold longL; simp [hl]
  exact ⟨by unfold packS; rw [hl2]; rfl, by unfold packE; rw [hl2]; rfl⟩
theorem pack_good (l : List Pt) (h : longL l = false) : packS l = strL (packL l) ∧ packE l = 0 := ⟨by unfold packS; rw [h]; rfl, by unfold packE; rw [h]; rfl⟩
theorem pack_bad (l : List Pt) (h : longL l = true) : packS l = ⟨#[]⟩ ∧ packE l = 2 := ⟨by unfold packS; rw [h]; rfl, by unfold packE; rw [h]; rfl⟩
/-- the worlds behind: all that the law's arguments were -/
structure Stand (w0 w : World) (a : Option Addr) (l : List Pt) (b : Option Addr) (m : List Pt) : Prop where
  below : Below w0.heap.size w0 w
  one : PSl w a l
  two : PSl w b m
theorem Stand.on {w0 w w' : World} {a b : Option Addr} {l m : List Pt} (h : Stand w0 w a l b m) (hb : Below w.heap.size w w') : Stand w0 w' a l b m :=
  ⟨h.below.trans (hb.mono h.below.size), h.one.on hb, h.two.on hb⟩
theorem few_ok (l : List Pt) (h : PsOk l) : (l.take 12).length ≤ 12 ∧ PsOk (l.take 12) := ⟨by rw [List.length_take]; omega, h.take 12⟩

set_option maxHeartbeats 8000000 in
theorem wirePacks_any (n : Nat) (hn : n < 18446744073709551616) (s : ByteArray) (hs : s.size ≤ maxLen) (a b : Option Addr) (c c' : Nat) (l m : List Pt) (hl : l.length ≤ maxLen) (hm : m.length ≤ maxLen) (hlc : l.length ≤ c) (hmc : m.length ≤ c') (hol : PsOk l) (_hom : PsOk m) (w : World) (hp : PSl w a l) (hq : PSl w b m) :
    Calls Try.prog 3 #[.int .u64 (n : Int), .string s, .slice a l.length c, .slice b m.length c'] w fun e w' => e = .returned (.bool true) ∧ Below w.heap.size w w' := by
  have hf1 := few_any a c l hl hlc
  have hf2 := few_any b c' m hm hmc
  obtain ⟨hL12, hok⟩ := few_ok l hol
  have hM12 : (m.take 12).length ≤ 12 := by rw [List.length_take]; omega
  have hst0 : Stand w w a (l.take 12) b (m.take 12) := ⟨Below.refl _ _, hp.take 12, hq.take 12⟩
  obtain ⟨L, eL⟩ : ∃ L, l.take 12 = L := ⟨_, rfl⟩
  obtain ⟨M, eM⟩ : ∃ M, m.take 12 = M := ⟨_, rfl⟩
  rw [eL] at hf1 hL12 hok hst0
  rw [eM] at hf2 hM12 hst0
  have hT := Text_any s hs
  have hN := Number_any n hn
  have hN2 := rNumber_any n hn
  obtain ⟨y, ey⟩ : ∃ y, strL (numB n) = y := ⟨_, rfl⟩
  rw [ey] at hN hN2
  have hL1000 : L.length ≤ 1000 := by omega
  have hLm : L.length ≤ maxLen := by unfold maxLen; omega
  have HF1 := Lib.hid hf1; have HF2 := Lib.hid hf2; have HOK := Lib.hid hok; have H0 := Lib.hid hst0; have HT := Lib.hid hT; have HN := Lib.hid hN; have HN2 := Lib.hid hN2; have HL := Lib.hid (And.intro hL1000 hLm)
  clear hf1 hf2 hok hst0 hT hN hN2 ey eL eM hp hq hol _hom hL12 hM12 hL1000 hLm hl hm hlc hmc hn
  go_enter Try.func3, Try.ntmps3
  go_wp2_with fail
  refine (HF1.out _).mono ?_
  rintro e w1 ⟨c1, rfl, -, rfl⟩
  clear HF1
  go_wp2_with fail
  refine (HF2.out _).mono ?_
  rintro e w2 ⟨c2, rfl, -, rfl⟩
  clear HF2
  go_wp2_with fail
  refine (HT.out _).mono ?_
  rintro e w3 ⟨rfl, hb3⟩
  have H3 := Lib.hid (H0.out.on hb3)
  clear hb3 H0 HT
  go_wp2_with fail
  refine (Pack_any a c1 L HL.out.1 HOK.out _ H3.out.one).mono ?_
  rintro e w4 ⟨rfl, hb4⟩
  have H4 := Lib.hid (H3.out.on hb4)
  clear hb4 H3
  go_wp2_with fail
  refine (HN.out _).mono ?_
  rintro e w5 ⟨rfl, hb5⟩
  have H5 := Lib.hid (H4.out.on hb5)
  clear hb5 H4 HN
  go_wp2_with fail
  refine (HN2.out _).mono ?_
  rintro e w6 ⟨rfl, hb6⟩
  have H6 := Lib.hid (H5.out.on hb6)
  clear hb6 H5 HN2
  go_wp2_with fail
  refine (Like_any a b c1 c2 L M HL.out.2 _ H6.out.one H6.out.two).mono ?_
  rintro e w7 ⟨rfl, hb7⟩
  have H7 := Lib.hid (H6.out.on hb7)
  clear hb7 H6
  go_wp2_with fail
  refine (Same_any a b c1 c2 L M HL.out.2 _ H7.out.one H7.out.two).mono ?_
  rintro e w8 ⟨rfl, hb8⟩
  have H8 := Lib.hid (H7.out.on hb8)
  clear hb8 H7
  go_wp2_with fail
  refine (Like_any a a c1 c1 L L HL.out.2 _ H8.out.one H8.out.one).mono ?_
  rintro e w9 ⟨rfl, hb9⟩
  rw [sameL_refl]
  have H9 := Lib.hid (H8.out.on hb9)
  clear hb9 H8
  go_wp2_with fail
  refine (alive7_any _).mono ?_
  rintro e wA ⟨rfl, hbA⟩
  have HA := Lib.hid (H9.out.on hbA)
  clear hbA H9
  have hlg := rLong_any a c1 L HL.out.1 wA HA.out.one
  have HLG := Lib.hid hlg
  clear hlg
  by_cases h : 1024 < s.size
  · obtain ⟨p1, p2⟩ := pack_two s h
    have h1 : (1024 : Int) < (s.size : Int) := by omega
    rw [p1, p2]
    clear p1 p2 h
    go_wp2_with fail
    refine HLG.out.mono ?_
    rintro e wB ⟨rfl, hbB⟩
    have HB := Lib.hid (HA.out.on hbB)
    clear hbB HA HLG
    cases hL : longL L
    · obtain ⟨q1, q2⟩ := pack_good L hL
      rw [q1, q2]
      have hrp := rPack_any a c1 L HL.out.1 HOK.out hL wB HB.out.one
      have HRP := Lib.hid hrp
      clear q1 q2 hrp hL
      go_wp2_with fail
      refine HRP.out.mono ?_
      rintro e wC ⟨rfl, hbC⟩
      have HC := Lib.hid (HB.out.on hbC)
      clear hbC HRP HB
      go_wp2_with fail
      go_ret
      exact ⟨rfl, HC.out.below⟩
    · obtain ⟨q1, q2⟩ := pack_bad L hL
      rw [q1, q2]
      clear q1 q2 hL
      go_wp2_with fail
      go_ret
      exact ⟨rfl, HB.out.below⟩
  · obtain ⟨p1, p2, p3⟩ := pack_one s h
    have h1 : ¬ (1024 : Int) < (s.size : Int) := by omega
    rw [p1, p2]
    have hone : Calls Try.prog 16 #[.agg #[.bool true, .int .u64 0, .string s]] wA fun e w' => e = .returned (.string (strL (partB ⟨true, 0, s⟩))) ∧ Below wA.heap.size wA w' := rOne_any ⟨true, 0, s⟩ ⟨by show 0 < _; omega, hs⟩ p3 wA
    obtain ⟨x, ex⟩ : ∃ x, strL (partB ⟨true, 0, s⟩) = x := ⟨_, rfl⟩
    rw [ex] at hone
    rw [ex]
    have HONE := Lib.hid hone
    clear p1 p2 p3 h hone ex
    go_wp2_with fail
    refine HONE.out.mono ?_
    rintro e wP ⟨rfl, hbP⟩
    have HP := Lib.hid (HA.out.on hbP)
    have hlg := rLong_any a c1 L HL.out.1 wP HP.out.one
    have HLG2 := Lib.hid hlg
    clear hlg hbP HA HLG HONE
    go_wp2_with fail
    refine HLG2.out.mono ?_
    rintro e wB ⟨rfl, hbB⟩
    have HB := Lib.hid (HP.out.on hbB)
    clear hbB HP HLG2
    cases hL : longL L
    · obtain ⟨q1, q2⟩ := pack_good L hL
      rw [q1, q2]
      have hrp := rPack_any a c1 L HL.out.1 HOK.out hL wB HB.out.one
      have HRP := Lib.hid hrp
      clear q1 q2 hrp hL
      go_wp2_with fail
      refine HRP.out.mono ?_
      rintro e wC ⟨rfl, hbC⟩
      have HC := Lib.hid (HB.out.on hbC)
      clear hbC HRP HB
      go_wp2_with fail
      go_ret
      exact ⟨rfl, HC.out.below⟩
    · obtain ⟨q1, q2⟩ := pack_bad L hL
      rw [q1, q2]
      clear q1 q2 hL
      go_wp2_with fail
      go_ret
      exact ⟨rfl, HB.out.below⟩
end Go.Proofs.Ytkpmemigdikplaa
