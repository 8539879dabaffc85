/- WireJoins: one row's bytes behind another one's are both rows'. -/
import Derived.Test.YtkpmemigdikplaaPs
import Derived.Test.YtkpmemigdikplaaPi
namespace Go.Proofs.Ytkpmemigdikplaa
open Go.RowKit Go.Sort
set_option maxRecDepth 100000

set_option maxHeartbeats 8000000 in
theorem wireJoins_any (a b : Option Addr) (c c' : Nat) (l m : List Pt) (hl : l.length ≤ maxLen) (hm : m.length ≤ maxLen) (hlc : l.length ≤ c) (hmc : m.length ≤ c') (hol : PsOk l) (hom : PsOk m) (w : World) (hp : PSl w a l) (hq : PSl w b m) :
    Calls Try.prog 7 #[.slice a l.length c, .slice b m.length c'] w fun e w' => e = .returned (.bool true) ∧ Below w.heap.size w w' := by
  have hf1 := few_any a c l hl hlc
  have hf2 := few_any b c' m hm hmc
  obtain ⟨hL12, hok⟩ := few_ok l hol
  obtain ⟨hM12, hok2⟩ := few_ok m hom
  have hst0 : Stand w w a (l.take 12) b (m.take 12) := ⟨Below.refl _ _, hp.take 12, hq.take 12⟩
  obtain ⟨L, eL⟩ : ∃ L, l.take 12 = L := ⟨_, rfl⟩
  obtain ⟨M, eM⟩ : ∃ M, m.take 12 = M := ⟨_, rfl⟩
  rw [eL] at hf1 hL12 hok hst0
  rw [eM] at hf2 hM12 hok2 hst0
  have hokLM : PsOk (L ++ M) := fun p hp => by
    rcases List.mem_append.1 hp with h | h
    · exact hok p h
    · exact hok2 p h
  have HF1 := Lib.hid hf1; have HF2 := Lib.hid hf2; have HOK := Lib.hid (And.intro hok (And.intro hok2 hokLM)); have H0 := Lib.hid hst0; have HL := Lib.hid (And.intro hL12 hM12)
  clear hf1 hf2 hok hok2 hokLM hst0 eL eM hp hq hol hom hL12 hM12 hl hm hlc hmc
  go_enter Try.func7, Try.ntmps7
  go_wp2_with fail
  refine (HF1.out _).mono ?_
  rintro e w1 ⟨c1, rfl, -, rfl⟩
  clear HF1
  go_wp2_with fail
  refine (HF2.out _).mono ?_
  rintro e w2 ⟨c2, rfl, -, rfl⟩
  clear HF2
  go_wp2_with fail
  refine (Pack_any a c1 L (by have := HL.out.1; omega) HOK.out.1 _ H0.out.one).mono ?_
  rintro e w3 ⟨rfl, hb3⟩
  have H3 := Lib.hid (H0.out.on hb3)
  clear hb3 H0
  go_wp2_with fail
  refine (Pack_any b c2 M (by have := HL.out.2; omega) HOK.out.2.1 _ H3.out.two).mono ?_
  rintro e w4 ⟨rfl, hb4⟩
  have H4 := Lib.hid (H3.out.on hb4)
  clear hb4 H3
  have hbs : Below w4.heap.size w4 (w4.alloc (.cells #[] 34)) := (Below.refl _ _).alloc (Nat.le_refl _) _
  have ho := OwnP.empty w4 w4.heap.size (Nat.le_refl _)
  have HB5 := Lib.hid hbs; have HO5 := Lib.hid ho; have HQ5 := Lib.hid (And.intro (H4.out.one.on hbs) (H4.out.two.on hbs))
  clear hbs ho
  go_wp2_with (at_builtin; refine append_ps rfl _ _ rfl w4.heap.size _ [] a L.length c1 L rfl rfl rfl HO5.out HQ5.out.1 (by have := HL.out.1; simp; omega) (by simp) ?_)
  intro v6 w6 hO6 hg6
  have hb6 := HO5.out.below (HB5.out.mono (Nat.le_refl _)) (by simp) hg6
  have hs6 := hb6.size
  have hq6 := H4.out.two.on hb6
  have HO6 := Lib.hid hO6; have HB6 := Lib.hid hb6; have HQ6 := Lib.hid hq6; have HS6 := Lib.hid hs6
  clear hO6 hg6 hb6 hs6 hq6 HB5 HO5 HQ5
  go_wp2_with (at_builtin; refine append_ps rfl _ _ rfl w4.heap.size _ L b M.length c2 M rfl rfl rfl HO6.out HQ6.out (by have := HL.out; omega) HS6.out ?_)
  intro v7 w7 hO7 hg7
  have hb7 := HO6.out.below HB6.out HS6.out hg7
  obtain ⟨a7, c7, ev7, -, hp7⟩ := hO7.psl
  rw [List.length_append] at ev7
  have hlen : L.length + M.length = (L ++ M).length := (List.length_append).symm
  have H7 := Lib.hid (H4.out.on hb7); have HP7 := Lib.hid hp7
  have hpk := Pack_any a7 c7 (L ++ M) (by rw [List.length_append]; have := HL.out; omega) HOK.out.2.2 w7 hp7
  rw [← hlen, ← ev7] at hpk
  have HPK := Lib.hid hpk
  clear hO7 hg7 hb7 hp7 hpk hlen ev7 HO6 HB6 HQ6 HS6 H4
  go_wp2_with fail
  refine HPK.out.mono ?_
  rintro e w8 ⟨rfl, hb8⟩
  have H8 := Lib.hid (H7.out.on hb8)
  clear hb8 H7 HPK HP7
  have hap := longL_append L M
  cases hL : longL L <;> cases hM : longL M <;> rw [hL, hM] at hap
  case false.false =>
    obtain ⟨p1, p2⟩ := pack_good L hL
    obtain ⟨q1, q2⟩ := pack_good M hM
    obtain ⟨r1, r2⟩ := pack_good (L ++ M) hap
    rw [p1, p2, q1, q2, r1, r2]
    have hlm := packL_le L HOK.out.1 hL
    have hmm := packL_le M HOK.out.2.1 hM
    have hlim : (9223372036854775807 < (strL (packL L)).size + (strL (packL M)).size) = False := sum_lim _ _ (by rw [strL_size, strL_size]; have := HL.out; omega)
    have hcat : strL (packL (L ++ M)) = strL (packL L) ++ strL (packL M) := by rw [packL_append, strL_append]
    rw [hcat]
    clear p1 p2 q1 q2 r1 r2 hcat hap hL hM hlm hmm
    go_wp2_with fail
    refine (alive7_any _).mono ?_
    rintro e w9 ⟨rfl, hb9⟩
    have H9 := Lib.hid (H8.out.on hb9)
    clear hb9 H8
    go_wp2_with fail
    go_ret
    exact ⟨rfl, H9.out.below⟩
  case false.true =>
    obtain ⟨r1, r2⟩ := pack_bad (L ++ M) hap
    obtain ⟨p1, p2⟩ := pack_good L hL
    obtain ⟨q1, q2⟩ := pack_bad M hM
    rw [r1, r2, p1, p2, q1, q2]
    clear r1 r2 p1 p2 q1 q2 hap hL hM
    go_wp2_with fail
    refine (alive7_any _).mono ?_
    rintro e w9 ⟨rfl, hb9⟩
    have H9 := Lib.hid (H8.out.on hb9)
    clear hb9 H8
    go_wp2_with fail
    go_ret
    exact ⟨rfl, H9.out.below⟩
  case true.false =>
    obtain ⟨r1, r2⟩ := pack_bad (L ++ M) hap
    obtain ⟨p1, p2⟩ := pack_bad L hL
    obtain ⟨q1, q2⟩ := pack_good M hM
    rw [r1, r2, p1, p2, q1, q2]
    clear r1 r2 p1 p2 q1 q2 hap hL hM
    go_wp2_with fail
    refine (alive7_any _).mono ?_
    rintro e w9 ⟨rfl, hb9⟩
    have H9 := Lib.hid (H8.out.on hb9)
    clear hb9 H8
    go_wp2_with fail
    go_ret
    exact ⟨rfl, H9.out.below⟩
  case true.true =>
    obtain ⟨r1, r2⟩ := pack_bad (L ++ M) hap
    obtain ⟨p1, p2⟩ := pack_bad L hL
    obtain ⟨q1, q2⟩ := pack_bad M hM
    rw [r1, r2, p1, p2, q1, q2]
    clear r1 r2 p1 p2 q1 q2 hap hL hM
    go_wp2_with fail
    refine (alive7_any _).mono ?_
    rintro e w9 ⟨rfl, hb9⟩
    have H9 := Lib.hid (H8.out.on hb9)
    clear hb9 H8
    go_wp2_with fail
    go_ret
    exact ⟨rfl, H9.out.below⟩
end Go.Proofs.Ytkpmemigdikplaa
