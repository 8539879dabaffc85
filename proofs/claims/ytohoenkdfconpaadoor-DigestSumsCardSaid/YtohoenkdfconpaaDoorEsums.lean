/- DigestSums: any sum on its way behind any bytes, and what it comes to, is as the document says, or refused. -/
import Derived.Test.YtohoenkdfconpaaDoorEtexts
namespace Go.Proofs.YtohoenkdfconpaaDoor
open Go.RowKit Go.Sort
set_option maxRecDepth 100000

theorem three_on {w w' : World} {B : Nat} {a b c : Value} (h : w.cell? ⟨B, 0, none⟩ = some a ∧ w.cell? ⟨B, 1, none⟩ = some b ∧ w.cell? ⟨B, 2, none⟩ = some c) (hb : Below w.heap.size w w') : w'.cell? ⟨B, 0, none⟩ = some a ∧ w'.cell? ⟨B, 1, none⟩ = some b ∧ w'.cell? ⟨B, 2, none⟩ = some c :=
  (bel_three h.1 h.2.1 h.2.2 ⟨hb⟩).1

set_option maxHeartbeats 8000000 in
theorem sums_bad (a : Option Addr) (n c : Nat) (x s : ByteArray) (m : Nat) (hx : x.size ≤ maxLen) (hn : n ≤ maxLen) (hnc : n ≤ c) (h0 : a = none → n = 0 ∧ c = 0) (hs : s.size ≤ maxLen) (hm : m < 18446744073709551616)
    (w : World) (hr : rightB (min n 9) (cutS x 66).size m = false) (hF : FirstAt w) (hK : KeysAt w) :
    Calls Tryd.prog 3 #[.agg #[.slice a n c, .string x, .int .u64 (m : Int)], .string s] w fun e w' => e = .returned (.bool true) ∧ Below w.heap.size w w' := by
  have hfew := few_any a n c x m hx hn hnc h0
  have hcut0 := cut_any s hs
  have hy66 := cutS_size x 66
  generalize cutS s 300 = b at hcut0
  generalize cutS x 66 = y0 at hfew hr hy66
  generalize min n 9 = n' at hfew hr
  have hwr := fun W => write_bad a n' c y0 b m hm (by unfold maxLen; omega) hr W
  have hsm := fun W => sum_bad a n' c y0 m hm (by unfold maxLen; omega) hr W
  have hra := fun W => right_any a n' c y0 m hm (by unfold maxLen; omega) W
  have hrb := fun W => refright_any a n' c y0 m hm (by unfold maxLen; omega) W
  rw [hr] at hra hrb
  have hsame : ∀ W : World, Calls Tryd.prog 17 #[.agg #[.slice none 0 0, .string ⟨#[]⟩, .int .u64 0], .agg #[.slice none 0 0, .string ⟨#[]⟩, .int .u64 0]] W fun e w' => e = .returned (.bool true) ∧ Below W.heap.size W w' := by
    intro W
    have h := same_any none none 0 0 0 0 [] [] ⟨#[]⟩ ⟨#[]⟩ 0 0 (by decide) (by decide) W ⟨rfl, fun h => absurd h (by omega)⟩ ⟨rfl, fun h => absurd h (by omega)⟩
    rw [sameB_self] at h
    exact h
  have HFew := Lib.hid hfew; have HCut := Lib.hid hcut0; have HWR := Lib.hid hwr; have HSM := Lib.hid hsm; have HRA := Lib.hid hra; have HRB := Lib.hid hrb; have HSAME := Lib.hid hsame; have hF := Lib.hid hF; have hK := Lib.hid hK
  clear hfew hcut0 hr hx hs hn hnc h0 hwr hy66 hsm hra hrb hsame
  go_enter Tryd.func3, Tryd.ntmps3
  go_upto_region 2 with (first | (go_at_call 10; refine (HFew.out _).mono ?_; rintro e w1 ⟨rfl, hb1⟩; obtain ⟨hz, ⟨f0, f1, f2⟩, hzl, hzb⟩ := box3 hb1; obtain ⟨z0, z1, z2⟩ := id hz; clear hb1) | (go_at_call 11; refine (HCut.out _).mono ?_; rintro e w' ⟨rfl, rfl⟩))
  have hs3 := set3 hz (.slice a n' c) (.string y0) (.int .u64 (m : Int))
  have hbs := below3 hzb (Nat.le_refl _) (.slice a n' c) (.string y0) (.int .u64 (m : Int))
  clear hz f0 f1 f2 z0 z1 z2 hzl hzb HFew HCut
  generalize World.setCell (World.setCell (World.setCell w1 _ _) _ _) _ _ = V at hs3 hbs ⊢
  obtain ⟨c0, c1, c2⟩ := id hs3
  have hF := Lib.hid (hF.out.on hbs)
  have hK := Lib.hid (hK.out.on hbs)
  obtain ⟨A0, hA0⟩ : ∃ A0, w.heap.size = A0 := ⟨_, rfl⟩
  have HA0 := Lib.hid hA0
  clear hA0
  go_upto_region 3 with (go_at_call 12; refine (HWR.out _).mono ?_; rintro e w2 ⟨rfl, hb⟩)
  have hd : ((w2.alloc (.cells #[.slice none 0 0, .string ⟨#[]⟩, .int .u64 0] 25)).cell? ⟨w2.heap.size, 0, none⟩ = some (.slice none 0 0) ∧ (w2.alloc (.cells #[.slice none 0 0, .string ⟨#[]⟩, .int .u64 0] 25)).cell? ⟨w2.heap.size, 1, none⟩ = some (.string ⟨#[]⟩) ∧ (w2.alloc (.cells #[.slice none 0 0, .string ⟨#[]⟩, .int .u64 0] 25)).cell? ⟨w2.heap.size, 2, none⟩ = some (.int .u64 0)) := by simp
  have hbel : Below V.heap.size V (w2.alloc (.cells #[.slice none 0 0, .string ⟨#[]⟩, .int .u64 0] 25)) := ((Bel.refl V).on hb |>.alloc _).b
  generalize World.alloc w2 _ = V2 at hd hbel ⊢
  generalize w2.heap.size = B3 at hd ⊢
  have hs3 := three_on hs3 hbel
  have hF := Lib.hid (hF.out.on hbel); have hK := Lib.hid (hK.out.on hbel)
  have hbs := hbs.trans (hbel.mono hbs.size)
  clear c0 c1 c2 hb HWR hbel
  rw [HA0.out] at hs3 ⊢
  obtain ⟨c0, c1, c2⟩ := id hs3
  go_upto_region 4 with (go_at_call 13; refine (HSM.out _).mono ?_; rintro e V3 ⟨rfl, hb⟩)
  have hs3 := three_on hs3 hb
  have hd := three_on hd hb
  have hF := Lib.hid (hF.out.on hb); have hK := Lib.hid (hK.out.on hb)
  have hbs := hbs.trans (hb.mono hbs.size)
  clear c0 c1 c2 hb HSM
  obtain ⟨c0, c1, c2⟩ := id hs3
  have HC3 := Lib.hid (show V3.cell? ⟨A0, 0, none⟩ = some (.slice a n' c) ∧ V3.cell? ⟨A0, 1, none⟩ = some (.string y0) ∧ V3.cell? ⟨A0, 2, none⟩ = some (.int .u64 (m : Int)) from ⟨c0, c1, c2⟩)
  have hS : (fun w' : World => (w'.cell? ⟨A0, 0, none⟩ = some (.slice a n' c) ∧ w'.cell? ⟨A0, 1, none⟩ = some (.string y0) ∧ w'.cell? ⟨A0, 2, none⟩ = some (.int .u64 (m : Int))) ∧ Bel V3 w') V3 := ⟨HC3.out, Bel.refl V3⟩
  go_region_held3 (fun w' : World => (w'.cell? ⟨A0, 0, none⟩ = some (.slice a n' c) ∧ w'.cell? ⟨A0, 1, none⟩ = some (.string y0) ∧ w'.cell? ⟨A0, 2, none⟩ = some (.int .u64 (m : Int))) ∧ Bel V3 w')
    (first | with_reducible assumption | (refine bel_three HC3.out.1 HC3.out.2.1 HC3.out.2.2 ?_; first | exact bel_of3 (by with_reducible assumption) | ((with_reducible refine Bel.drew ?_); exact bel_of3 (by with_reducible assumption)) | ((with_reducible refine Bel.drew ?_); exact Bel.refl _) | ((with_reducible refine Bel.on ?_ hb); first | exact bel_of3 (by with_reducible assumption) | exact Bel.drew (bel_of3 (by with_reducible assumption)) | exact Bel.drew (Bel.refl _))))
    (first
      | (go_at_call 14; refine (HRA.out _).mono ?_; rintro e w' ⟨rfl, hb⟩)
      | (go_at_call 15; refine (HRB.out _).mono ?_; rintro e w' ⟨rfl, hb⟩)
      | (go_at_call 16; refine (alive_any _ (hF.out.bel (by first | exact bel_of3 (by with_reducible assumption) | exact Bel.drew (Bel.refl _))) (hK.out.bel (by first | exact bel_of3 (by with_reducible assumption) | exact Bel.drew (Bel.refl _)))).mono ?_; rintro e w' ⟨rfl, hb⟩))
  obtain ⟨hc3, hbl⟩ : _ ∧ Bel V3 w' := ⟨(bel_three HC3.out.1 HC3.out.2.1 HC3.out.2.2 (bel_of3 (by with_reducible assumption))).1, bel_of3 (by with_reducible assumption)⟩
  have hd := three_on hd hbl.b
  have hbs := hbs.trans (hbl.b.mono hbs.size)
  clear c0 c1 c2 hS HC3 HRA hF hK hs3
  obtain ⟨c0, c1, c2⟩ := hc3
  go_wp2_with fail
  refine (HRB.out _).mono ?_
  rintro e W5 ⟨rfl, hb5⟩
  have hd5 := three_on hd hb5
  have hbs5 := hbs.trans (hb5.mono hbs.size)
  obtain ⟨d0, d1, d2⟩ := hd5
  clear c0 c1 c2 HRB hb5 hd hbs hbl
  go_wp2_with fail
  refine (HSAME.out _).mono ?_
  rintro e W6 ⟨rfl, hb6⟩
  clear d0 d1 d2
  go_wp2_with fail
  go_ret
  exact ⟨rfl, hbs5.trans (hb6.mono hbs5.size)⟩

set_option maxHeartbeats 8000000 in
theorem sums_good (a : Option Addr) (n c : Nat) (x s : ByteArray) (m : Nat) (hx : x.size ≤ maxLen) (hn : n ≤ maxLen) (hnc : n ≤ c) (h0 : a = none → n = 0 ∧ c = 0) (hs : s.size ≤ maxLen) (hm : m < 18446744073709551616)
    (l : List (BitVec 32)) (w : World) (hv : WSl w a (min n 9) l) (hr : rightB (min n 9) (cutS x 66).size m = true) (hF : FirstAt w) (hK : KeysAt w) :
    Calls Tryd.prog 3 #[.agg #[.slice a n c, .string x, .int .u64 (m : Int)], .string s] w fun e w' => e = .returned (.bool true) ∧ Below w.heap.size w w' := by
  have hfew := few_any a n c x m hx hn hnc h0
  have hcut0 := cut_any s hs
  have hb300 := cutS_size s 300
  obtain ⟨b, hbb⟩ : ∃ b, cutS s 300 = b := ⟨_, rfl⟩
  rw [hbb] at hcut0 hb300
  obtain ⟨y0, hy0⟩ : ∃ y, cutS x 66 = y := ⟨_, rfl⟩
  rw [hy0] at hfew hr
  have hr' : min n 9 = 8 ∧ y0.size < 64 ∧ m % 64 = y0.size := by unfold rightB at hr; simpa using hr
  rw [hr'.1] at hfew hr hv
  have hl8 : l.length = 8 := hv.1
  obtain ⟨s0, rfl⟩ := S8.of_list l hl8
  have hws0 := hv.ws (c := c) (by omega)
  have hwr := fun W h1 h2 => write_good a 8 c s0 y0 b m hm hr (by omega) W h1 h2
  have hsm := fun W h1 h2 => sum_good a 8 c s0 y0 m hm hr W h1 h2
  have hra := fun W => right_any a 8 c y0 m hm (by unfold maxLen; omega) W
  have hrb := fun W => refright_any a 8 c y0 m hm (by unfold maxLen; omega) W
  rw [hr] at hra hrb
  have hrw := fun kv W h1 h2 => refwrite_any kv (.slice a 8 c) s0 y0 b (by omega) (by omega) m hm W h1 h2
  have hrs := fun kv W h1 h2 => refsum_any kv (.slice a 8 c) s0 y0 m hm hr'.2.1 hr'.2.2 W h1 h2
  obtain ⟨q, hq⟩ : ∃ q, (m + b.size) % 18446744073709551616 = q := ⟨_, rfl⟩
  obtain ⟨u, hu⟩ : ∃ u, mixAll s0 (bl y0 ++ bl b) = u := ⟨_, rfl⟩
  obtain ⟨r, hrr⟩ : ∃ r, restOf (bl y0 ++ bl b) = r := ⟨_, rfl⟩
  obtain ⟨S, hSS⟩ : ∃ S, strL (sumL s0 (bl y0) m) = S := ⟨_, rfl⟩
  rw [hq, hu, hrr] at hwr hrw
  rw [hSS] at hsm hrs
  have HFew := Lib.hid hfew; have HCut := Lib.hid hcut0; have HWR := Lib.hid hwr; have HSM := Lib.hid hsm; have HRA := Lib.hid hra; have HRB := Lib.hid hrb; have HRW0 := Lib.hid hrw; have HRS0 := Lib.hid hrs; have hF := Lib.hid hF; have hK := Lib.hid hK
  clear hfew hcut0 hb300 hbb hy0 hr hr' hv hl8 hwr hsm hra hrb hrw hrs hq hu hrr hSS hx hs hn hnc h0
  go_enter Tryd.func3, Tryd.ntmps3
  go_upto_region 2 with (first | (go_at_call 10; refine (HFew.out _).mono ?_; rintro e w1 ⟨rfl, hb1⟩; obtain ⟨hz, ⟨f0, f1, f2⟩, hzl, hzb⟩ := box3 hb1; obtain ⟨z0, z1, z2⟩ := id hz; clear hb1) | (go_at_call 11; refine (HCut.out _).mono ?_; rintro e w' ⟨rfl, rfl⟩))
  have hs3 := set3 hz (.slice a 8 c) (.string y0) (.int .u64 (m : Int))
  have hbs := below3 hzb (Nat.le_refl _) (.slice a 8 c) (.string y0) (.int .u64 (m : Int))
  clear hz f0 f1 f2 z0 z1 z2 hzl hzb HFew HCut
  generalize World.setCell (World.setCell (World.setCell w1 _ _) _ _) _ _ = V at hs3 hbs ⊢
  obtain ⟨c0, c1, c2⟩ := id hs3
  have hws := Lib.hid (hws0.on hbs)
  have hF := Lib.hid (hF.out.on hbs)
  have hK := Lib.hid (hK.out.on hbs)
  clear hws0
  obtain ⟨A0, hA0⟩ : ∃ A0, w.heap.size = A0 := ⟨_, rfl⟩
  have HA0 := Lib.hid hA0
  clear hA0
  go_upto_region 3 with (go_at_call 12; refine (HWR.out _ hws.out hK.out).mono ?_; rintro e w2 ⟨D3, y3, rfl, hblk2, hy2, hb⟩)
  have hW := HashAt.laid hblk2 y3 q
  have hbel : Below V.heap.size V (w2.alloc (.cells #[.slice (some ⟨D3, 0, none⟩) 8 8, .string y3, .int .u64 (q : Int)] 25)) := ((Bel.refl V).on hb |>.alloc _).b
  generalize World.alloc w2 _ = V2 at hW hbel ⊢
  generalize w2.heap.size = B3 at hW ⊢
  have hs3 := three_on hs3 hbel
  have hws := Lib.hid (hws.out.on hbel); have hF := Lib.hid (hF.out.on hbel); have hK := Lib.hid (hK.out.on hbel)
  have hbs := hbs.trans (hbel.mono hbs.size)
  have HW := Lib.hid hW; have HY3 := Lib.hid hy2
  clear c0 c1 c2 hb HWR hbel hblk2 hW hy2
  rw [HA0.out] at hs3 ⊢
  obtain ⟨c0, c1, c2⟩ := id hs3
  go_upto_region 4 with (go_at_call 13; refine (HSM.out _ hws.out hK.out).mono ?_; rintro e V3 ⟨rfl, hb⟩)
  have hs3 := three_on hs3 hb
  have HW := Lib.hid (HW.out.on hb)
  have hws := Lib.hid (hws.out.on hb); have hF := Lib.hid (hF.out.on hb); have hK := Lib.hid (hK.out.on hb)
  have hbs := hbs.trans (hb.mono hbs.size)
  clear c0 c1 c2 hb HSM
  obtain ⟨c0, c1, c2⟩ := id hs3
  have HC3 := Lib.hid (show V3.cell? ⟨A0, 0, none⟩ = some (.slice a 8 c) ∧ V3.cell? ⟨A0, 1, none⟩ = some (.string y0) ∧ V3.cell? ⟨A0, 2, none⟩ = some (.int .u64 (m : Int)) from ⟨c0, c1, c2⟩)
  have hS : (fun w' : World => (w'.cell? ⟨A0, 0, none⟩ = some (.slice a 8 c) ∧ w'.cell? ⟨A0, 1, none⟩ = some (.string y0) ∧ w'.cell? ⟨A0, 2, none⟩ = some (.int .u64 (m : Int))) ∧ Bel V3 w') V3 := ⟨HC3.out, Bel.refl V3⟩
  go_region_held3 (fun w' : World => (w'.cell? ⟨A0, 0, none⟩ = some (.slice a 8 c) ∧ w'.cell? ⟨A0, 1, none⟩ = some (.string y0) ∧ w'.cell? ⟨A0, 2, none⟩ = some (.int .u64 (m : Int))) ∧ Bel V3 w')
    (first | with_reducible assumption | (refine bel_three HC3.out.1 HC3.out.2.1 HC3.out.2.2 ?_; first | exact bel_of3 (by with_reducible assumption) | ((with_reducible refine Bel.drew ?_); exact bel_of3 (by with_reducible assumption)) | ((with_reducible refine Bel.drew ?_); exact Bel.refl _) | ((with_reducible refine Bel.on ?_ hb); first | exact bel_of3 (by with_reducible assumption) | exact Bel.drew (bel_of3 (by with_reducible assumption)) | exact Bel.drew (Bel.refl _))))
    (first
      | (go_at_call 14; refine (HRA.out _).mono ?_; rintro e w' ⟨rfl, hb⟩)
      | (go_at_call 15; refine (HRB.out _).mono ?_; rintro e w' ⟨rfl, hb⟩)
      | (go_at_call 16; refine (alive_any _ (hF.out.bel (by first | exact bel_of3 (by with_reducible assumption) | exact Bel.drew (Bel.refl _))) (hK.out.bel (by first | exact bel_of3 (by with_reducible assumption) | exact Bel.drew (Bel.refl _)))).mono ?_; rintro e w' ⟨rfl, hb⟩))
  obtain ⟨hc3, hbl⟩ : _ ∧ Bel V3 w' := ⟨(bel_three HC3.out.1 HC3.out.2.1 HC3.out.2.2 (bel_of3 (by with_reducible assumption))).1, bel_of3 (by with_reducible assumption)⟩
  have HW := Lib.hid (HW.out.on hbl.b)
  have hws := Lib.hid (hws.out.on hbl.b)
  have hbs := hbs.trans (hbl.b.mono hbs.size)
  have hs3 := hc3
  clear c0 c1 c2 hS HC3 HRA hF hK hbl
  obtain ⟨c0, c1, c2⟩ := hc3
  go_wp2_with fail
  refine (HRB.out _).mono ?_
  rintro e W5 ⟨rfl, hb5⟩
  have hs3 := three_on hs3 hb5
  have HW := Lib.hid (HW.out.on hb5)
  have hws := Lib.hid (hws.out.on hb5)
  have hbs := hbs.trans (hb5.mono hbs.size)
  clear c0 c1 c2 HRB hb5
  go_wp2_with fail
  refine (numbers_all W5).mono ?_
  rintro e V1 ⟨kv, rfl, hKA, hbk⟩
  have hs3 := three_on hs3 hbk
  have HW := Lib.hid (HW.out.on hbk)
  have hws := Lib.hid (hws.out.on hbk)
  have hbs := hbs.trans (hbk.mono hbs.size)
  have hKA' := hKA
  obtain ⟨k0, k1, rfl, hk0, hk1⟩ := hKA'
  obtain ⟨g0, o0, z0, rfl, hg0, -⟩ := hk0
  obtain ⟨g1, o1, z1, rfl, hg1, -⟩ := hk1
  simp only [S8.l_length, keysL_length] at hKA ⊢
  have HKA := Lib.hid hKA
  have hrw := HRW0.out (.agg #[.slice (some ⟨g0, o0, none⟩) 64 z0, .slice (some ⟨g1, o1, none⟩) 8 z1])
  have hrs := HRS0.out (.agg #[.slice (some ⟨g0, o0, none⟩) 64 z0, .slice (some ⟨g1, o1, none⟩) 8 z1])
  clear hKA hbk HRW0 HRS0
  go_upto_region 9 with fail
  have hb7 : Below V1.heap.size V1 (V1.alloc (.cells #[.slice (some ⟨g0, o0, none⟩) 64 z0, .slice (some ⟨g1, o1, none⟩) 8 z1] 37)) := by go_grown
  have h7 : (V1.alloc (.cells #[.slice (some ⟨g0, o0, none⟩) 64 z0, .slice (some ⟨g1, o1, none⟩) 8 z1] 37)).heap[V1.heap.size]? = some (.cells #[.slice (some ⟨g0, o0, none⟩) 64 z0, .slice (some ⟨g1, o1, none⟩) 8 z1] 37) := heap_alloc_new _ _
  obtain ⟨A7, hA7⟩ : ∃ A7, V1.heap.size = A7 := ⟨_, rfl⟩
  have hs3 := three_on hs3 hb7
  have HW := Lib.hid (HW.out.on hb7)
  have hws := Lib.hid (hws.out.on hb7)
  have hbs := hbs.trans (hb7.mono hbs.size)
  have HKA := Lib.hid (HKA.out.on hb7)
  rw [hA7] at h7 ⊢
  generalize World.alloc V1 _ = V at hb7 h7 hs3 HW hws hbs HKA ⊢
  have HD3 := Lib.hid (WSl.of8 HW.out.blk 8 rfl)
  have hcells : V.cell? ⟨A0, 0, none⟩ = some (.slice a 8 c) ∧ V.cell? ⟨A0, 1, none⟩ = some (.string y0) ∧ V.cell? ⟨A0, 2, none⟩ = some (.int .u64 (m : Int)) ∧ V.cell? ⟨B3, 0, none⟩ = some (.slice (some ⟨D3, 0, none⟩) 8 8) ∧ V.cell? ⟨B3, 1, none⟩ = some (.string y3) ∧ V.cell? ⟨B3, 2, none⟩ = some (.int .u64 (q : Int)) ∧ V.cell? ⟨A7, 0, none⟩ = some (.slice (some ⟨g0, o0, none⟩) 64 z0) ∧ V.cell? ⟨A7, 1, none⟩ = some (.slice (some ⟨g1, o1, none⟩) 8 z1) := ⟨hs3.1, hs3.2.1, hs3.2.2, HW.out.c0, HW.out.c1, HW.out.c2, by rw [cell_of_row _ _ _ _ _ _ h7]; rfl, by rw [cell_of_row _ _ _ _ _ _ h7]; rfl⟩
  have HC8 := Lib.hid hcells
  have hrw2 : ∀ W : World, KAt W (.agg #[.slice (some ⟨g0, o0, none⟩) 64 z0, .slice (some ⟨g1, o1, none⟩) 8 z1]) → WsAt W (.slice a 8 c) s0.l → Calls Tryd.prog 19 #[(.agg #[.slice (some ⟨g0, o0, none⟩) 64 z0, .slice (some ⟨g1, o1, none⟩) 8 z1]), .agg #[.slice a 8 c, .string y0, .int .u64 (m : Int)], .string b] W fun e w' => ∃ g o z, e = .returned (.agg #[.slice (some ⟨g, o, none⟩) 8 z, .string y3, .int .u64 (q : Int)]) ∧ WSl w' (some ⟨g, o, none⟩) 8 u.l ∧ Below W.heap.size W w' := by
    intro W h1 h2
    refine (hrw W h1 h2).mono ?_
    rintro e w' ⟨v, rfl, ⟨g, o, z, xr, rfl, hw1, hxr⟩, hb⟩
    obtain rfl : xr = y3 := bl_inj (hxr.trans HY3.out.symm)
    exact ⟨g, o, z, rfl, hw1.sl, hb⟩
  have hsame : ∀ (g o z : Nat) (W : World), WSl W (some ⟨D3, 0, none⟩) 8 u.l → WSl W (some ⟨g, o, none⟩) 8 u.l → Calls Tryd.prog 17 #[.agg #[.slice (some ⟨D3, 0, none⟩) 8 8, .string y3, .int .u64 (q : Int)], .agg #[.slice (some ⟨g, o, none⟩) 8 z, .string y3, .int .u64 (q : Int)]] W fun e w' => e = .returned (.bool true) ∧ Below W.heap.size W w' := by
    intro g o z W h1 h2
    have h := same_any (some ⟨D3, 0, none⟩) (some ⟨g, o, none⟩) 8 8 8 z u.l u.l y3 y3 q q (by decide) (by decide) W h1 h2
    rw [sameB_self] at h
    exact h
  have HRW := Lib.hid hrw2; have HSAME := Lib.hid hsame; have HRS := Lib.hid hrs
  obtain ⟨d0, d1, d2, d3, d4, d5, d6, d7⟩ := hcells
  have bel_of8 : ∀ w' : World, ((w'.cell? ⟨A0, 0, none⟩ = some (.slice a 8 c) ∧ w'.cell? ⟨A0, 1, none⟩ = some (.string y0) ∧ w'.cell? ⟨A0, 2, none⟩ = some (.int .u64 (m : Int)) ∧ w'.cell? ⟨B3, 0, none⟩ = some (.slice (some ⟨D3, 0, none⟩) 8 8) ∧ w'.cell? ⟨B3, 1, none⟩ = some (.string y3) ∧ w'.cell? ⟨B3, 2, none⟩ = some (.int .u64 (q : Int)) ∧ w'.cell? ⟨A7, 0, none⟩ = some (.slice (some ⟨g0, o0, none⟩) 64 z0) ∧ w'.cell? ⟨A7, 1, none⟩ = some (.slice (some ⟨g1, o1, none⟩) 8 z1)) ∧ Bel V w') → Bel V w' := fun w' h => h.2
  have HB8 := Lib.hid bel_of8
  clear hrw hrs hrw2 hsame hb7 h7 hs3 HW HY3 bel_of8
  have hS : (fun w' : World => (w'.cell? ⟨A0, 0, none⟩ = some (.slice a 8 c) ∧ w'.cell? ⟨A0, 1, none⟩ = some (.string y0) ∧ w'.cell? ⟨A0, 2, none⟩ = some (.int .u64 (m : Int)) ∧ w'.cell? ⟨B3, 0, none⟩ = some (.slice (some ⟨D3, 0, none⟩) 8 8) ∧ w'.cell? ⟨B3, 1, none⟩ = some (.string y3) ∧ w'.cell? ⟨B3, 2, none⟩ = some (.int .u64 (q : Int)) ∧ w'.cell? ⟨A7, 0, none⟩ = some (.slice (some ⟨g0, o0, none⟩) 64 z0) ∧ w'.cell? ⟨A7, 1, none⟩ = some (.slice (some ⟨g1, o1, none⟩) 8 z1)) ∧ Bel V w') V := ⟨HC8.out, Bel.refl V⟩
  go_region_held3 (fun w' : World => (w'.cell? ⟨A0, 0, none⟩ = some (.slice a 8 c) ∧ w'.cell? ⟨A0, 1, none⟩ = some (.string y0) ∧ w'.cell? ⟨A0, 2, none⟩ = some (.int .u64 (m : Int)) ∧ w'.cell? ⟨B3, 0, none⟩ = some (.slice (some ⟨D3, 0, none⟩) 8 8) ∧ w'.cell? ⟨B3, 1, none⟩ = some (.string y3) ∧ w'.cell? ⟨B3, 2, none⟩ = some (.int .u64 (q : Int)) ∧ w'.cell? ⟨A7, 0, none⟩ = some (.slice (some ⟨g0, o0, none⟩) 64 z0) ∧ w'.cell? ⟨A7, 1, none⟩ = some (.slice (some ⟨g1, o1, none⟩) 8 z1)) ∧ Bel V w')
    (first | with_reducible assumption | (refine bel_eight HC8.out ?_; first | exact HB8.out _ (by with_reducible assumption) | ((with_reducible refine Bel.drew ?_); exact HB8.out _ (by with_reducible assumption)) | ((with_reducible refine Bel.drew ?_); exact Bel.refl _) | ((with_reducible refine Bel.on ?_ hb); first | exact HB8.out _ (by with_reducible assumption) | exact Bel.drew (HB8.out _ (by with_reducible assumption)) | exact Bel.drew (Bel.refl _))))
    (first
      | (go_at_call 19; refine (HRW.out _ (HKA.out.bel (by first | exact HB8.out _ (by with_reducible assumption) | exact Bel.drew (Bel.refl _))) (hws.out.bel (by first | exact HB8.out _ (by with_reducible assumption) | exact Bel.drew (Bel.refl _)))).mono ?_; rintro e w' ⟨gn, on, zn, rfl, hN2, hb⟩)
      | (go_at_call 17; with_reducible refine (HSAME.out _ _ _ _ (WSl.bel HD3.out (HB8.out _ (by with_reducible assumption))) hN2).mono ?_; rintro e w' ⟨rfl, hb⟩)
      | (go_at_call 20; refine (HRS.out _ (HKA.out.bel (HB8.out _ (by with_reducible assumption))) (hws.out.bel (HB8.out _ (by with_reducible assumption)))).mono ?_; rintro e w' ⟨rfl, hb⟩))
  have hend : Below w.heap.size w w' := by
    have hq := HB8.out w' (by with_reducible assumption)
    exact hbs.trans (hq.b.mono hbs.size)
  clear HB8 HC8 HRW HSAME HRS hS
  go_wp2_with fail
  go_ret
  exact ⟨rfl, hend⟩
theorem sums_any (a : Option Addr) (n c : Nat) (x s : ByteArray) (m : Nat) (hx : x.size ≤ maxLen) (hn : n ≤ maxLen) (hnc : n ≤ c) (h0 : a = none → n = 0 ∧ c = 0) (hs : s.size ≤ maxLen) (hm : m < 18446744073709551616)
    (l : List (BitVec 32)) (w : World) (hv : WSl w a n l) (hF : FirstAt w) (hK : KeysAt w) :
    Calls Tryd.prog 3 #[.agg #[.slice a n c, .string x, .int .u64 (m : Int)], .string s] w fun e w' => e = .returned (.bool true) ∧ Below w.heap.size w w' := by
  cases hr : rightB (min n 9) (cutS x 66).size m with
  | true => exact sums_good a n c x s m hx hn hnc h0 hs hm (l.take 9) w (hv.take 9) hr hF hK
  | false => exact sums_bad a n c x s m hx hn hnc h0 hs hm w hr hF hK
end Go.Proofs.YtohoenkdfconpaaDoor
