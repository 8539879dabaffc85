/- DeriveExpands: any secret expanded, and split, by any word, is as the document says, or refused. -/
import Derived.Test.YtohoenkdfconpaaDoorFrefe
import Derived.Test.YtohoenkdfconpaaDoorFbeg
namespace Go.Proofs.YtohoenkdfconpaaDoor
open Go.RowKit Go.Sort
set_option maxRecDepth 100000

theorem bel_two {w0 w : World} {p0 p1 : Addr} {v0 v1 : Value} (h : w0.cell? p0 = some v0 ∧ w0.cell? p1 = some v1) (hb : Bel w0 w) : (w.cell? p0 = some v0 ∧ w.cell? p1 = some v1) ∧ Bel w0 w :=
  ⟨⟨by rw [hb.b.cell (World.block_lt_of_cell? w0 _ h.1)]; exact h.1, by rw [hb.b.cell (World.block_lt_of_cell? w0 _ h.2)]; exact h.2⟩, hb⟩
theorem StrsAt.cut {w : World} {g n cap f : Nat} {l r : List ByteArray} (h : StrsAt w (.slice (some ⟨g, 0, none⟩) n cap) l) (hp : ∃ t, l = r ++ t) (hr : r.length ≤ n) (hf : f = r.length) (_hc : f ≤ cap) : StrsAt w (.slice (some ⟨g, 0, none⟩) f cap) r := by
  subst hf
  obtain ⟨t, rfl⟩ := hp
  obtain ⟨b, o, c, e, hb, hcl⟩ := h
  have h3 : (g = b ∧ 0 = o) ∧ n = (r ++ t).length ∧ cap = c := by simpa using e
  obtain ⟨⟨rfl, rfl⟩, hnl, rfl⟩ := h3
  refine ⟨g, 0, cap, rfl, hb, fun i hi => ?_⟩
  rw [hcl i (by rw [← hnl]; omega)]
  simp [List.getD, List.getElem?_append_left hi]

set_option maxHeartbeats 8000000 in
theorem deriveExpands_any (k s : ByteArray) (i : Int) (hk : k.size ≤ maxLen) (hs : s.size ≤ maxLen) (_hi : -9223372036854775808 ≤ i ∧ i ≤ 9223372036854775807) (w : World) (hF : FirstAt w) (hK : KeysAt w) :
    Calls Tryd.prog 8 #[.string k, .string s, .int .i64 i] w fun e w' => e = .returned (.bool true) ∧ Below w.heap.size w w' := by
  have h1 := cutd_any k hk
  have h2 := cutd_any s hs
  have hb1 := cutS_size k 150
  have hb2 := cutS_size s 150
  obtain ⟨c, hx⟩ : ∃ x, cutS k 150 = x := ⟨_, rfl⟩
  obtain ⟨d, hy⟩ : ∃ y, cutS s 150 = y := ⟨_, rfl⟩
  rw [hx] at h1 hb1
  rw [hy] at h2 hb2
  have H1 := Lib.hid h1; have H2 := Lib.hid h2
  clear h1 h2 hx hy hk hs
  go_enter Tryd.func8, Tryd.ntmps8
  go_upto_region 2 with (go_at_call 26; (first | with_reducible refine (H1.out _).mono ?_ | with_reducible refine (H2.out _).mono ?_); rintro e w' ⟨rfl, rfl⟩)
  clear H1 H2
  rcases (show i < 0 ∨ 8160 < i ∨ (0 ≤ i ∧ i ≤ 200) ∨ (200 < i ∧ i ≤ 8160) by omega) with hA | hA | hA | hA
  · have n1 : decide (200 < i) = false := by simp; omega
    have n2 : decide (i < 0) = true := by simp; omega
    have hE := fun W => expand_bad c d i (by omega) W
    have hSp := fun W => split_bad c d i (by omega) W
    have HE := Lib.hid hE; have HSP := Lib.hid hSp; have HAL := Lib.hid alived_any
    have HF := Lib.hid hF; have HK := Lib.hid hK
    clear hE hSp hF hK
    go_upto_region 4 with fail
    go_wp2_with fail
    refine (HE.out _).mono ?_
    rintro e w1 ⟨rfl, rfl⟩
    go_wp2_with fail
    refine (HSP.out _).mono ?_
    rintro e w1 ⟨rfl, rfl⟩
    go_wp2_with fail
    refine (numbers_all _).mono ?_
    rintro e w2 ⟨kv, rfl, hKA, hb2⟩
    obtain ⟨k0, k1, rfl, hk0, hk1⟩ := hKA
    obtain ⟨g0, o0, z0, rfl, hg0, -⟩ := hk0
    obtain ⟨g1, o1, z1, rfl, hg1, -⟩ := hk1
    have hb3 : Below w2.heap.size w2 (w2.alloc (.cells #[.slice (some ⟨g0, o0, none⟩) keysL.length z0, .slice (some ⟨g1, o1, none⟩) firstS.l.length z1] 37)) := by go_grown
    have HF2 := Lib.hid ((HF.out.on hb2).on hb3); have HK2 := Lib.hid ((HK.out.on hb2).on hb3)
    have hbb := hb2.trans (hb3.mono hb2.size)
    clear HF HK HE HSP hb2 hb3
    go_upto_region 8 with fail
    generalize World.alloc w2 _ = V at HF2 HK2 hbb ⊢
    go_wp2_with fail
    refine (HAL.out _ HF2.out HK2.out).mono ?_
    rintro e w3 ⟨rfl, hb4⟩
    have hend := hbb.trans (hb4.mono hbb.size)
    clear HF2 HK2 HAL hb4 hbb
    go_wp2_with fail
    go_ret
    exact ⟨by first | rfl | simp, hend⟩
  · have n1 : decide (200 < i) = true := by simp; omega
    have n2 : decide (i ≤ 8160) = false := by simp; omega
    have n3 : decide (i < 0) = false := by simp; omega
    have n4 : decide (8160 < i) = true := by simp; omega
    have hE := fun W => expand_bad c d i (by omega) W
    have hSp := fun W => split_bad c d i (by omega) W
    have HE := Lib.hid hE; have HSP := Lib.hid hSp; have HAL := Lib.hid alived_any
    have HF := Lib.hid hF; have HK := Lib.hid hK
    clear hE hSp hF hK
    go_upto_region 4 with fail
    go_wp2_with fail
    refine (HE.out _).mono ?_
    rintro e w1 ⟨rfl, rfl⟩
    go_wp2_with fail
    refine (HSP.out _).mono ?_
    rintro e w1 ⟨rfl, rfl⟩
    go_wp2_with fail
    refine (numbers_all _).mono ?_
    rintro e w2 ⟨kv, rfl, hKA, hb2⟩
    obtain ⟨k0, k1, rfl, hk0, hk1⟩ := hKA
    obtain ⟨g0, o0, z0, rfl, hg0, -⟩ := hk0
    obtain ⟨g1, o1, z1, rfl, hg1, -⟩ := hk1
    have hb3 : Below w2.heap.size w2 (w2.alloc (.cells #[.slice (some ⟨g0, o0, none⟩) keysL.length z0, .slice (some ⟨g1, o1, none⟩) firstS.l.length z1] 37)) := by go_grown
    have HF2 := Lib.hid ((HF.out.on hb2).on hb3); have HK2 := Lib.hid ((HK.out.on hb2).on hb3)
    have hbb := hb2.trans (hb3.mono hb2.size)
    clear HF HK HE HSP hb2 hb3
    go_upto_region 8 with fail
    generalize World.alloc w2 _ = V at HF2 HK2 hbb ⊢
    go_wp2_with fail
    refine (HAL.out _ HF2.out HK2.out).mono ?_
    rintro e w3 ⟨rfl, hb4⟩
    have hend := hbb.trans (hb4.mono hbb.size)
    clear HF2 HK2 HAL hb4 hbb
    go_wp2_with fail
    go_ret
    exact ⟨by first | rfl | simp, hend⟩
  · obtain ⟨m, rfl⟩ : ∃ m : Nat, i = (m : Int) := ⟨i.toNat, by omega⟩
    have n1 : decide (200 < (m : Int)) = false := by simp; omega
    go_upto_region 4 with fail
    clear n1
    have hE := fun W p q => expand_good c d m (by omega) (by omega) (by omega) W p q
    have hSp := fun W p q => split_good c d m (by omega) (by omega) (by omega) W p q
    have hRE := fun kv W h => refexpand_any kv c d m (by omega) (by omega) (by omega) W h
    obtain ⟨f, hf⟩ : ∃ f, min m 6 = f := ⟨_, rfl⟩
    have hfm : min (m : Int) 6 = (f : Int) := by omega
    have hRS := fun kv W h => refsplit_any kv c d f (by omega) (by omega) (by omega) W h
    have hlf := rowT_length (bl c) (bl d) f
    have hpre := rowT_pre (bl c) (bl d) f m (by omega)
    obtain ⟨X, hX⟩ : ∃ X, strL (expL (bl c) (bl d) m) = X := ⟨_, rfl⟩
    rw [hX] at hE hRE
    obtain ⟨Rf, hRf⟩ : ∃ R, rowT (bl c) (bl d) f = R := ⟨_, rfl⟩
    obtain ⟨Rm, hRm⟩ : ∃ R, rowT (bl c) (bl d) m = R := ⟨_, rfl⟩
    rw [hRf] at hRS hlf hpre
    rw [hRm] at hSp hpre
    have HE := Lib.hid hE; have HSP := Lib.hid hSp; have HRE := Lib.hid hRE; have HRS := Lib.hid hRS; have HAL := Lib.hid alived_any; have HPRE := Lib.hid hpre
    have HLF := Lib.hid hlf
    have HF := Lib.hid hF; have HK := Lib.hid hK
    have m0 : decide ((m : Int) < 0) = false := by simp
    have m1 : decide (8160 < (m : Int)) = false := by simp; omega
    have m2 : decide (255 < (m : Int)) = false := by simp; omega
    clear hE hSp hRE hRS hF hK hX hRf hRm hlf hpre
    go_wp2_with fail
    refine (HE.out _ HF.out HK.out).mono ?_
    rintro e w1 ⟨rfl, hb1⟩
    have HF := Lib.hid (HF.out.on hb1); have HK := Lib.hid (HK.out.on hb1)
    clear HE
    go_wp2_with fail
    refine (HSP.out _ HF.out HK.out).mono ?_
    rintro e w2 ⟨g, cap, rfl, hs2, hcap, hb2⟩
    have HF := Lib.hid (HF.out.on hb2); have HK := Lib.hid (HK.out.on hb2); have HS := Lib.hid hs2
    have hbb := hb1.trans (hb2.mono hb1.size)
    clear HSP hs2 hb1 hb2
    go_wp2_with fail
    refine (numbers_all _).mono ?_
    rintro e w3 ⟨kv, rfl, hKA, hb3⟩
    have HF := Lib.hid (HF.out.on hb3); have HK := Lib.hid (HK.out.on hb3); have HS := Lib.hid (HS.out.on hb3)
    have hbb := hbb.trans (hb3.mono hbb.size)
    have hKA' := hKA
    obtain ⟨k0, k1, rfl, hk0, hk1⟩ := hKA'
    obtain ⟨g0, o0, z0, rfl, hg0, -⟩ := hk0
    obtain ⟨g1, o1, z1, rfl, hg1, -⟩ := hk1
    simp only [S8.l_length, keysL_length] at hKA ⊢
    have HKA := Lib.hid hKA
    clear hKA hb3
    go_upto_region 9 with fail
    have hb7 : Below w3.heap.size w3 (w3.alloc (.cells #[.slice (some ⟨g0, o0, none⟩) 64 z0, .slice (some ⟨g1, o1, none⟩) 8 z1] 37)) := by go_grown
    have h7 : (w3.alloc (.cells #[.slice (some ⟨g0, o0, none⟩) 64 z0, .slice (some ⟨g1, o1, none⟩) 8 z1] 37)).heap[w3.heap.size]? = some (.cells #[.slice (some ⟨g0, o0, none⟩) 64 z0, .slice (some ⟨g1, o1, none⟩) 8 z1] 37) := heap_alloc_new _ _
    obtain ⟨A7, hA7⟩ : ∃ A7, w3.heap.size = A7 := ⟨_, rfl⟩
    have HF := Lib.hid (HF.out.on hb7); have HK := Lib.hid (HK.out.on hb7); have HS := Lib.hid (HS.out.on hb7); have HKA := Lib.hid (HKA.out.on hb7)
    have hbb := hbb.trans (hb7.mono hbb.size)
    rw [hA7] at h7 ⊢
    generalize World.alloc w3 _ = V0 at HF HK HS HKA hbb h7 ⊢
    have c0 : V0.cell? ⟨A7, 0, none⟩ = some (.slice (some ⟨g0, o0, none⟩) 64 z0) := by rw [cell_of_row _ _ _ _ _ _ h7]; rfl
    have c1 : V0.cell? ⟨A7, 1, none⟩ = some (.slice (some ⟨g1, o1, none⟩) 8 z1) := by rw [cell_of_row _ _ _ _ _ _ h7]; rfl
    have hlt7 : A7 < V0.heap.size := (Array.getElem?_eq_some_iff.1 h7).1
    have H7 := Lib.hid h7
    clear h7 hb7 hA7
    go_wp2_with fail
    refine (HRE.out (.agg #[.slice (some ⟨g0, o0, none⟩) 64 z0, .slice (some ⟨g1, o1, none⟩) 8 z1]) _ HKA.out).mono ?_
    rintro e w4 ⟨rfl, hb4⟩
    have hbl4 : Bel V0 w4 := ⟨hb4⟩
    clear c0 c1 HRE hb4
    go_wp2_with fail
    refine (HAL.out _ (HF.out.bel hbl4) (HK.out.bel hbl4)).mono ?_
    rintro e V ⟨rfl, hb5⟩
    have hbl5 : Bel V0 V := hbl4.on hb5
    have HS := Lib.hid (HS.out.on hbl5.b); have HKA := Lib.hid (HKA.out.on hbl5.b)
    have hbb := hbb.trans (hbl5.b.mono hbb.size)
    have h7 : V.heap[A7]? = some (.cells #[.slice (some ⟨g0, o0, none⟩) 64 z0, .slice (some ⟨g1, o1, none⟩) 8 z1] 37) := by rw [hbl5.b.block _ hlt7]; exact H7.out
    have c0 : V.cell? ⟨A7, 0, none⟩ = some (.slice (some ⟨g0, o0, none⟩) 64 z0) := by rw [cell_of_row _ _ _ _ _ _ h7]; rfl
    have c1 : V.cell? ⟨A7, 1, none⟩ = some (.slice (some ⟨g1, o1, none⟩) 8 z1) := by rw [cell_of_row _ _ _ _ _ _ h7]; rfl
    clear HAL HF HK hb5 hbl4 hbl5 H7 h7 hlt7
    have l0 : (f : Int) ≤ (cap : Int) := by omega
    have l1 : (0 : Int) ≤ (f : Int) := by omega
    have HCUT := Lib.hid (StrsAt.cut HS.out HPRE.out (by rw [HLF.out]; omega) (by rw [HLF.out]) (by omega))
    have hrs2 : ∀ W : World, KAt W (.agg #[.slice (some ⟨g0, o0, none⟩) 64 z0, .slice (some ⟨g1, o1, none⟩) 8 z1]) → Calls Tryd.prog 36 #[(.agg #[.slice (some ⟨g0, o0, none⟩) 64 z0, .slice (some ⟨g1, o1, none⟩) 8 z1]), .string c, .string d, .int .i64 (f : Int)] W fun e w' => ∃ g' cap', e = .returned (.slice (some ⟨g', 0, none⟩) f cap') ∧ StrsAt w' (.slice (some ⟨g', 0, none⟩) f cap') Rf ∧ Below W.heap.size W w' := fun W h => HRS.out (.agg #[.slice (some ⟨g0, o0, none⟩) 64 z0, .slice (some ⟨g1, o1, none⟩) 8 z1]) W h
    have htx : ∀ (g' cap' : Nat) (W : World), StrsAt W (.slice (some ⟨g, 0, none⟩) f cap) Rf → StrsAt W (.slice (some ⟨g', 0, none⟩) f cap') Rf → Calls Tryd.prog 35 #[.slice (some ⟨g, 0, none⟩) f cap, .slice (some ⟨g', 0, none⟩) f cap'] W fun e w' => e = .returned (.bool true) ∧ Below W.heap.size W w' := fun g' cap' W h1 h2 => texts_same g g' cap cap' f Rf HLF.out.symm (by omega) W h1 h2
    have HRS2 := Lib.hid hrs2; have HTX := Lib.hid htx
    have HC2 := Lib.hid (show V.cell? ⟨A7, 0, none⟩ = some (.slice (some ⟨g0, o0, none⟩) 64 z0) ∧ V.cell? ⟨A7, 1, none⟩ = some (.slice (some ⟨g1, o1, none⟩) 8 z1) from ⟨c0, c1⟩)
    have bel_of2 : ∀ w' : World, ((w'.cell? ⟨A7, 0, none⟩ = some (.slice (some ⟨g0, o0, none⟩) 64 z0) ∧ w'.cell? ⟨A7, 1, none⟩ = some (.slice (some ⟨g1, o1, none⟩) 8 z1)) ∧ Bel V w') → Bel V w' := fun w' h => h.2
    have HB2 := Lib.hid bel_of2
    clear hrs2 htx bel_of2 HRS HS HPRE HLF
    go_upto_region 14 with fail
    have hS : (fun w' : World => (w'.cell? ⟨A7, 0, none⟩ = some (.slice (some ⟨g0, o0, none⟩) 64 z0) ∧ w'.cell? ⟨A7, 1, none⟩ = some (.slice (some ⟨g1, o1, none⟩) 8 z1)) ∧ Bel V w') V := ⟨HC2.out, Bel.refl V⟩
    go_region_held3 (fun w' : World => (w'.cell? ⟨A7, 0, none⟩ = some (.slice (some ⟨g0, o0, none⟩) 64 z0) ∧ w'.cell? ⟨A7, 1, none⟩ = some (.slice (some ⟨g1, o1, none⟩) 8 z1)) ∧ Bel V w')
      (first | with_reducible assumption | (refine bel_two HC2.out ?_; first | exact (HB2.out _ (by with_reducible assumption)) | ((with_reducible refine Bel.drew ?_); exact (HB2.out _ (by with_reducible assumption))) | ((with_reducible refine Bel.drew ?_); exact Bel.refl _) | ((with_reducible refine Bel.on ?_ hb); first | exact (HB2.out _ (by with_reducible assumption)) | exact Bel.drew (HB2.out _ (by with_reducible assumption)) | exact Bel.drew (Bel.refl _))))
      (first
        | (go_at_call 36; refine (HRS2.out _ (HKA.out.bel (by first | exact (HB2.out _ (by with_reducible assumption)) | exact Bel.drew (Bel.refl _)))).mono ?_; rintro e w' ⟨g', cap', rfl, hSf, hb⟩)
        | (go_at_call 35; refine (HTX.out _ _ _ (StrsAt.on HCUT.out (Bel.b (by first | exact (HB2.out _ (by with_reducible assumption)) | exact Bel.drew (Bel.refl _)))) hSf).mono ?_; rintro e w' ⟨rfl, hb⟩))
    have hend : Below w.heap.size w w' := by
      have hq := HB2.out w' (by with_reducible assumption)
      exact hbb.trans (hq.b.mono hbb.size)
    clear HB2 HC2 HRS2 HTX HCUT hS c0 c1
    go_wp2_with fail
    go_ret
    exact ⟨by first | rfl | simp, hend⟩
  · obtain ⟨m, hm⟩ : ∃ m : Nat, 100 + i % 100 = (m : Int) := ⟨(100 + i % 100).toNat, by omega⟩
    have n1 : decide (200 < i) = true := by simp; omega
    have n2 : decide (i ≤ 8160) = true := by simp; omega
    have n3 : i.tmod 100 = i % 100 := Int.tmod_eq_emod_of_nonneg (by omega)
    have n4 : IntKind.i64.wrap (i % 100) = i % 100 := IntWalk.i64_in _ (by omega)
    have n5 : IntKind.i64.wrap (100 + i % 100) = 100 + i % 100 := IntWalk.i64_in _ (by omega)
    have hml : m ≤ 200 := by omega
    go_upto_region 4 with fail
    clear n1 n2 n3 n4 n5 hm
    have hE := fun W p q => expand_good c d m (by omega) (by omega) (by omega) W p q
    have hSp := fun W p q => split_good c d m (by omega) (by omega) (by omega) W p q
    have hRE := fun kv W h => refexpand_any kv c d m (by omega) (by omega) (by omega) W h
    obtain ⟨f, hf⟩ : ∃ f, min m 6 = f := ⟨_, rfl⟩
    have hfm : min (m : Int) 6 = (f : Int) := by omega
    have hRS := fun kv W h => refsplit_any kv c d f (by omega) (by omega) (by omega) W h
    have hlf := rowT_length (bl c) (bl d) f
    have hpre := rowT_pre (bl c) (bl d) f m (by omega)
    obtain ⟨X, hX⟩ : ∃ X, strL (expL (bl c) (bl d) m) = X := ⟨_, rfl⟩
    rw [hX] at hE hRE
    obtain ⟨Rf, hRf⟩ : ∃ R, rowT (bl c) (bl d) f = R := ⟨_, rfl⟩
    obtain ⟨Rm, hRm⟩ : ∃ R, rowT (bl c) (bl d) m = R := ⟨_, rfl⟩
    rw [hRf] at hRS hlf hpre
    rw [hRm] at hSp hpre
    have HE := Lib.hid hE; have HSP := Lib.hid hSp; have HRE := Lib.hid hRE; have HRS := Lib.hid hRS; have HAL := Lib.hid alived_any; have HPRE := Lib.hid hpre
    have HLF := Lib.hid hlf
    have HF := Lib.hid hF; have HK := Lib.hid hK
    have m0 : decide ((m : Int) < 0) = false := by simp
    have m1 : decide (8160 < (m : Int)) = false := by simp; omega
    have m2 : decide (255 < (m : Int)) = false := by simp; omega
    clear hE hSp hRE hRS hF hK hX hRf hRm hlf hpre
    go_wp2_with fail
    refine (HE.out _ HF.out HK.out).mono ?_
    rintro e w1 ⟨rfl, hb1⟩
    have HF := Lib.hid (HF.out.on hb1); have HK := Lib.hid (HK.out.on hb1)
    clear HE
    go_wp2_with fail
    refine (HSP.out _ HF.out HK.out).mono ?_
    rintro e w2 ⟨g, cap, rfl, hs2, hcap, hb2⟩
    have HF := Lib.hid (HF.out.on hb2); have HK := Lib.hid (HK.out.on hb2); have HS := Lib.hid hs2
    have hbb := hb1.trans (hb2.mono hb1.size)
    clear HSP hs2 hb1 hb2
    go_wp2_with fail
    refine (numbers_all _).mono ?_
    rintro e w3 ⟨kv, rfl, hKA, hb3⟩
    have HF := Lib.hid (HF.out.on hb3); have HK := Lib.hid (HK.out.on hb3); have HS := Lib.hid (HS.out.on hb3)
    have hbb := hbb.trans (hb3.mono hbb.size)
    have hKA' := hKA
    obtain ⟨k0, k1, rfl, hk0, hk1⟩ := hKA'
    obtain ⟨g0, o0, z0, rfl, hg0, -⟩ := hk0
    obtain ⟨g1, o1, z1, rfl, hg1, -⟩ := hk1
    simp only [S8.l_length, keysL_length] at hKA ⊢
    have HKA := Lib.hid hKA
    clear hKA hb3
    go_upto_region 9 with fail
    have hb7 : Below w3.heap.size w3 (w3.alloc (.cells #[.slice (some ⟨g0, o0, none⟩) 64 z0, .slice (some ⟨g1, o1, none⟩) 8 z1] 37)) := by go_grown
    have h7 : (w3.alloc (.cells #[.slice (some ⟨g0, o0, none⟩) 64 z0, .slice (some ⟨g1, o1, none⟩) 8 z1] 37)).heap[w3.heap.size]? = some (.cells #[.slice (some ⟨g0, o0, none⟩) 64 z0, .slice (some ⟨g1, o1, none⟩) 8 z1] 37) := heap_alloc_new _ _
    obtain ⟨A7, hA7⟩ : ∃ A7, w3.heap.size = A7 := ⟨_, rfl⟩
    have HF := Lib.hid (HF.out.on hb7); have HK := Lib.hid (HK.out.on hb7); have HS := Lib.hid (HS.out.on hb7); have HKA := Lib.hid (HKA.out.on hb7)
    have hbb := hbb.trans (hb7.mono hbb.size)
    rw [hA7] at h7 ⊢
    generalize World.alloc w3 _ = V0 at HF HK HS HKA hbb h7 ⊢
    have c0 : V0.cell? ⟨A7, 0, none⟩ = some (.slice (some ⟨g0, o0, none⟩) 64 z0) := by rw [cell_of_row _ _ _ _ _ _ h7]; rfl
    have c1 : V0.cell? ⟨A7, 1, none⟩ = some (.slice (some ⟨g1, o1, none⟩) 8 z1) := by rw [cell_of_row _ _ _ _ _ _ h7]; rfl
    have hlt7 : A7 < V0.heap.size := (Array.getElem?_eq_some_iff.1 h7).1
    have H7 := Lib.hid h7
    clear h7 hb7 hA7
    go_wp2_with fail
    refine (HRE.out (.agg #[.slice (some ⟨g0, o0, none⟩) 64 z0, .slice (some ⟨g1, o1, none⟩) 8 z1]) _ HKA.out).mono ?_
    rintro e w4 ⟨rfl, hb4⟩
    have hbl4 : Bel V0 w4 := ⟨hb4⟩
    clear c0 c1 HRE hb4
    go_wp2_with fail
    refine (HAL.out _ (HF.out.bel hbl4) (HK.out.bel hbl4)).mono ?_
    rintro e V ⟨rfl, hb5⟩
    have hbl5 : Bel V0 V := hbl4.on hb5
    have HS := Lib.hid (HS.out.on hbl5.b); have HKA := Lib.hid (HKA.out.on hbl5.b)
    have hbb := hbb.trans (hbl5.b.mono hbb.size)
    have h7 : V.heap[A7]? = some (.cells #[.slice (some ⟨g0, o0, none⟩) 64 z0, .slice (some ⟨g1, o1, none⟩) 8 z1] 37) := by rw [hbl5.b.block _ hlt7]; exact H7.out
    have c0 : V.cell? ⟨A7, 0, none⟩ = some (.slice (some ⟨g0, o0, none⟩) 64 z0) := by rw [cell_of_row _ _ _ _ _ _ h7]; rfl
    have c1 : V.cell? ⟨A7, 1, none⟩ = some (.slice (some ⟨g1, o1, none⟩) 8 z1) := by rw [cell_of_row _ _ _ _ _ _ h7]; rfl
    clear HAL HF HK hb5 hbl4 hbl5 H7 h7 hlt7
    have l0 : (f : Int) ≤ (cap : Int) := by omega
    have l1 : (0 : Int) ≤ (f : Int) := by omega
    have HCUT := Lib.hid (StrsAt.cut HS.out HPRE.out (by rw [HLF.out]; omega) (by rw [HLF.out]) (by omega))
    have hrs2 : ∀ W : World, KAt W (.agg #[.slice (some ⟨g0, o0, none⟩) 64 z0, .slice (some ⟨g1, o1, none⟩) 8 z1]) → Calls Tryd.prog 36 #[(.agg #[.slice (some ⟨g0, o0, none⟩) 64 z0, .slice (some ⟨g1, o1, none⟩) 8 z1]), .string c, .string d, .int .i64 (f : Int)] W fun e w' => ∃ g' cap', e = .returned (.slice (some ⟨g', 0, none⟩) f cap') ∧ StrsAt w' (.slice (some ⟨g', 0, none⟩) f cap') Rf ∧ Below W.heap.size W w' := fun W h => HRS.out (.agg #[.slice (some ⟨g0, o0, none⟩) 64 z0, .slice (some ⟨g1, o1, none⟩) 8 z1]) W h
    have htx : ∀ (g' cap' : Nat) (W : World), StrsAt W (.slice (some ⟨g, 0, none⟩) f cap) Rf → StrsAt W (.slice (some ⟨g', 0, none⟩) f cap') Rf → Calls Tryd.prog 35 #[.slice (some ⟨g, 0, none⟩) f cap, .slice (some ⟨g', 0, none⟩) f cap'] W fun e w' => e = .returned (.bool true) ∧ Below W.heap.size W w' := fun g' cap' W h1 h2 => texts_same g g' cap cap' f Rf HLF.out.symm (by omega) W h1 h2
    have HRS2 := Lib.hid hrs2; have HTX := Lib.hid htx
    have HC2 := Lib.hid (show V.cell? ⟨A7, 0, none⟩ = some (.slice (some ⟨g0, o0, none⟩) 64 z0) ∧ V.cell? ⟨A7, 1, none⟩ = some (.slice (some ⟨g1, o1, none⟩) 8 z1) from ⟨c0, c1⟩)
    have bel_of2 : ∀ w' : World, ((w'.cell? ⟨A7, 0, none⟩ = some (.slice (some ⟨g0, o0, none⟩) 64 z0) ∧ w'.cell? ⟨A7, 1, none⟩ = some (.slice (some ⟨g1, o1, none⟩) 8 z1)) ∧ Bel V w') → Bel V w' := fun w' h => h.2
    have HB2 := Lib.hid bel_of2
    clear hrs2 htx bel_of2 HRS HS HPRE HLF
    go_upto_region 14 with fail
    have hS : (fun w' : World => (w'.cell? ⟨A7, 0, none⟩ = some (.slice (some ⟨g0, o0, none⟩) 64 z0) ∧ w'.cell? ⟨A7, 1, none⟩ = some (.slice (some ⟨g1, o1, none⟩) 8 z1)) ∧ Bel V w') V := ⟨HC2.out, Bel.refl V⟩
    go_region_held3 (fun w' : World => (w'.cell? ⟨A7, 0, none⟩ = some (.slice (some ⟨g0, o0, none⟩) 64 z0) ∧ w'.cell? ⟨A7, 1, none⟩ = some (.slice (some ⟨g1, o1, none⟩) 8 z1)) ∧ Bel V w')
      (first | with_reducible assumption | (refine bel_two HC2.out ?_; first | exact (HB2.out _ (by with_reducible assumption)) | ((with_reducible refine Bel.drew ?_); exact (HB2.out _ (by with_reducible assumption))) | ((with_reducible refine Bel.drew ?_); exact Bel.refl _) | ((with_reducible refine Bel.on ?_ hb); first | exact (HB2.out _ (by with_reducible assumption)) | exact Bel.drew (HB2.out _ (by with_reducible assumption)) | exact Bel.drew (Bel.refl _))))
      (first
        | (go_at_call 36; refine (HRS2.out _ (HKA.out.bel (by first | exact (HB2.out _ (by with_reducible assumption)) | exact Bel.drew (Bel.refl _)))).mono ?_; rintro e w' ⟨g', cap', rfl, hSf, hb⟩)
        | (go_at_call 35; refine (HTX.out _ _ _ (StrsAt.on HCUT.out (Bel.b (by first | exact (HB2.out _ (by with_reducible assumption)) | exact Bel.drew (Bel.refl _)))) hSf).mono ?_; rintro e w' ⟨rfl, hb⟩))
    have hend : Below w.heap.size w w' := by
      have hq := HB2.out w' (by with_reducible assumption)
      exact hbb.trans (hq.b.mono hbb.size)
    clear HB2 HC2 HRS2 HTX HCUT hS c0 c1
    go_wp2_with fail
    go_ret
    exact ⟨by first | rfl | simp, hend⟩
end Go.Proofs.YtohoenkdfconpaaDoor
