/- The package frame's parts: those of its format, and its keys. -/
import Derived.Test.YtollaaooinoafaaDoorTf
namespace Go.Proofs.YtollaaooinoafaaDoor
open Go.RowKit Go.Sort
set_option maxRecDepth 100000
def PartsRel (w : World) (M FB : Nat) (fc : List Value) (R : List Pt) (ws : List Nat) (o i : Value) (wr : World) : Prop :=
  ∃ k : Nat, k ≤ ws.length ∧ i = .int .i64 (k : Int) ∧ OwnP wr w.heap.size o ((ws.take k).map fun q => R.getD q p0) ∧ BlkV wr M 50 (Pc R) ∧ BlkV wr FB 25 fc ∧ Below w.heap.size w wr
def KeyRel (w : World) (P : List Pt) (ks : List ByteArray) (o i : Value) (wr : World) : Prop :=
  ∃ k : Nat, k ≤ ks.length ∧ i = .int .i64 (k : Int) ∧ OwnP wr w.heap.size o (P ++ (ks.take k).map tp) ∧ Below w.heap.size w wr
theorem part_step (R : List Pt) (ws : List Nat) (k : Nat) (h : k < ws.length) : ((ws.take (k + 1)).map fun q => R.getD q p0) = ((ws.take k).map fun q => R.getD q p0) ++ [R.getD (ws.getD k 0) p0] := by
  have e : ws.getD k 0 = ws[k] := by simp [List.getD, h]
  rw [e, List.take_succ_eq_append_getElem h, List.map_append]
  rfl
theorem key_step (ks : List ByteArray) (k : Nat) (h : k < ks.length) : (ks.take (k + 1)).map tp = (ks.take k).map tp ++ [tp (ks.getD k ⟨#[]⟩)] := by
  have e : ks.getD k ⟨#[]⟩ = ks[k] := by simp [List.getD, h]
  rw [e, List.take_succ_eq_append_getElem h, List.map_append]
  rfl
set_option maxHeartbeats 4000000 in
theorem fParts_any (f : Fr) (kn : Nat) (hkn3 : kn < 3) (hkn : f.kind = (kn : Int)) (a : Option Addr) (c : Nat) (hl : f.keys.length ≤ 100) (w : World) (hp : SSl w a f.keys) (hF : FmtAt w) :
    Calls Tryd.prog 19 #[frV f a c] w fun e w' => ∃ v, e = .returned v ∧ OwnP w' w.heap.size v (partsF kn f ++ f.keys.map tp) ∧ Below w.heap.size w w' := by
  have hb1 : Below w.heap.size w (w.alloc (.cells (frC f a c) 25)) := (Below.refl _ _).alloc (Nat.le_refl _) _
  have hx1 : BlkV (w.alloc (.cells (frC f a c) 25)) w.heap.size 25 (frL f a c) := BlkV.fresh _ _ _ _ rfl _ rfl
  have hs1 : (w.alloc (.cells (frC f a c) 25)).heap.size = w.heap.size + 1 := by simp
  have hro := fun W => rowOf_any f a c (by unfold maxLen; omega) W
  unfold partsF
  obtain ⟨fc, efc⟩ : ∃ fc, frL f a c = fc := ⟨_, rfl⟩
  obtain ⟨R, eR⟩ : ∃ R, rowL f = R := ⟨_, rfl⟩
  have hR13 : R.length = 13 := by rw [← eR]; rfl
  have e12 : fc[12]? = some (.slice a f.keys.length c) := by rw [← efc]; rfl
  have e0 : fc[0]? = some (.int .i64 (kn : Int)) := by rw [← efc, ← hkn]; rfl
  have eld : (fc : List Value).toArray = frC f a c := by rw [← efc]; rfl
  have hlen13 : fc.length = 13 := by rw [← efc]; rfl
  rw [eR] at hro ⊢
  rw [efc] at hx1
  have hfv : frV f a c = .agg fc.toArray := by rw [eld]; rfl
  rw [hfv] at hro ⊢
  rw [← eld] at hb1 hx1 hs1
  generalize f.keys = ks at *
  obtain ⟨TL, eTL⟩ : ∃ TL, (((fmtL kn).map fun q => R.getD q p0) ++ ks.map tp) = TL := ⟨_, rfl⟩
  rw [eTL]
  have HTL := Lib.hid eTL
  clear eTL
  have HB := Lib.hid hb1; have HX := Lib.hid hx1; have HP := Lib.hid hp; have HF := Lib.hid hF; have HRO := Lib.hid hro; have HE := Lib.hid (And.intro e0 e12); have HL13 := Lib.hid (And.intro hR13 hlen13); have HS := Lib.hid hs1; have HKS := Lib.hid hl
  clear hb1 hx1 hro e0 e12 eld eR efc hkn hl hp hF hfv hR13 hlen13 hs1
  go_enter Tryd.func19, Tryd.ntmps19
  go_upto_region 1 with fail
  generalize World.alloc w _ = V at HB HX HS ⊢
  refine wp_region_lit ?_
  refine load_v rfl _ _ rfl w.heap.size rfl HX.out Tryd.underlying25 rfl (by rw [HL13.out.2]; kernel_rfl) ?_
  refine wpList_step (fun K hK => ?_)
  go_simp
  refine (HRO.out _).mono ?_
  rintro e w1 ⟨rfl, hb⟩
  refine hK _ _ ?_
  clear hK K
  have hX := HX.out.on hb
  have hB := HB.out.trans (hb.mono HB.out.size)
  have hsz := hX.lt
  clear HX HB hb HRO
  obtain ⟨U, eU⟩ : ∃ U, w1.alloc (.cells blankC 50) = U := ⟨_, rfl⟩
  have hv : Below w1.heap.size w1 U := by rw [← eU]; exact (Below.refl _ _).alloc (Nat.le_refl _) _
  have hM : BlkV U w1.heap.size 50 (Pc blank) := by rw [← eU]; exact BlkV.fresh _ _ _ _ blankC_eq _ rfl
  have hX2 := hX.on hv
  have hB2 := hB.trans (hv.mono hB.size)
  have HU := Lib.hid eU; have HM := Lib.hid hM; have HX := Lib.hid hX2; have HB := Lib.hid hB2; have HSZ := Lib.hid (And.intro hsz hB.size)
  clear eU hv hM hX2 hB2 hX hB hsz HS
  iterate 1 (refine wpList_step (fun K hK => ?_); go_simp; refine hK _ _ ?_; clear hK K)
  change wpList Tryd.prog _ _ _ _ (w1.alloc (.cells blankC 50))
  rw [HU.out]
  have hRl : (Pc R).length = (Pc blank).length := by rw [Pc_length, HL13.out.1]; rfl
  refine store_v rfl rfl _ _ _ rfl w1.heap.size rfl (l' := Pc R) rfl HM.out hRl (Pc_one R) (by kernel_rfl) ?_
  refine wpList_nil ?_
  obtain ⟨hsz, hle⟩ := HSZ.out
  have hM4 := HM.out.stored (Pc R) hRl
  have hX4 := HX.out.farS (show w.heap.size ≠ w1.heap.size by omega) (Pc R)
  have hB4 := below_setCells hle (Pc R) 0 _ HB.out
  obtain ⟨M, eM⟩ : ∃ M, w1.heap.size = M := ⟨_, rfl⟩
  obtain ⟨FB, eFB⟩ : ∃ FB, w.heap.size = FB := ⟨_, rfl⟩
  have hne : FB < M := by omega
  rw [eM] at hM4 hX4 hB4 ⊢
  rw [eFB] at hX4
  generalize World.setCells U _ _ _ = W4 at hM4 hX4 hB4 ⊢
  clear HU HM HX HB HSZ hsz hle eM hRl
  rename_i K hK
  refine hK _ _ ?_
  clear hK K
  obtain ⟨fb, fo, fcap, hf0, hf2⟩ := HF.out kn hkn3
  have hf1 : W4.cell? ⟨0, kn, none⟩ = _ := (hB4.cell (p := ⟨0, kn, none⟩) (World.block_lt_of_cell? w _ hf0)).trans hf0
  have hf3 := fmt_get kn
  have hws := fmt_len kn
  have d0 := hX4.cell 0 _ HE.out.1
  have HW4 := Lib.hid (And.intro hM4 (And.intro hX4 (And.intro hB4 (And.intro hf2 (And.intro hne (And.intro hf3 (And.intro hws eFB)))))))
  clear hM4 hX4 hB4 hf2 hf3 hws hne hf0
  rw [eFB]
  clear eFB
  go_upto_region 4 with fail
  clear d0 hf1
  obtain ⟨ws, ews⟩ : ∃ ws, fmtL kn = ws := ⟨_, rfl⟩
  rw [ews] at HW4 HTL ⊢
  clear ews
  go_loopw [4, 16] (PartsRel w M FB fc R ws) (fun _ i _ => ws.length - (intOf i).toNat)
  case atStart => exact ⟨0, Nat.zero_le _, rfl, OwnP.nil _ _, HW4.out.1, HW4.out.2.1, HW4.out.2.2.1⟩
  case round =>
    obtain ⟨k, hk, rfl, hO, hM, hX, hB⟩ := hrel
    obtain ⟨-, -, hB4, hf2, hne, hf3, hws, eFB⟩ := HW4.out
    by_cases hlt : k < ws.length
    · have h1 : (k : Int) < (ws.length : Int) := by omega
      have h1k : (k : Int) < 100 := by omega
      obtain ⟨q, eq⟩ : ∃ q, ws.getD k 0 = q := ⟨_, rfl⟩
      have hq := hf3 k hlt
      have hcell : wr.cell? ⟨fb, fo + k, none⟩ = _ := (hB.cell (p := ⟨fb, fo + k, none⟩) (World.block_lt_of_cell? w _ (hf2 k hlt))).trans (hf2 k hlt)
      have hst := part_step R ws k hlt
      rw [eq] at hq hcell hst
      have hpt := hM.ptAt q (by have := HL13.out.1; omega)
      obtain ⟨p, ep⟩ : ∃ p, R.getD q p0 = p := ⟨_, rfl⟩
      rw [ep] at hpt hst
      obtain ⟨c0, c1, c2⟩ := hpt
      have hq13 : (q : Int) < 13 := by omega
      have hsz := hB.size
      have hv : Below wr.heap.size wr (wr.alloc (.cells #[.bool p.text, .int .u64 (p.n : Int), .string p.s] 48)) := (Below.refl _ _).alloc (Nat.le_refl _) _
      have hPA := PtAt.fresh wr p 48
      have hO2 := hO.on hv
      have hM2 := hM.on hv
      have hX2 := hX.on hv
      have hB2 := hB.trans (hv.mono hsz)
      have hs2 : w.heap.size ≤ (wr.alloc (.cells #[.bool p.text, .int .u64 (p.n : Int), .string p.s] 48)).heap.size := hB2.size
      obtain ⟨acc, eacc⟩ : ∃ acc, ((ws.take k).map fun q => R.getD q p0) = acc := ⟨_, rfl⟩
      have hkl : acc.length ≤ 12 := by rw [← eacc, List.length_map, List.length_take]; omega
      rw [eacc] at hO2 hst
      have HO := Lib.hid hO2; have HM := Lib.hid hM2; have HX := Lib.hid hX2; have HB := Lib.hid hB2; have HPA := Lib.hid hPA; have HST := Lib.hid hst; have HS2 := Lib.hid (And.intro hs2 hkl)
      clear hO hM hX hB hO2 hM2 hX2 hB2 hPA hv hst hs2 hsz hf2 hf3 hB4 eq ep hws eFB hne hk hkl eacc
      go_wp2_with (at_builtin; refine append_ps rfl _ _ rfl w.heap.size _ _ (some ⟨wr.heap.size, 0, none⟩) 1 1 [p] rfl rfl rfl HO.out (PSl.one HPA.out) (by have := HS2.out.2; simp only [List.length_singleton]; omega) HS2.out.1 ?_)
      intro v' w' hO3 hg
      have hM3 : BlkV w' M 50 (Pc R) := HO.out.keeps hg M _ _ _ HM.out (by decide)
      have hX3 : BlkV w' FB 25 fc := HO.out.keeps hg FB _ _ _ HX.out (by decide)
      have hB3 := HO.out.below HB.out HS2.out.1 hg
      rw [← HST.out] at hO3
      have HO3 := Lib.hid hO3; have HM3 := Lib.hid hM3; have HX3 := Lib.hid hX3; have HB3 := Lib.hid hB3
      clear hO3 hM3 hX3 hB3 hg HO HM HX HB HPA HST HS2 c0 c1 c2 hcell
      go_wp2_with fail
      exact ⟨⟨k + 1, by omega, by simp, HO3.out, HM3.out, HX3.out, HB3.out⟩, by simp [intOf]; omega⟩
    · obtain rfl : k = ws.length := by omega
      have hn : ¬ (ws.length : Int) < (ws.length : Int) := by omega
      rw [List.take_length] at hO
      have hc12 := hX.cell 12 _ HE.out.2
      obtain ⟨PL, ePL⟩ : ∃ PL, (ws.map fun q => R.getD q p0) = PL := ⟨_, rfl⟩
      have hPl : PL.length ≤ 12 := by rw [← ePL, List.length_map]; omega
      rw [ePL] at hO
      have HO := Lib.hid hO; have HB := Lib.hid hB; have HEND := Lib.hid (And.intro ePL (And.intro eFB hPl))
      have HKL := Lib.hid HKS.out
      clear hM hX hB hO hf2 hf3 hB4 hne hws eFB HW4 hk ePL hPl
      go_upto_region 9 with fail
      clear hc12
      go_loopw [4, 30] (KeyRel w PL ks) (fun _ i _ => ks.length - (intOf i).toNat)
      case atStart => exact ⟨0, Nat.zero_le _, rfl, by simpa using HO.out, HB.out⟩
      case round =>
        clear HO HB
        obtain ⟨j, hj, rfl, hO, hB⟩ := hrel
        by_cases hlj : j < ks.length
        · have h1 : (j : Int) < (ks.length : Int) := by omega
          have h1k : (j : Int) < 1000 := by have := HKL.out; omega
          obtain ⟨b, off, rfl, hbl, hc⟩ := (HP.out.on hB) (by omega)
          have hcell := hc j hlj
          have hst := key_step ks j hlj
          obtain ⟨x, ex⟩ : ∃ x, ks.getD j ⟨#[]⟩ = x := ⟨_, rfl⟩
          rw [ex] at hcell hst
          have hT : ∀ W : World, Calls Tryd.prog 35 #[.string x] W fun e w' => e = .returned (.agg #[.bool true, .int .u64 0, .string x]) ∧ Below W.heap.size W w' := fun W => fText_any x W
          obtain ⟨acc, eacc⟩ : ∃ acc, PL ++ (ks.take j).map tp = acc := ⟨_, rfl⟩
          have hkl : acc.length ≤ 1000 := by rw [← eacc, List.length_append, List.length_map, List.length_take]; have := HEND.out.2.2; have := HKL.out; omega
          have hst2 : PL ++ (ks.take (j + 1)).map tp = acc ++ [tp x] := by rw [hst, ← eacc, List.append_assoc]
          rw [eacc] at hO
          have HO := Lib.hid hO; have HB := Lib.hid hB; have HT := Lib.hid hT; have HST := Lib.hid hst2; have HAL := Lib.hid hkl
          clear hO hB hT hst hst2 hkl eacc ex hc hbl
          go_wp2_with fail
          refine (HT.out _).mono ?_
          rintro e w5 ⟨rfl, hb5⟩
          have hB5 := HB.out.trans (hb5.mono HB.out.size)
          have hv : Below w5.heap.size w5 (w5.alloc (.cells #[.bool true, .int .u64 0, .string x] 48)) := (Below.refl _ _).alloc (Nat.le_refl _) _
          have hPA : PtAt (w5.alloc (.cells #[.bool true, .int .u64 0, .string x] 48)) w5.heap.size 0 (tp x) := PtAt.fresh w5 (tp x) 48
          have hO5 := (HO.out.on hb5).on hv
          have hB6 := hB5.trans (hv.mono hB5.size)
          have hs6 : w.heap.size ≤ (w5.alloc (.cells #[.bool true, .int .u64 0, .string x] 48)).heap.size := hB6.size
          have HO5 := Lib.hid hO5; have HB6 := Lib.hid hB6; have HPA := Lib.hid hPA; have HS6 := Lib.hid hs6
          clear hB5 hv hPA hO5 hB6 hs6 hb5 HO HB HT hcell
          go_wp2_with (at_builtin; refine append_ps rfl _ _ rfl w.heap.size _ _ (some ⟨w5.heap.size, 0, none⟩) 1 1 [tp x] rfl rfl rfl HO5.out (PSl.one HPA.out) (by have := HAL.out; simp only [List.length_singleton]; omega) HS6.out ?_)
          intro v' w' hO3 hg
          have hB3 := HO5.out.below HB6.out HS6.out hg
          rw [← HST.out] at hO3
          have HO3 := Lib.hid hO3; have HB3 := Lib.hid hB3
          clear hO3 hB3 hg HO5 HB6 HPA HST HS6 HAL
          go_wp2_with fail
          exact ⟨⟨j + 1, by omega, by simp, HO3.out, HB3.out⟩, by simp [intOf]; omega⟩
        · obtain rfl : j = ks.length := by omega
          have hnk : ¬ (ks.length : Int) < (ks.length : Int) := by omega
          rw [List.take_length, ← HEND.out.1, HTL.out] at hO
          have HO := Lib.hid hO; have HB := Lib.hid hB
          clear hO hB
          go_wp2_with fail
          go_ret
          exact ⟨_, rfl, HEND.out.2.1 ▸ HO.out, HEND.out.2.1 ▸ HB.out⟩
end Go.Proofs.YtollaaooinoafaaDoor