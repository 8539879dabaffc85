/- The texts Tg, Th, Ti, Tp, Tx, one behind the other. -/
import Derived.Test.YtdnjieffbgmagaaDoorBg14
import Derived.Deep.RegionHeld3
import Derived.Test.YtdnjieffbgmagaaDoorBg12
import Derived.Deep.DeepCutAuto
import Derived.Lib.QuietBelow
import Derived.Test.YtdnjieffbgmagaaDoorCards
import Derived.Lib.LaidTab
import Derived.Laws.IdiomArrays
import Derived.ChangeSlices
import Derived.LaidMore
/- The package frame's parts: those of its format, and its keys. -/
namespace Go.Proofs.YtdnjieffbgmagaaDoor
open Go.RowKit Go.Sort
set_option maxRecDepth 100000
def PartsRel (w : World) (M FB : Nat) (fc : List Value) (R : List Pt) (ws : List Nat) (o i : Value) (wr : World) : Prop :=
  ∃ k : Nat, k ≤ ws.length ∧ i = .int .i64 (k : Int) ∧ OwnP wr w.heap.size o ((ws.take k).map fun q => R.getD q p0) ∧ BlkV wr M 79 (Pc R) ∧ BlkV wr FB 32 fc ∧ Below w.heap.size w wr
def KeyRelT (w : World) (P : List Pt) (ks : List ByteArray) (o i : Value) (wr : World) : Prop :=
  ∃ k : Nat, k ≤ ks.length ∧ i = .int .i64 (k : Int) ∧ OwnP wr w.heap.size o (P ++ (ks.take k).map tp) ∧ Below w.heap.size w wr
theorem part_step (R : List Pt) (ws : List Nat) (k : Nat) (h : k < ws.length) : ((ws.take (k + 1)).map fun q => R.getD q p0) = ((ws.take k).map fun q => R.getD q p0) ++ [R.getD (ws.getD k 0) p0] := by
  have e : ws.getD k 0 = ws[k] := by simp [List.getD, h]
  rw [e, List.take_succ_eq_append_getElem h, List.map_append]
  rfl
theorem key_step (ks : List ByteArray) (k : Nat) (h : k < ks.length) : (ks.take (k + 1)).map tp = (ks.take k).map tp ++ [tp (ks.getD k ⟨#[]⟩)] := by
  have e : ks.getD k ⟨#[]⟩ = ks[k] := by simp [List.getD, h]
  rw [e, List.take_succ_eq_append_getElem h, List.map_append]
  rfl
set_option maxHeartbeats 4000000 in
theorem fParts_any (f : Fr) (kn : Nat) (hkn3 : kn < 3) (hkn : f.kind = (kn : Int)) (a : Option Addr) (c : Nat) (hl : f.keys.length ≤ 100) (w : World) (hp : SSl w a f.keys) (hF : FmtAt w) :
    Calls Tryd.prog 60 #[frV f a c] w fun e w' => ∃ v, e = .returned v ∧ OwnP w' w.heap.size v (partsF kn f ++ f.keys.map tp) ∧ Below w.heap.size w w' := by
  have hb1 : Below w.heap.size w (w.alloc (.cells (frC f a c) 32)) := (Below.refl _ _).alloc (Nat.le_refl _) _
  have hx1 : BlkV (w.alloc (.cells (frC f a c) 32)) w.heap.size 32 (frL f a c) := BlkV.fresh _ _ _ _ rfl _ rfl
  have hs1 : (w.alloc (.cells (frC f a c) 32)).heap.size = w.heap.size + 1 := by simp
  have hro := fun W => rowOf_any f a c (by unfold maxLen; omega) W
  unfold partsF
  obtain ⟨fc, efc⟩ : ∃ fc, frL f a c = fc := ⟨_, rfl⟩
  obtain ⟨R, eR⟩ : ∃ R, rowL f = R := ⟨_, rfl⟩
  have hR13 : R.length = 13 := by rw [← eR]; rfl
  have e12 : fc[12]? = some (.slice a f.keys.length c) := by rw [← efc]; rfl
  have e0 : fc[0]? = some (.int .i64 (kn : Int)) := by rw [← efc, ← hkn]; rfl
  have eld : (fc : List Value).toArray = frC f a c := by rw [← efc]; rfl
  have hlen13 : fc.length = 13 := by rw [← efc]; rfl
  rw [eR] at hro ⊢
  rw [efc] at hx1
  have hfv : frV f a c = .agg fc.toArray := by rw [eld]; rfl
  rw [hfv] at hro ⊢
  rw [← eld] at hb1 hx1 hs1
  generalize f.keys = ks at *
  obtain ⟨TL, eTL⟩ : ∃ TL, (((fmtL kn).map fun q => R.getD q p0) ++ ks.map tp) = TL := ⟨_, rfl⟩
  rw [eTL]
  have HTL := Lib.hid eTL
  clear eTL
  have HB := Lib.hid hb1; have HX := Lib.hid hx1; have HP := Lib.hid hp; have HF := Lib.hid hF; have HRO := Lib.hid hro; have HE := Lib.hid (And.intro e0 e12); have HL13 := Lib.hid (And.intro hR13 hlen13); have HS := Lib.hid hs1; have HKS := Lib.hid hl
  clear hb1 hx1 hro e0 e12 eld eR efc hkn hl hp hF hfv hR13 hlen13 hs1
  go_enter Tryd.func60, Tryd.ntmps60
  go_upto_region 1 with fail
  generalize World.alloc w _ = V at HB HX HS ⊢
  refine wp_region_lit ?_
  refine load_v rfl _ _ rfl w.heap.size rfl HX.out Tryd.underlying32 rfl (by rw [HL13.out.2]; kernel_rfl) ?_
  refine wpList_step (fun K hK => ?_)
  go_simp
  refine (HRO.out _).mono ?_
  rintro e w1 ⟨rfl, hb⟩
  refine hK _ _ ?_
  clear hK K
  have hX := HX.out.on hb
  have hB := HB.out.trans (hb.mono HB.out.size)
  have hsz := hX.lt
  clear HX HB hb HRO
  obtain ⟨U, eU⟩ : ∃ U, w1.alloc (.cells blankC 79) = U := ⟨_, rfl⟩
  have hv : Below w1.heap.size w1 U := by rw [← eU]; exact (Below.refl _ _).alloc (Nat.le_refl _) _
  have hM : BlkV U w1.heap.size 79 (Pc blank) := by rw [← eU]; exact BlkV.fresh _ _ _ _ blankC_eq _ rfl
  have hX2 := hX.on hv
  have hB2 := hB.trans (hv.mono hB.size)
  have HU := Lib.hid eU; have HM := Lib.hid hM; have HX := Lib.hid hX2; have HB := Lib.hid hB2; have HSZ := Lib.hid (And.intro hsz hB.size)
  clear eU hv hM hX2 hB2 hX hB hsz HS
  iterate 1 (refine wpList_step (fun K hK => ?_); go_simp; refine hK _ _ ?_; clear hK K)
  change wpList Tryd.prog _ _ _ _ (w1.alloc (.cells blankC 79))
  rw [HU.out]
  have hRl : (Pc R).length = (Pc blank).length := by rw [Pc_length, HL13.out.1]; rfl
  refine store_v rfl rfl _ _ _ rfl w1.heap.size rfl (l' := Pc R) rfl HM.out hRl (Pc_one R) (by kernel_rfl) ?_
  refine wpList_nil ?_
  obtain ⟨hsz, hle⟩ := HSZ.out
  have hM4 := HM.out.stored (Pc R) hRl
  have hX4 := HX.out.farS (show w.heap.size ≠ w1.heap.size by omega) (Pc R)
  have hB4 := below_setCells hle (Pc R) 0 _ HB.out
  obtain ⟨M, eM⟩ : ∃ M, w1.heap.size = M := ⟨_, rfl⟩
  obtain ⟨FB, eFB⟩ : ∃ FB, w.heap.size = FB := ⟨_, rfl⟩
  have hne : FB < M := by omega
  rw [eM] at hM4 hX4 hB4 ⊢
  rw [eFB] at hX4
  generalize World.setCells U _ _ _ = W4 at hM4 hX4 hB4 ⊢
  clear HU HM HX HB HSZ hsz hle eM hRl
  rename_i K hK
  refine hK _ _ ?_
  clear hK K
  obtain ⟨fb, fo, fcap, hf0, hf2⟩ := HF.out kn hkn3
  have hf1 : W4.cell? ⟨0, kn, none⟩ = _ := (hB4.cell (p := ⟨0, kn, none⟩) (World.block_lt_of_cell? w _ hf0)).trans hf0
  have hf3 := fmt_get kn
  have hws := fmt_len kn
  have d0 := hX4.cell 0 _ HE.out.1
  have HW4 := Lib.hid (And.intro hM4 (And.intro hX4 (And.intro hB4 (And.intro hf2 (And.intro hne (And.intro hf3 (And.intro hws eFB)))))))
  clear hM4 hX4 hB4 hf2 hf3 hws hne hf0
  rw [eFB]
  clear eFB
  go_upto_region 4 with fail
  clear d0 hf1
  obtain ⟨ws, ews⟩ : ∃ ws, fmtL kn = ws := ⟨_, rfl⟩
  rw [ews] at HW4 HTL ⊢
  clear ews
  go_loopw [4, 16] (PartsRel w M FB fc R ws) (fun _ i _ => ws.length - (intOf i).toNat)
  case atStart => exact ⟨0, Nat.zero_le _, rfl, OwnP.nil _ _, HW4.out.1, HW4.out.2.1, HW4.out.2.2.1⟩
  case round =>
    obtain ⟨k, hk, rfl, hO, hM, hX, hB⟩ := hrel
    obtain ⟨-, -, hB4, hf2, hne, hf3, hws, eFB⟩ := HW4.out
    by_cases hlt : k < ws.length
    · have h1 : (k : Int) < (ws.length : Int) := by omega
      have h1k : (k : Int) < 100 := by omega
      obtain ⟨q, eq⟩ : ∃ q, ws.getD k 0 = q := ⟨_, rfl⟩
      have hq := hf3 k hlt
      have hcell : wr.cell? ⟨fb, fo + k, none⟩ = _ := (hB.cell (p := ⟨fb, fo + k, none⟩) (World.block_lt_of_cell? w _ (hf2 k hlt))).trans (hf2 k hlt)
      have hst := part_step R ws k hlt
      rw [eq] at hq hcell hst
      have hpt := hM.ptAt q (by have := HL13.out.1; omega)
      obtain ⟨p, ep⟩ : ∃ p, R.getD q p0 = p := ⟨_, rfl⟩
      rw [ep] at hpt hst
      obtain ⟨c0, c1, c2⟩ := hpt
      have hq13 : (q : Int) < 13 := by omega
      have hsz := hB.size
      have hv : Below wr.heap.size wr (wr.alloc (.cells #[.bool p.text, .int .u64 (p.n : Int), .string p.s] 77)) := (Below.refl _ _).alloc (Nat.le_refl _) _
      have hPA := PtAt.fresh wr p 77
      have hO2 := hO.on hv
      have hM2 := hM.on hv
      have hX2 := hX.on hv
      have hB2 := hB.trans (hv.mono hsz)
      have hs2 : w.heap.size ≤ (wr.alloc (.cells #[.bool p.text, .int .u64 (p.n : Int), .string p.s] 77)).heap.size := hB2.size
      obtain ⟨acc, eacc⟩ : ∃ acc, ((ws.take k).map fun q => R.getD q p0) = acc := ⟨_, rfl⟩
      have hkl : acc.length ≤ 12 := by rw [← eacc, List.length_map, List.length_take]; omega
      rw [eacc] at hO2 hst
      have HO := Lib.hid hO2; have HM := Lib.hid hM2; have HX := Lib.hid hX2; have HB := Lib.hid hB2; have HPA := Lib.hid hPA; have HST := Lib.hid hst; have HS2 := Lib.hid (And.intro hs2 hkl)
      clear hO hM hX hB hO2 hM2 hX2 hB2 hPA hv hst hs2 hsz hf2 hf3 hB4 eq ep hws eFB hne hk hkl eacc
      go_wp2_with (at_builtin; refine append_ps rfl _ _ rfl w.heap.size _ _ (some ⟨wr.heap.size, 0, none⟩) 1 1 [p] rfl rfl rfl HO.out (PSl.one HPA.out) (by have := HS2.out.2; simp only [List.length_singleton]; omega) HS2.out.1 ?_)
      intro v' w' hO3 hg
      have hM3 : BlkV w' M 79 (Pc R) := HO.out.keeps hg M _ _ _ HM.out (by decide)
      have hX3 : BlkV w' FB 32 fc := HO.out.keeps hg FB _ _ _ HX.out (by decide)
      have hB3 := HO.out.below HB.out HS2.out.1 hg
      rw [← HST.out] at hO3
      have HO3 := Lib.hid hO3; have HM3 := Lib.hid hM3; have HX3 := Lib.hid hX3; have HB3 := Lib.hid hB3
      clear hO3 hM3 hX3 hB3 hg HO HM HX HB HPA HST HS2 c0 c1 c2 hcell
      go_wp2_with fail
      exact ⟨⟨k + 1, by omega, by simp, HO3.out, HM3.out, HX3.out, HB3.out⟩, by simp [intOf]; omega⟩
    · obtain rfl : k = ws.length := by omega
      have hn : ¬ (ws.length : Int) < (ws.length : Int) := by omega
      rw [List.take_length] at hO
      have hc12 := hX.cell 12 _ HE.out.2
      obtain ⟨PL, ePL⟩ : ∃ PL, (ws.map fun q => R.getD q p0) = PL := ⟨_, rfl⟩
      have hPl : PL.length ≤ 12 := by rw [← ePL, List.length_map]; omega
      rw [ePL] at hO
      have HO := Lib.hid hO; have HB := Lib.hid hB; have HEND := Lib.hid (And.intro ePL (And.intro eFB hPl))
      have HKL := Lib.hid HKS.out
      clear hM hX hB hO hf2 hf3 hB4 hne hws eFB HW4 hk ePL hPl
      go_upto_region 9 with fail
      clear hc12
      go_loopw [4, 30] (KeyRelT w PL ks) (fun _ i _ => ks.length - (intOf i).toNat)
      case atStart => exact ⟨0, Nat.zero_le _, rfl, by simpa using HO.out, HB.out⟩
      case round =>
        clear HO HB
        obtain ⟨j, hj, rfl, hO, hB⟩ := hrel
        by_cases hlj : j < ks.length
        · have h1 : (j : Int) < (ks.length : Int) := by omega
          have h1k : (j : Int) < 1000 := by have := HKL.out; omega
          obtain ⟨b, off, rfl, hbl, hc⟩ := (HP.out.on hB) (by omega)
          have hcell := hc j hlj
          have hst := key_step ks j hlj
          obtain ⟨x, ex⟩ : ∃ x, ks.getD j ⟨#[]⟩ = x := ⟨_, rfl⟩
          rw [ex] at hcell hst
          have hT : ∀ W : World, Calls Tryd.prog 57 #[.string x] W fun e w' => e = .returned (.agg #[.bool true, .int .u64 0, .string x]) ∧ Below W.heap.size W w' := fun W => fText_any x W
          obtain ⟨acc, eacc⟩ : ∃ acc, PL ++ (ks.take j).map tp = acc := ⟨_, rfl⟩
          have hkl : acc.length ≤ 1000 := by rw [← eacc, List.length_append, List.length_map, List.length_take]; have := HEND.out.2.2; have := HKL.out; omega
          have hst2 : PL ++ (ks.take (j + 1)).map tp = acc ++ [tp x] := by rw [hst, ← eacc, List.append_assoc]
          rw [eacc] at hO
          have HO := Lib.hid hO; have HB := Lib.hid hB; have HT := Lib.hid hT; have HST := Lib.hid hst2; have HAL := Lib.hid hkl
          clear hO hB hT hst hst2 hkl eacc ex hc hbl
          go_wp2_with fail
          refine (HT.out _).mono ?_
          rintro e w5 ⟨rfl, hb5⟩
          have hB5 := HB.out.trans (hb5.mono HB.out.size)
          have hv : Below w5.heap.size w5 (w5.alloc (.cells #[.bool true, .int .u64 0, .string x] 77)) := (Below.refl _ _).alloc (Nat.le_refl _) _
          have hPA : PtAt (w5.alloc (.cells #[.bool true, .int .u64 0, .string x] 77)) w5.heap.size 0 (tp x) := PtAt.fresh w5 (tp x) 77
          have hO5 := (HO.out.on hb5).on hv
          have hB6 := hB5.trans (hv.mono hB5.size)
          have hs6 : w.heap.size ≤ (w5.alloc (.cells #[.bool true, .int .u64 0, .string x] 77)).heap.size := hB6.size
          have HO5 := Lib.hid hO5; have HB6 := Lib.hid hB6; have HPA := Lib.hid hPA; have HS6 := Lib.hid hs6
          clear hB5 hv hPA hO5 hB6 hs6 hb5 HO HB HT hcell
          go_wp2_with (at_builtin; refine append_ps rfl _ _ rfl w.heap.size _ _ (some ⟨w5.heap.size, 0, none⟩) 1 1 [tp x] rfl rfl rfl HO5.out (PSl.one HPA.out) (by have := HAL.out; simp only [List.length_singleton]; omega) HS6.out ?_)
          intro v' w' hO3 hg
          have hB3 := HO5.out.below HB6.out HS6.out hg
          rw [← HST.out] at hO3
          have HO3 := Lib.hid hO3; have HB3 := Lib.hid hB3
          clear hO3 hB3 hg HO5 HB6 HPA HST HS6 HAL
          go_wp2_with fail
          exact ⟨⟨j + 1, by omega, by simp, HO3.out, HB3.out⟩, by simp [intOf]; omega⟩
        · obtain rfl : j = ks.length := by omega
          have hnk : ¬ (ks.length : Int) < (ks.length : Int) := by omega
          rw [List.take_length, ← HEND.out.1, HTL.out] at hO
          have HO := Lib.hid hO; have HB := Lib.hid hB
          clear hO hB
          go_wp2_with fail
          go_ret
          exact ⟨_, rfl, HEND.out.2.1 ▸ HO.out, HEND.out.2.1 ▸ HB.out⟩
end Go.Proofs.YtdnjieffbgmagaaDoor

/- The package frame's Put and Head. -/
namespace Go.Proofs.YtdnjieffbgmagaaDoor
open Go.RowKit Go.Sort
set_option maxRecDepth 100000
theorem long_all {f : Fr} (h : rightF f = true) : longL (allP f) = false := by
  rcases right_kind h with k | k | k
  · obtain ⟨h1, h2, h3, h4, -⟩ := rA k h
    rw [allP_A k]
    simp [longL, long_np, long_tp f.ident (by omega), long_tp f.base (by omega), long_tp f.ratchet (by omega), long_tp f.body h4]
  · obtain ⟨-, -, -, -, h3, h4, -⟩ := rB k h
    rw [allP_B k]
    simp [longL, long_np, long_tp f.ratchet (by omega), long_tp f.body h4]
  · obtain ⟨-, -, -, -, -, -, -, -, h8, -⟩ := rC k h
    rw [allP_C k, longL_append]
    have : longL (f.keys.map tp) = false := by
      unfold longL
      rw [List.any_map, List.any_eq_false]
      intro x hx
      have := long_tp x (by have := h8 x hx; omega)
      simp [this]
    have e : longL (np f.keys.length :: f.keys.map tp) = (longP (np f.keys.length) || longL (f.keys.map tp)) := List.any_cons
    rw [e, this]
    rfl
theorem np_ok (n : Nat) (h : n < 18446744073709551616) : PtOk (np n) := ⟨h, Nat.zero_le _⟩
theorem tp_ok (s : ByteArray) (h : s.size ≤ 1024) : PtOk (tp s) := ⟨by show 0 < _; omega, by show s.size ≤ maxLen; unfold maxLen; omega⟩
theorem ok_all {f : Fr} (h : rightF f = true) (ho : FrOk f) : PsOk (allP f) ∧ (allP f).length ≤ 100 := by
  have hz := right_sz f h
  have ok0 : ∀ k, k < 3 → PtOk (np k) := fun k hk => np_ok k (by omega)
  rcases right_kind h with k | k | k
  · rw [allP_A k]
    refine ⟨fun p hp => ?_, by simp⟩
    simp only [List.mem_cons, List.not_mem_nil, or_false] at hp
    rcases hp with rfl | rfl | rfl | rfl | rfl | rfl | rfl | rfl | rfl | rfl | rfl | rfl
    all_goals first | exact ok0 _ (by omega) | exact np_ok _ ho.frm | exact np_ok _ ho.dst | exact np_ok _ ho.id | exact np_ok _ ho.signed | exact np_ok _ ho.once | exact np_ok _ ho.prev | exact np_ok _ ho.num | exact tp_ok _ hz.ident | exact tp_ok _ hz.base | exact tp_ok _ hz.ratchet | exact tp_ok _ hz.body | exact np_ok _ (by have := hz.klen; omega) | exact tp_ok _ (hz.kall x hx)
  · rw [allP_B k]
    refine ⟨fun p hp => ?_, by simp⟩
    simp only [List.mem_cons, List.not_mem_nil, or_false] at hp
    rcases hp with rfl | rfl | rfl | rfl | rfl | rfl | rfl | rfl
    all_goals first | exact ok0 _ (by omega) | exact np_ok _ ho.frm | exact np_ok _ ho.dst | exact np_ok _ ho.id | exact np_ok _ ho.signed | exact np_ok _ ho.once | exact np_ok _ ho.prev | exact np_ok _ ho.num | exact tp_ok _ hz.ident | exact tp_ok _ hz.base | exact tp_ok _ hz.ratchet | exact tp_ok _ hz.body | exact np_ok _ (by have := hz.klen; omega) | exact tp_ok _ (hz.kall x hx)
  · rw [allP_C k]
    refine ⟨fun p hp => ?_, by simp; have := hz.klen; omega⟩
    simp only [List.mem_cons, List.not_mem_nil, or_false, List.mem_append, List.mem_map] at hp
    rcases hp with (rfl | rfl | rfl | rfl) | rfl | ⟨x, hx, rfl⟩
    all_goals first | exact ok0 _ (by omega) | exact np_ok _ ho.frm | exact np_ok _ ho.dst | exact np_ok _ ho.id | exact np_ok _ ho.signed | exact np_ok _ ho.once | exact np_ok _ ho.prev | exact np_ok _ ho.num | exact tp_ok _ hz.ident | exact tp_ok _ hz.base | exact tp_ok _ hz.ratchet | exact tp_ok _ hz.body | exact np_ok _ (by have := hz.klen; omega) | exact tp_ok _ (hz.kall x hx)
theorem packed_good (l : List Pt) (h : longL l = false) : packS l = strL (packL l) ∧ packE l = 0 := ⟨by unfold packS; rw [h]; rfl, by unfold packE; rw [h]; rfl⟩
theorem head_all (f : Fr) : ∃ r, allP f = headP f ++ r := ⟨_, rfl⟩
theorem head_ok {f : Fr} (h : rightF f = true) (ho : FrOk f) : PsOk (headP f) ∧ (headP f).length ≤ 100 ∧ longL (headP f) = false := by
  obtain ⟨r, e⟩ := head_all f
  obtain ⟨h1, h2⟩ := ok_all h ho
  have h3 := long_all h
  rw [e] at h1 h2 h3
  rw [longL_append] at h3
  rw [List.length_append] at h2
  refine ⟨fun p hp => h1 p (by simp [hp]), by omega, ?_⟩
  cases hh : longL (headP f)
  · rfl
  · rw [hh] at h3; simp at h3
def headS (f : Fr) : ByteArray := if rightF f then strL (headF f) else ⟨#[]⟩
def putE (f : Fr) : Int := if rightF f then 0 else 1
end Go.Proofs.YtdnjieffbgmagaaDoor

/- The package frame's Head. -/
namespace Go.Proofs.YtdnjieffbgmagaaDoor
open Go.RowKit Go.Sort
set_option maxRecDepth 100000
theorem bel_14 {w0 w : World} {p0 p1 p2 p3 p4 p5 p6 p7 p8 p9 p10 p11 p12 p13 : Addr} {v0 v1 v2 v3 v4 v5 v6 v7 v8 v9 v10 v11 v12 v13 : Value} (h : w0.cell? p0 = some v0 ∧ w0.cell? p1 = some v1 ∧ w0.cell? p2 = some v2 ∧ w0.cell? p3 = some v3 ∧ w0.cell? p4 = some v4 ∧ w0.cell? p5 = some v5 ∧ w0.cell? p6 = some v6 ∧ w0.cell? p7 = some v7 ∧ w0.cell? p8 = some v8 ∧ w0.cell? p9 = some v9 ∧ w0.cell? p10 = some v10 ∧ w0.cell? p11 = some v11 ∧ w0.cell? p12 = some v12 ∧ w0.cell? p13 = some v13) (hb : Bel w0 w) : (w.cell? p0 = some v0 ∧ w.cell? p1 = some v1 ∧ w.cell? p2 = some v2 ∧ w.cell? p3 = some v3 ∧ w.cell? p4 = some v4 ∧ w.cell? p5 = some v5 ∧ w.cell? p6 = some v6 ∧ w.cell? p7 = some v7 ∧ w.cell? p8 = some v8 ∧ w.cell? p9 = some v9 ∧ w.cell? p10 = some v10 ∧ w.cell? p11 = some v11 ∧ w.cell? p12 = some v12 ∧ w.cell? p13 = some v13) ∧ Bel w0 w := by
  have f : ∀ p v, w0.cell? p = some v → w.cell? p = some v := fun p v h => by rw [hb.b.cell (World.block_lt_of_cell? w0 _ h)]; exact h
  obtain ⟨h0, h1, h2, h3, h4, h5, h6, h7, h8, h9, h10, h11, h12, h13⟩ := h
  exact ⟨⟨f _ _ h0, f _ _ h1, f _ _ h2, f _ _ h3, f _ _ h4, f _ _ h5, f _ _ h6, f _ _ h7, f _ _ h8, f _ _ h9, f _ _ h10, f _ _ h11, f _ _ h12, f _ _ h13⟩, hb⟩
theorem head_err {f : Fr} (h : rightF f = false) : headS f = ⟨#[]⟩ ∧ putE f = 1 := ⟨by unfold headS; rw [h]; rfl, by unfold putE; rw [h]; rfl⟩
set_option maxHeartbeats 4000000 in
theorem fHead_any (f : Fr) (a : Option Addr) (c : Nat) (hl : f.keys.length ≤ maxLen) (ho : FrOk f) (w : World) (hp : SSl w a f.keys) (hF : FmtAt w) :
    Calls Tryd.prog 47 #[frV f a c] w fun e w' => e = .returned (.tuple #[.string (headS f), .int .i64 (putE f)]) ∧ Below w.heap.size w w' := by
  have hb1 : Below w.heap.size w (w.alloc (.cells (frC f a c) 32)) := (Below.refl _ _).alloc (Nat.le_refl _) _
  have hx1 : BlkV (w.alloc (.cells (frC f a c) 32)) w.heap.size 32 (frL f a c) := BlkV.fresh _ _ _ _ rfl _ rfl
  have hR := fRight_any f a c hl (w.alloc (.cells (frC f a c) 32)) (hp.on hb1) (hF.on hb1)
  have hl13 : (frL f a c).length = 13 := rfl
  have eld : (frL f a c).toArray = frC f a c := rfl
  have hfv : frV f a c = .agg (frL f a c).toArray := rfl
  cases hr : rightF f
  · rw [hr] at hR
    obtain ⟨e1, e2⟩ := head_err hr
    rw [e1, e2, hfv]
    rw [hfv] at hR
    rw [← eld] at hb1 hx1 hR
    generalize frL f a c = fc at *
    have HB := Lib.hid hb1; have HX := Lib.hid hx1; have HR := Lib.hid hR; have HL := Lib.hid hl13
    clear hb1 hx1 hR hl hp hF hr e1 e2 hl13 eld hfv ho
    go_enter Tryd.func47, Tryd.ntmps47
    go_upto_region 1 with fail
    generalize World.alloc w _ = V at HB HX HR ⊢
    refine wp_region_lit ?_
    refine load_v rfl _ _ rfl w.heap.size rfl HX.out Tryd.underlying32 rfl (by rw [HL.out]; kernel_rfl) ?_
    go_wp2_with fail
    refine HR.out.mono ?_
    rintro e w1 ⟨rfl, hb⟩
    have HB1 := Lib.hid (HB.out.trans (hb.mono HB.out.size))
    clear HB HX HR hb
    go_wp2_with fail
    go_ret2
    exact ⟨rfl, HB1.out⟩
  · rw [hr] at hR
    have e1 : headS f = strL (headF f) := by unfold headS; rw [hr]; rfl
    have e2 : putE f = 0 := by unfold putE; rw [hr]; rfl
    rw [e1, e2]
    obtain ⟨kn, hk3, hkn⟩ : ∃ kn : Nat, kn < 3 ∧ f.kind = (kn : Int) := by
      rcases right_kind hr with h | h | h
      · exact ⟨0, by omega, h⟩
      · exact ⟨1, by omega, h⟩
      · exact ⟨2, by omega, h⟩
    have hpt : ∀ W, Below w.heap.size w W → Calls Tryd.prog 60 #[frV f a c] W fun e w' => ∃ v, e = .returned v ∧ OwnP w' W.heap.size v (allP f) ∧ Below W.heap.size W w' := fun W hb => by
      have := fParts_any f kn hk3 hkn a c (by have := (right_sz f hr).klen; omega) W (hp.on hb) (hF.on hb)
      rw [parts_all f kn hk3 hkn hr] at this
      exact this
    obtain ⟨h1, h2, h3⟩ := head_ok hr ho
    have hpk : ∀ W a' c', PSl W a' (headP f) → Calls Tryd.prog 59 #[.slice a' (headP f).length c'] W fun e w' => e = .returned (.tuple #[.string (strL (headF f)), .int .i64 0]) ∧ Below W.heap.size W w' := fun W a' c' hq => by
      have := Pack_any a' c' (headP f) (by omega) h1 W hq
      obtain ⟨p1, p2⟩ := packed_good (headP f) h3
      rw [p1, p2] at this
      exact this
    obtain ⟨fb, fo, fcap, hf0, -⟩ := hF kn hk3
    have hhl : (headP f).length + 1 = (fmtL kn).length ∧ (headP f).length ≤ (allP f).length ∧ (allP f).take (headP f).length = headP f := by
      rw [← parts_head f kn hk3 hkn, ← parts_all f kn hk3 hkn hr]
      have := fmt_len kn
      have hpl := partsF_length kn f
      refine ⟨by rw [List.length_take, hpl]; omega, by rw [List.length_take, List.length_append]; omega, ?_⟩
      rw [List.length_take, hpl, Nat.min_eq_left (by omega), List.take_append_of_le_length (by omega)]
    obtain ⟨n, en⟩ : ∃ n, (fmtL kn).length = n := ⟨_, rfl⟩
    obtain ⟨m, em⟩ : ∃ m, (headP f).length = m := ⟨_, rfl⟩
    obtain ⟨al, eal⟩ : ∃ al, (allP f).length = al := ⟨_, rfl⟩
    rw [en, em, eal] at hhl
    rw [em] at hpk h2
    rw [en] at hf0
    have hw9 : IntKind.i64.wrap ((n : Int) - 1) = (m : Int) := by rw [IntKind.wrap_i64]; omega
    obtain ⟨AP, eAP⟩ : ∃ AP, allP f = AP := ⟨_, rfl⟩
    obtain ⟨HP, eHP⟩ : ∃ HP, headP f = HP := ⟨_, rfl⟩
    rw [eAP] at hpt hhl eal
    rw [eHP] at hpk hhl
    obtain ⟨HF, eHF⟩ : ∃ HF, headF f = HF := ⟨_, rfl⟩
    rw [eHF] at hpk ⊢
    clear eAP eHP eHF en em hl hp hF hr e1 e2 ho h1 h3
    obtain ⟨kd, fm, dt, fi, it, bs, sg, oc, rt, pv', nm, bd, ks⟩ := f
    simp only at hkn
    subst hkn
    unfold frV at hR hpt ⊢
    simp only [frC] at hb1 hx1 hR hpt ⊢
    have HB := Lib.hid hb1; have HX := Lib.hid hx1; have HR := Lib.hid hR; have HPT := Lib.hid hpt; have HPK := Lib.hid hpk; have HHL := Lib.hid (And.intro hhl (And.intro eal h2)); have HF0 := Lib.hid hf0; have HL := Lib.hid hl13; have HW := Lib.hid (And.intro hw9 (show (kn : Int) < 3 by omega))
    clear hb1 hx1 hR hpt hpk hhl hl13 eld hfv eal hf0 h2 hw9 hk3
    go_enter Tryd.func47, Tryd.ntmps47
    go_upto_region 1 with fail
    generalize World.alloc w _ = V at HB HX HR ⊢
    refine wp_region_lit ?_
    refine load_v rfl _ _ rfl w.heap.size rfl HX.out Tryd.underlying32 rfl (by rw [HL.out]; kernel_rfl) ?_
    go_wp2_with fail
    refine HR.out.mono ?_
    rintro e w1 ⟨rfl, hb⟩
    have hB1 := HB.out.trans (hb.mono HB.out.size)
    have hx := HX.out.on hb
    have hf1 : w1.cell? ⟨0, kn, none⟩ = _ := (hB1.cell (p := ⟨0, kn, none⟩) (World.block_lt_of_cell? w _ HF0.out)).trans HF0.out
    obtain ⟨FB, eFB⟩ : ∃ FB, w.heap.size = FB := ⟨_, rfl⟩
    rw [eFB] at hx ⊢
    have hc : w1.cell? ⟨FB, 0, none⟩ = some (.int .i64 (kn : Int)) ∧ w1.cell? ⟨FB, 1, none⟩ = some (.int .u64 (fm : Int)) ∧ w1.cell? ⟨FB, 2, none⟩ = some (.int .u64 (dt : Int)) ∧ w1.cell? ⟨FB, 3, none⟩ = some (.int .u64 (fi : Int)) ∧ w1.cell? ⟨FB, 4, none⟩ = some (.string it) ∧ w1.cell? ⟨FB, 5, none⟩ = some (.string bs) ∧ w1.cell? ⟨FB, 6, none⟩ = some (.int .u64 (sg : Int)) ∧ w1.cell? ⟨FB, 7, none⟩ = some (.int .u64 (oc : Int)) ∧ w1.cell? ⟨FB, 8, none⟩ = some (.string rt) ∧ w1.cell? ⟨FB, 9, none⟩ = some (.int .u64 (pv' : Int)) ∧ w1.cell? ⟨FB, 10, none⟩ = some (.int .u64 (nm : Int)) ∧ w1.cell? ⟨FB, 11, none⟩ = some (.string bd) ∧ w1.cell? ⟨FB, 12, none⟩ = some (.slice a ks.length c) ∧ w1.cell? ⟨0, kn, none⟩ = some (.slice (some ⟨fb, fo, none⟩) n fcap) := ⟨hx.cell 0 _ rfl, hx.cell 1 _ rfl, hx.cell 2 _ rfl, hx.cell 3 _ rfl, hx.cell 4 _ rfl, hx.cell 5 _ rfl, hx.cell 6 _ rfl, hx.cell 7 _ rfl, hx.cell 8 _ rfl, hx.cell 9 _ rfl, hx.cell 10 _ rfl, hx.cell 11 _ rfl, hx.cell 12 _ rfl, hf1⟩
    have HB1 := Lib.hid (And.intro hB1 eFB); have HC := Lib.hid hc
    clear HB HX HR hb hB1 hx hf1 eFB HF0 HL
    go_upto_region 3 with fail
    have hc := HC.out
    have hb0 := Bel.refl w1
    obtain ⟨hw9, hk9⟩ := HW.out
    have hk0 : (0 : Int) ≤ (kn : Int) := by omega
    have hm0 : (0 : Int) ≤ (m : Int) := by omega
    have HP2 : Hid (∀ W, Bel w1 W → Calls Tryd.prog 60 #[.agg #[.int .i64 (kn : Int), .int .u64 (fm : Int), .int .u64 (dt : Int), .int .u64 (fi : Int), .string it, .string bs, .int .u64 (sg : Int), .int .u64 (oc : Int), .string rt, .int .u64 (pv' : Int), .int .u64 (nm : Int), .string bd, .slice a ks.length c]] W fun e w' => ∃ a2 c2, e = .returned (.slice a2 al c2) ∧ (m : Int) ≤ (c2 : Int) ∧ PSl w' a2 HP ∧ Below W.heap.size W w') := Lib.hid (fun W hb => (HPT.out W (HB1.out.1.trans (hb.b.mono HB1.out.1.size))).mono (by
      rintro e w' ⟨v, rfl, hO, hb'⟩
      obtain ⟨a2, c2, rfl, hcc, hps⟩ := hO.psl
      obtain ⟨⟨-, g1, g2⟩, g3, -⟩ := HHL.out
      refine ⟨a2, c2, by rw [g3], by omega, ?_, hb'⟩
      have := hps.take m
      rw [g2] at this
      exact this))
    clear HPT HW HC
    go_region_held3 (fun w' => (w'.cell? ⟨FB, 0, none⟩ = some (.int .i64 (kn : Int)) ∧ w'.cell? ⟨FB, 1, none⟩ = some (.int .u64 (fm : Int)) ∧ w'.cell? ⟨FB, 2, none⟩ = some (.int .u64 (dt : Int)) ∧ w'.cell? ⟨FB, 3, none⟩ = some (.int .u64 (fi : Int)) ∧ w'.cell? ⟨FB, 4, none⟩ = some (.string it) ∧ w'.cell? ⟨FB, 5, none⟩ = some (.string bs) ∧ w'.cell? ⟨FB, 6, none⟩ = some (.int .u64 (sg : Int)) ∧ w'.cell? ⟨FB, 7, none⟩ = some (.int .u64 (oc : Int)) ∧ w'.cell? ⟨FB, 8, none⟩ = some (.string rt) ∧ w'.cell? ⟨FB, 9, none⟩ = some (.int .u64 (pv' : Int)) ∧ w'.cell? ⟨FB, 10, none⟩ = some (.int .u64 (nm : Int)) ∧ w'.cell? ⟨FB, 11, none⟩ = some (.string bd) ∧ w'.cell? ⟨FB, 12, none⟩ = some (.slice a ks.length c) ∧ w'.cell? ⟨0, kn, none⟩ = some (.slice (some ⟨fb, fo, none⟩) n fcap)) ∧ Bel w1 w')
      ((refine bel_14 hc ?_; first | with_reducible assumption | exact And.right (by with_reducible assumption) | ((with_reducible refine Bel.drew ?_); with_reducible assumption) | ((with_reducible refine Bel.on ?_ hb); exact And.right (by with_reducible assumption))))
      (first | (go_at_call 60; refine (HP2.out _ (And.right (by with_reducible assumption))).mono ?_; rintro e w' ⟨a2, c2, rfl, hmc, hps, hb⟩) | (go_at_call 59; refine (HPK.out _ _ _ hps).mono ?_; rintro e w' ⟨rfl, hb⟩))
    have hbb : Bel w1 w' := And.right (by with_reducible assumption)
    have hend := HB1.out.1.trans (hbb.b.mono HB1.out.1.size)
    have HEND := Lib.hid hend
    clear hend hbb
    go_wp2_with fail
    go_ret2
    exact ⟨rfl, HEND.out⟩
end Go.Proofs.YtdnjieffbgmagaaDoor

/- Regions by hand: an operation that comes up, whatever the order; a whole frame read in a region that draws its order, or under a guard. -/
namespace Go.Proofs.YtdnjieffbgmagaaDoor
open Go.RowKit Go.Sort
set_option maxRecDepth 100000
section
variable {P : Program} {ops : Array Oper} {Q : Exit → Act → World → Prop} {md : Region.Mode} {C : World → Prop}
theorem wpOp_on {i : Nat} {o : Oper} {K : Act → World → Prop} {a : Act} {w : World} (hi : ops[i]? = some o) (hw : Region.wanted o (yielded ops a.tmps) = true) (h : o.wp P a w K Q) : wpOp P ops Q i K a w := by
  unfold wpOp
  simp only [hi, hw, if_true]
  exact .inl h
theorem load_any {i : Nat} {o : Oper} {K : Act → World → Prop} {a : Act} {w : World} (hi : ops[i]? = some o) (hw : Region.wanted o (yielded ops a.tmps) = true) (T : TypeId) (x : Operand) (ho : o.op = .load T x)
    (B : Nat) (hx : a.eval x = .pointer (some ⟨B, 0, none⟩)) {t : TypeId} {l : List Value} (hb : BlkV w B t l) {d : TypeDesc} (hu : P.underlying T = some d) (hd : d.isRow = true) (hs : (P.info? T).map (·.size) = some l.length)
    (h : K (a.put o.dst (.agg l.toArray)) w) : wpOp P ops Q i K a w :=
  wpOp_on hi hw (wp_load_mid T x ho B 0 hx l d hb.range hu hd hs h)
theorem store_any {i : Nat} {o : Oper} {K : Act → World → Prop} {a : Act} {w : World} (hi : ops[i]? = some o) (hw : Region.wanted o (yielded ops a.tmps) = true) (hdst : o.dst = none) (T : TypeId) (x y : Operand) (ho : o.op = .store T x y)
    (B : Nat) (hx : a.eval x = .pointer (some ⟨B, 0, none⟩)) {l' : List Value} (hy : a.eval y = .agg l'.toArray) {t : TypeId} {l : List Value} (hb : BlkV w B t l) (hl : l'.length = l.length) (h1 : ∀ v ∈ l', v.oneCell' = true)
    (hs : (P.info? T).map (·.size) = some l.length) (h : K a (w.setCells B 0 l')) : wpOp P ops Q i K a w := by
  refine wpOp_on hi hw (wp_store_mid T x y ho B 0 l'.toArray hx hy ?_ ?_ ?_ ?_)
  · rw [List.size_toArray, hl]; exact hb.there _ (Nat.le_refl _)
  · rw [List.size_toArray, hl]; exact hs
  · exact all_oneCell_toArray h1
  · rw [hdst]; simpa [Act.put] using h
theorem call_any {i : Nat} {o : Oper} {K : Act → World → Prop} {a : Act} {w : World} (hi : ops[i]? = some o) (hw : Region.wanted o (yielded ops a.tmps) = true) {f : FuncId} {args : Array Value} (he : (execOp a.eval o).run P w = .ok (.enter f args) w)
    {v : Value} {R : World → Prop} (hc : Calls P f args w (fun e w' => e = .returned v ∧ R w')) (h : ∀ w', R w' → K (a.put o.dst v) w') : wpOp P ops Q i K a w := by
  refine wpOp_on hi hw ?_
  unfold Oper.wp
  rw [he]
  refine hc.mono fun e w' ⟨h1, h2⟩ => ?_
  subst h1
  exact h w' h2
theorem load_q {rest : List Oper} {o : Oper} {a : Act} {R : Act → Prop} (hw : Region.wanted o (yielded ops a.tmps) = true) (T : TypeId) (x : Operand) (ho : o.op = .load T x)
    (B : Nat) (hx : a.eval x = .pointer (some ⟨B, 0, none⟩)) {t : TypeId} {l : List Value} (hb : ∀ w, C w → BlkV w B t l) {d : TypeDesc} (hu : P.underlying T = some d) (hd : d.isRow = true) (hs : (P.info? T).map (·.size) = some l.length)
    (h : wpQuiet P ops C R rest (a.put o.dst (.agg l.toArray))) : wpQuiet P ops C R (o :: rest) a := by
  unfold wpQuiet
  rw [if_pos hw]
  refine ⟨.agg l.toArray, fun w hC => ?_, h⟩
  unfold Oper.quietAt execOp
  simp only [ho, hx, Instr.loadAt, Instr.sureAddr, Sem.run_bind, Sem.run_pure, Result.andThen_ok, run_loadVar_mid w B 0 T l d (hb w hC).range hu hd hs]
  exact ⟨rfl, rfl⟩
theorem call_q {rest : List Oper} {o : Oper} {a : Act} {R : Act → Prop} (hw : Region.wanted o (yielded ops a.tmps) = true) {f : FuncId} {args : Array Value} (he : ∀ w, (execOp a.eval o).run P w = .ok (.enter f args) w)
    {v : Value} (hc : ∀ w, C w → Calls P f args w (fun e w' => e = .returned v ∧ C w')) (h : wpQuiet P ops C R rest (a.put o.dst v)) : wpQuiet P ops C R (o :: rest) a := by
  unfold wpQuiet
  rw [if_pos hw]
  refine ⟨v, fun w hC => ?_, h⟩
  unfold Oper.quietAt
  rw [he]
  exact ⟨rfl, hc w hC⟩
theorem load_g {rest : List Oper} {o : Oper} {a : Act} {w : World} (hw : Region.wanted o (yielded ops a.tmps) = true) (T : TypeId) (x : Operand) (ho : o.op = .load T x)
    (B : Nat) (hx : a.eval x = .pointer (some ⟨B, 0, none⟩)) {t : TypeId} {l : List Value} (hb : BlkV w B t l) {d : TypeDesc} (hu : P.underlying T = some d) (hd : d.isRow = true) (hs : (P.info? T).map (·.size) = some l.length)
    (h : wpList P ops Q rest (a.put o.dst (.agg l.toArray)) w) : wpList P ops Q (o :: rest) a w :=
  wpList_step fun K hK => by
    rw [if_pos hw]
    exact wp_load_mid T x ho B 0 hx l d hb.range hu hd hs (hK _ _ h)
end
/-- two frames in blocks of their own, below them nothing has turned -/
structure TwoF (w0 w : World) (n D E : Nat) (la lb : List Value) (a b : Option Addr) (ka kb : List ByteArray) : Prop where
  below : Below n w0 w
  hn : n ≤ D
  hd : D < E
  one : BlkV w D 32 la
  two : BlkV w E 32 lb
  ka : SSl w a ka
  kb : SSl w b kb
  fmt : FmtAt w
theorem TwoF.on {w0 w w' : World} {n D E : Nat} {la lb : List Value} {a b : Option Addr} {ka kb : List ByteArray} (h : TwoF w0 w n D E la lb a b ka kb) (hb : Below w.heap.size w w') : TwoF w0 w' n D E la lb a b ka kb :=
  ⟨h.below.trans (hb.mono (by have := h.one.lt; have := h.hn; omega)), h.hn, h.hd, h.one.on hb, h.two.on hb, h.ka.on hb, h.kb.on hb, h.fmt.on hb⟩
/-- what the caller had lies below the two frames -/
structure LowF (w0 : World) (a b : Option Addr) (ka kb : List ByteArray) : Prop where
  ka : SSl w0 a ka
  kb : SSl w0 b kb
  fmt : FmtAt w0
theorem SSl.under {w0 w : World} {a : Option Addr} {l : List ByteArray} (h : SSl w0 a l) (hb : Below w0.heap.size w0 w) : SSl w a l := h.on hb
theorem TwoF.put1 {w0 w : World} {D E : Nat} {la lb : List Value} {a b : Option Addr} {ka kb : List ByteArray} (h : TwoF w0 w w0.heap.size D E la lb a b ka kb) (l' : List Value) (hl : l'.length = la.length) (hw : LowF w0 a b ka kb) : TwoF w0 (w.setCells D 0 l') w0.heap.size D E l' lb a b ka kb := by
  have hb := below_setCells h.hn l' 0 _ h.below
  exact ⟨hb, h.hn, h.hd, h.one.stored l' hl, h.two.farS (by have := h.hd; omega) _, hw.ka.on hb, hw.kb.on hb, hw.fmt.on hb⟩
theorem TwoF.put2 {w0 w : World} {D E : Nat} {la lb : List Value} {a b : Option Addr} {ka kb : List ByteArray} (h : TwoF w0 w w0.heap.size D E la lb a b ka kb) (l' : List Value) (hl : l'.length = lb.length) (hw : LowF w0 a b ka kb) : TwoF w0 (w.setCells E 0 l') w0.heap.size D E la l' a b ka kb := by
  have hb := below_setCells (show w0.heap.size ≤ E by have := h.hn; have := h.hd; omega) l' 0 _ h.below
  exact ⟨hb, h.hn, h.hd, h.one.farS (by have := h.hd; omega) _, h.two.stored l' hl, hw.ka.on hb, hw.kb.on hb, hw.fmt.on hb⟩
end Go.Proofs.YtdnjieffbgmagaaDoor

/- The package's formats, out of the given row: where they lie, and a world for the witness. -/
namespace Go.Proofs.YtdnjieffbgmagaaDoor
open Go.RowKit Go.ChangeShapes Go.WideShapes
set_option maxRecDepth 100000
theorem gFormats : Tryd.prog.globalNamed "demurral/frame.formats" = some 0 := by kernel_rfl
theorem gFormatsType : (Tryd.prog.globals[0]?).map (·.type) = some 82 := by kernel_rfl
theorem cellsFields : Tryd.prog.cellsOf 81 = 1 := by kernel_rfl
theorem cellsField : Tryd.prog.cellsOf 83 = 1 := by kernel_rfl
theorem cellsFormats : Tryd.prog.cellsOf 82 = 3 := by kernel_rfl
theorem lits_inj {H : Type} {k : IntKind} : ∀ {a b : List Int}, (lits k a : List (DataW H)) = lits k b → a = b
  | [], [], _ => rfl
  | [], _ :: _, h => by simp [lits] at h
  | _ :: _, [], h => by simp [lits] at h
  | x :: a, y :: b, h => by
    simp only [lits, List.map_cons, List.cons.injEq, DataW.lit.injEq, Lit.int.injEq, true_and] at h
    rw [h.1, lits_inj h.2]
theorem ints_at {H : Type} {enc : TypeId × Value → H} {W : World} {sp : Nat → Bool} {held : Bool} {fuel : Nat} {v : Value} {zs : List Int} {q : List MemPlace} (h0 : 0 < zs.length)
    (h : DataW.trod enc Tryd.prog W 0 sp held fuel 81 [v] = some (.slice (lits .i64 zs) [], q)) :
    ∃ b off c : Nat, v = .slice (some ⟨b, off, none⟩) zs.length c ∧ ∀ i, i < zs.length → W.cell? ⟨b, off + i, none⟩ = some (.int .i64 (zs.getD i 0)) := by
  rcases open_ints Tryd.underlying81 Tryd.underlying83 cellsField h with ⟨-, hx⟩ | ⟨a, len, cap, ys, e0, -, hlc, -, hys, hx, hi, -⟩
  · simp at hx
  · obtain rfl : v = .slice (some a) len cap := by simpa using e0
    simp only [Prod.mk.injEq, DataW.slice.injEq] at hx
    have e1 := lits_inj hx.1.1
    have hle : len ≤ ys.length := by rw [hys]; split <;> omega
    have hlen : zs.length = len := by rw [e1, List.length_take]; omega
    have hget : ∀ i, i < zs.length → ys.getD i 0 = zs.getD i 0 := fun i hi => by
      rw [e1]
      simp [List.getD, show i < len by omega]
    obtain ⟨b, off, spot⟩ := a
    have hspot : spot = none := by
      have := hi 0 (by omega)
      simpa [Addr.add] using World.cell?_spot this
    subst hspot
    refine ⟨b, off, cap, by rw [hlen], fun i hin => ?_⟩
    have := hi i (by omega)
    rw [hget i hin, show (⟨b, off, none⟩ : Addr).add i = ⟨b, off + i, none⟩ from Addr.add_mid _ _ _] at this
    exact this
theorem array_len {H : Type} {enc : TypeId × Value → H} {P : Program} {w : World} {base : Nat} {sp : Nat → Bool} {held : Bool} {fuel : Nat} {t e : TypeId} {n : Nat} {cs : List Value} {x : DataW H × List MemPlace}
    (ht : P.underlying t = some (.array n e)) (hct : P.cellsOf t = n) (h : DataW.trod enc P w base sp held fuel t cs = some x) : cs.length = n := by
  cases fuel with
  | zero => simp [DataW.trod] at h
  | succ fuel =>
    simp only [DataW.trod, ht, hct] at h
    split at h
    · rename_i hl
      simpa using hl
    · cases h
def fmtI (k : Nat) : List Int := (fmtL k).map fun n : Nat => (n : Int)
theorem fmt_of_laid {W : World} (h : laidMetH Tryd.prog [("demurral/frame.formats", Rows.laid_demurral_frame_formats)] W) : FmtAt W := by
  have hp : laidMet Tryd.prog [("demurral/frame.formats", Rows.laid_demurral_frame_formats)] W := h
  obtain ⟨ps, ⟨g, t, cs, fuel, p, q, hg, ht, hvar, hd, -, -⟩, -⟩ := hp
  obtain rfl := Option.some.inj (gFormats.symm.trans hg)
  obtain rfl := Option.some.inj (gFormatsType.symm.trans ht)
  have hsz := array_len Tryd.underlying82 cellsFormats hd
  obtain ⟨l⟩ := cs
  match l, hsz with
  | [c0, c1, c2], _ =>
    obtain ⟨y0, y1, y2, n, e, t0, t1, t2⟩ := trod_array3 Tryd.underlying82 cellsFields hd
    have e' := (congrArg Prod.fst e)
    simp only [Rows.laid_demurral_frame_formats, DataW.agg.injEq, List.cons.injEq, and_true] at e'
    obtain ⟨e0, e1, e2⟩ := e'
    have s0 : DataW.trod (fun _ => ()) Tryd.prog W 0 (fun _ => true) false n 81 [c0] = some (.slice (lits .i64 (fmtI 0)) [], y0.2) := by rw [t0, ← (show y0.1 = .slice (lits .i64 (fmtI 0)) [] from e0.symm)]
    have s1 : DataW.trod (fun _ => ()) Tryd.prog W 0 (fun _ => true) false n 81 [c1] = some (.slice (lits .i64 (fmtI 1)) [], y1.2) := by rw [t1, ← (show y1.1 = .slice (lits .i64 (fmtI 1)) [] from e1.symm)]
    have s2 : DataW.trod (fun _ => ()) Tryd.prog W 0 (fun _ => true) false n 81 [c2] = some (.slice (lits .i64 (fmtI 2)) [], y2.2) := by rw [t2, ← (show y2.1 = .slice (lits .i64 (fmtI 2)) [] from e2.symm)]
    obtain ⟨b0, o0, k0, rfl, g0⟩ := ints_at (by decide) s0
    obtain ⟨b1, o1, k1, rfl, g1⟩ := ints_at (by decide) s1
    obtain ⟨b2, o2, k2, rfl, g2⟩ := ints_at (by decide) s2
    have hc := World.var?_cell gFormats hvar
    have conv : ∀ k i, i < (fmtL k).length → (fmtI k).getD i 0 = (((fmtL k).getD i 0 : Nat) : Int) := fun k i hi => by
      simp [fmtI, List.getD, hi]
    have hl : ∀ k, (fmtI k).length = (fmtL k).length := fun k => by simp [fmtI]
    intro k hk
    obtain rfl | rfl | rfl : k = 0 ∨ k = 1 ∨ k = 2 := by omega
    · exact ⟨b0, o0, k0, hc 0, fun i hi => by rw [g0 i (by rw [hl]; exact hi), conv 0 i hi]⟩
    · exact ⟨b1, o1, k1, hc 1, fun i hi => by rw [g1 i (by rw [hl]; exact hi), conv 1 i hi]⟩
    · exact ⟨b2, o2, k2, hc 2, fun i hi => by rw [g2 i (by rw [hl]; exact hi), conv 2 i hi]⟩
theorem door_met (os : Os) (args : Array Value) : laidMetH Tryd.prog [("demurral/frame.formats", Rows.laid_demurral_frame_formats)] ((World.doorLaid Tryd.prog 200 os).forCall (fun _ _ => 0) ⟨#[], args, []⟩).memory :=
  (show laidMet Tryd.prog [("demurral/frame.formats", Rows.laid_demurral_frame_formats)] _ from laidMet_of_run' 8 (by kernel_rfl) (by kernel_rfl))
end Go.Proofs.YtdnjieffbgmagaaDoor
