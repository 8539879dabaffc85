/- The texts Th, To, Ti, one behind the other. -/
import Derived.Test.YtollaaooinoafaaDoorTg
import Derived.Deep.RegionHeld3
import Derived.Deep.DeepCutAuto
/- The package frame's Put and Head. -/
namespace Go.Proofs.YtollaaooinoafaaDoor
open Go.RowKit Go.Sort
set_option maxRecDepth 100000
theorem long_all {f : Fr} (h : rightF f = true) : longL (allP f) = false := by
  rcases right_kind h with k | k | k
  · obtain ⟨h1, h2, h3, h4, -⟩ := rA k h
    rw [allP_A k]
    simp [longL, long_np, long_tp f.ident (by omega), long_tp f.base (by omega), long_tp f.ratchet (by omega), long_tp f.body h4]
  · obtain ⟨-, -, -, -, h3, h4, -⟩ := rB k h
    rw [allP_B k]
    simp [longL, long_np, long_tp f.ratchet (by omega), long_tp f.body h4]
  · obtain ⟨-, -, -, -, -, -, -, -, h8, -⟩ := rC k h
    rw [allP_C k, longL_append]
    have : longL (f.keys.map tp) = false := by
      unfold longL
      rw [List.any_map, List.any_eq_false]
      intro x hx
      have := long_tp x (by have := h8 x hx; omega)
      simp [this]
    have e : longL (np f.keys.length :: f.keys.map tp) = (longP (np f.keys.length) || longL (f.keys.map tp)) := List.any_cons
    rw [e, this]
    rfl
theorem np_ok (n : Nat) (h : n < 18446744073709551616) : PtOk (np n) := ⟨h, Nat.zero_le _⟩
theorem tp_ok (s : ByteArray) (h : s.size ≤ 1024) : PtOk (tp s) := ⟨by show 0 < _; omega, by show s.size ≤ maxLen; unfold maxLen; omega⟩
theorem ok_all {f : Fr} (h : rightF f = true) (ho : FrOk f) : PsOk (allP f) ∧ (allP f).length ≤ 100 := by
  have hz := right_sz f h
  have ok0 : ∀ k, k < 3 → PtOk (np k) := fun k hk => np_ok k (by omega)
  rcases right_kind h with k | k | k
  · rw [allP_A k]
    refine ⟨fun p hp => ?_, by simp⟩
    simp only [List.mem_cons, List.not_mem_nil, or_false] at hp
    rcases hp with rfl | rfl | rfl | rfl | rfl | rfl | rfl | rfl | rfl | rfl | rfl | rfl
    all_goals first | exact ok0 _ (by omega) | exact np_ok _ ho.frm | exact np_ok _ ho.dst | exact np_ok _ ho.id | exact np_ok _ ho.signed | exact np_ok _ ho.once | exact np_ok _ ho.prev | exact np_ok _ ho.num | exact tp_ok _ hz.ident | exact tp_ok _ hz.base | exact tp_ok _ hz.ratchet | exact tp_ok _ hz.body | exact np_ok _ (by have := hz.klen; omega) | exact tp_ok _ (hz.kall x hx)
  · rw [allP_B k]
    refine ⟨fun p hp => ?_, by simp⟩
    simp only [List.mem_cons, List.not_mem_nil, or_false] at hp
    rcases hp with rfl | rfl | rfl | rfl | rfl | rfl | rfl | rfl
    all_goals first | exact ok0 _ (by omega) | exact np_ok _ ho.frm | exact np_ok _ ho.dst | exact np_ok _ ho.id | exact np_ok _ ho.signed | exact np_ok _ ho.once | exact np_ok _ ho.prev | exact np_ok _ ho.num | exact tp_ok _ hz.ident | exact tp_ok _ hz.base | exact tp_ok _ hz.ratchet | exact tp_ok _ hz.body | exact np_ok _ (by have := hz.klen; omega) | exact tp_ok _ (hz.kall x hx)
  · rw [allP_C k]
    refine ⟨fun p hp => ?_, by simp; have := hz.klen; omega⟩
    simp only [List.mem_cons, List.not_mem_nil, or_false, List.mem_append, List.mem_map] at hp
    rcases hp with (rfl | rfl | rfl | rfl) | rfl | ⟨x, hx, rfl⟩
    all_goals first | exact ok0 _ (by omega) | exact np_ok _ ho.frm | exact np_ok _ ho.dst | exact np_ok _ ho.id | exact np_ok _ ho.signed | exact np_ok _ ho.once | exact np_ok _ ho.prev | exact np_ok _ ho.num | exact tp_ok _ hz.ident | exact tp_ok _ hz.base | exact tp_ok _ hz.ratchet | exact tp_ok _ hz.body | exact np_ok _ (by have := hz.klen; omega) | exact tp_ok _ (hz.kall x hx)
theorem packed_good (l : List Pt) (h : longL l = false) : packS l = strL (packL l) ∧ packE l = 0 := ⟨by unfold packS; rw [h]; rfl, by unfold packE; rw [h]; rfl⟩
theorem head_all (f : Fr) : ∃ r, allP f = headP f ++ r := ⟨_, rfl⟩
theorem head_ok {f : Fr} (h : rightF f = true) (ho : FrOk f) : PsOk (headP f) ∧ (headP f).length ≤ 100 ∧ longL (headP f) = false := by
  obtain ⟨r, e⟩ := head_all f
  obtain ⟨h1, h2⟩ := ok_all h ho
  have h3 := long_all h
  rw [e] at h1 h2 h3
  rw [longL_append] at h3
  rw [List.length_append] at h2
  refine ⟨fun p hp => h1 p (by simp [hp]), by omega, ?_⟩
  cases hh : longL (headP f)
  · rfl
  · rw [hh] at h3; simp at h3
def putS (f : Fr) : ByteArray := if rightF f then strL (putF f) else ⟨#[]⟩
def headS (f : Fr) : ByteArray := if rightF f then strL (headF f) else ⟨#[]⟩
def putE (f : Fr) : Int := if rightF f then 0 else 1
set_option maxHeartbeats 2000000 in
theorem fPut_any (f : Fr) (a : Option Addr) (c : Nat) (hl : f.keys.length ≤ maxLen) (ho : FrOk f) (w : World) (hp : SSl w a f.keys) (hF : FmtAt w) :
    Calls Tryd.prog 7 #[frV f a c] w fun e w' => e = .returned (.tuple #[.string (putS f), .int .i64 (putE f)]) ∧ Below w.heap.size w w' := by
  have hb1 : Below w.heap.size w (w.alloc (.cells (frC f a c) 25)) := (Below.refl _ _).alloc (Nat.le_refl _) _
  have hx1 : BlkV (w.alloc (.cells (frC f a c) 25)) w.heap.size 25 (frL f a c) := BlkV.fresh _ _ _ _ rfl _ rfl
  have hR := fRight_any f a c hl (w.alloc (.cells (frC f a c) 25)) (hp.on hb1) (hF.on hb1)
  have hl13 : (frL f a c).length = 13 := rfl
  have eld : (frL f a c).toArray = frC f a c := rfl
  have hfv : frV f a c = .agg (frL f a c).toArray := rfl
  cases hr : rightF f
  · rw [hr] at hR
    have e1 : putS f = ⟨#[]⟩ := by unfold putS; rw [hr]; rfl
    have e2 : putE f = 1 := by unfold putE; rw [hr]; rfl
    rw [e1, e2, hfv]
    rw [hfv] at hR
    rw [← eld] at hb1 hx1 hR
    generalize frL f a c = fc at *
    have HB := Lib.hid hb1; have HX := Lib.hid hx1; have HR := Lib.hid hR; have HL := Lib.hid hl13
    clear hb1 hx1 hR hl hp hF hr e1 e2 hl13 eld hfv ho
    go_enter Tryd.func7, Tryd.ntmps7
    go_upto_region 1 with fail
    generalize World.alloc w _ = V at HB HX HR ⊢
    refine wp_region_lit ?_
    refine load_v rfl _ _ rfl w.heap.size rfl HX.out Tryd.underlying25 rfl (by rw [HL.out]; kernel_rfl) ?_
    go_wp2_with fail
    refine HR.out.mono ?_
    rintro e w1 ⟨rfl, hb⟩
    have HB1 := Lib.hid (HB.out.trans (hb.mono HB.out.size))
    clear HB HX HR hb
    go_wp2_with fail
    go_ret2
    exact ⟨rfl, HB1.out⟩
  · rw [hr] at hR
    have e1 : putS f = strL (putF f) := by unfold putS; rw [hr]; rfl
    have e2 : putE f = 0 := by unfold putE; rw [hr]; rfl
    rw [e1, e2, hfv]
    rw [hfv] at hR
    obtain ⟨kn, hk3, hkn⟩ : ∃ kn : Nat, kn < 3 ∧ f.kind = (kn : Int) := by
      rcases right_kind hr with h | h | h
      · exact ⟨0, by omega, h⟩
      · exact ⟨1, by omega, h⟩
      · exact ⟨2, by omega, h⟩
    have hpa := fun W hb h1 h2 => fParts_any f kn hk3 hkn a c (by have := (right_sz f hr).klen; omega) W (SSl.on hp (w' := W) hb) (FmtAt.on hF (w' := W) h2)
    have hpt : ∀ W, Below w.heap.size w W → Calls Tryd.prog 19 #[.agg (frL f a c).toArray] W fun e w' => ∃ v, e = .returned v ∧ OwnP w' W.heap.size v (allP f) ∧ Below W.heap.size W w' := fun W hb => by
      have := fParts_any f kn hk3 hkn a c (by have := (right_sz f hr).klen; omega) W (hp.on hb) (hF.on hb)
      rw [parts_all f kn hk3 hkn hr] at this
      exact this
    clear hpa
    obtain ⟨h1, h2⟩ := ok_all hr ho
    have h3 := long_all hr
    have hpk : ∀ W a' c', PSl W a' (allP f) → Calls Tryd.prog 18 #[.slice a' (allP f).length c'] W fun e w' => e = .returned (.tuple #[.string (strL (putF f)), .int .i64 0]) ∧ Below W.heap.size W w' := fun W a' c' hq => by
      have := Pack_any a' c' (allP f) (by omega) h1 W hq
      obtain ⟨p1, p2⟩ := packed_good (allP f) h3
      rw [p1, p2] at this
      exact this
    rw [← eld] at hb1 hx1 hR
    generalize frL f a c = fc at *
    have HB := Lib.hid hb1; have HX := Lib.hid hx1; have HR := Lib.hid hR; have HL := Lib.hid hl13; have HPT := Lib.hid hpt; have HPK := Lib.hid hpk
    clear hb1 hx1 hR hl hp hF hr e1 e2 hl13 eld hfv ho hpt hpk h1 h2 h3 hkn
    go_enter Tryd.func7, Tryd.ntmps7
    go_upto_region 1 with fail
    generalize World.alloc w _ = V at HB HX HR ⊢
    refine wp_region_lit ?_
    refine load_v rfl _ _ rfl w.heap.size rfl HX.out Tryd.underlying25 rfl (by rw [HL.out]; kernel_rfl) ?_
    go_wp2_with fail
    refine HR.out.mono ?_
    rintro e w1 ⟨rfl, hb⟩
    have HB1 := Lib.hid (HB.out.trans (hb.mono HB.out.size)); have HX1 := Lib.hid (HX.out.on hb)
    clear HB HX HR hb
    go_upto_region 3 with fail
    refine wp_region_lit ?_
    refine load_v rfl _ _ rfl w.heap.size rfl HX1.out Tryd.underlying25 rfl (by rw [HL.out]; kernel_rfl) ?_
    go_wp2_with fail
    refine (HPT.out w1 HB1.out).mono ?_
    rintro e w2 ⟨v, rfl, hO, hb⟩
    obtain ⟨a2, c2, rfl, -, hps⟩ := hO.psl
    have HB2 := Lib.hid (HB1.out.trans (hb.mono HB1.out.size))
    have HPC := Lib.hid (HPK.out w2 a2 c2 hps)
    clear hO hb hps HB1 HX1 HPT HPK
    go_wp2_with fail
    refine HPC.out.mono ?_
    rintro e w3 ⟨rfl, hb⟩
    have HB3 := Lib.hid (HB2.out.trans (hb.mono HB2.out.size))
    clear hb HB2 HPC
    go_wp2_with fail
    go_ret2
    exact ⟨rfl, HB3.out⟩
end Go.Proofs.YtollaaooinoafaaDoor

/- The law's own few and alive. -/
namespace Go.Proofs.YtollaaooinoafaaDoor
open Go.RowKit Go.Sort
set_option maxRecDepth 100000
theorem fewF_keys (f : Fr) : (fewF f).keys = f.keys.take 34 := rfl
set_option maxHeartbeats 2000000 in
theorem few8_any (f : Fr) (a : Option Addr) (c : Nat) (hl : f.keys.length ≤ maxLen) (hlc : f.keys.length ≤ c) (w : World) :
    Calls Tryd.prog 6 #[frV f a c] w fun e w' => e = .returned (frV (fewF f) a c) ∧ Below w.heap.size w w' := by
  obtain ⟨W, eW⟩ : ∃ W, (w.alloc (.cells (frL f a c).toArray 25)).alloc (.cells zeroL.toArray 25) = W := ⟨_, rfl⟩
  have hB : Below w.heap.size w W := by rw [← eW]; exact ((Below.refl _ _).alloc (Nat.le_refl _) _).alloc (by simp) _
  have hX : BlkV W w.heap.size 25 (frL f a c) := by rw [← eW]; exact (BlkV.fresh _ _ _ _ rfl _ rfl).alloc _
  have hR : BlkV W (w.heap.size + 1) 25 zeroL := by rw [← eW]; exact BlkV.fresh _ _ _ _ rfl _ (by simp)
  unfold maxLen at hl
  obtain ⟨n, en⟩ : ∃ n, f.keys.length = n := ⟨_, rfl⟩
  obtain ⟨m, em⟩ : ∃ m : Nat, min (n : Int) 34 = (m : Int) := ⟨min n 34, by omega⟩
  have hm : (fewF f).keys.length = m := by rw [fewF_keys, List.length_take]; omega
  have h1 : (m : Int) ≤ (n : Int) := by omega
  have h2 : (m : Int) ≤ (c : Int) := by omega
  have hc := hX.cell 12 (.slice a n c) (by rw [← en]; rfl)
  have hf := hX.frozen 12
  have hset : (frL f a c).set 12 (.slice a m c) = frL (fewF f) a c := by rw [← hm]; rfl
  have hX2 := hX.set 12 (.slice a m c)
  have hR2 := hR.far ⟨w.heap.size, 12, none⟩ (by simp) (.slice a m c)
  have hB2 : Below w.heap.size w (W.setCell ⟨w.heap.size, 12, none⟩ (.slice a m c)) := hB.setCell (Nat.le_refl _) _
  rw [hset] at hX2
  obtain ⟨w2, e2⟩ : ∃ w2, W.setCell ⟨w.heap.size, 12, none⟩ (.slice a m c) = w2 := ⟨_, rfl⟩
  rw [e2] at hX2 hR2 hB2
  have hl' : n ≤ 9223372036854775807 := by omega
  have hfv : frV f a c = .agg (frL f a c).toArray := rfl
  have hfv2 : frV (fewF f) a c = .agg (frL (fewF f) a c).toArray := rfl
  have hone := frL_one (fewF f) a c
  rw [hfv, hfv2]
  have hl1 : (frL f a c).length = 13 := rfl
  have hl2 : (frL (fewF f) a c).length = 13 := rfl
  have HW := Lib.hid eW; have HE := Lib.hid e2; have HX := Lib.hid hX2; have HR := Lib.hid hR2; have HB := Lib.hid hB2; have HL := Lib.hid (And.intro hone hl2)
  clear eW e2 hX2 hR2 hB2 hX hR hB hset hm hone hl hlc hfv hfv2 hl1 hl2 en
  generalize frL (fewF f) a c = F2 at HX HL ⊢
  go_enter Tryd.func6, Tryd.ntmps6
  go_upto_region 1 with fail
  change Code.wp Tryd.prog _ _ _ ((w.alloc (.cells (frL f a c).toArray 25)).alloc (.cells zeroL.toArray 25))
  rw [HW.out]
  go_upto_region 2 with fail
  rw [HE.out]
  clear hc hf HE HW
  refine wp_region_lit ?_
  refine load_v rfl _ _ rfl w.heap.size rfl HX.out Tryd.underlying25 rfl (by rw [HL.out.2]; kernel_rfl) ?_
  refine store_v rfl rfl _ _ _ rfl (w.heap.size + 1) rfl (l' := F2) rfl HR.out (by rw [HL.out.2]; rfl) HL.out.1 (by kernel_rfl) ?_
  have hS := HR.out.stored F2 (by rw [HL.out.2]; rfl)
  have hBS := below_setCells (Nat.le_succ w.heap.size) F2 0 _ HB.out
  generalize World.setCells w2 _ _ _ = w3 at hS hBS ⊢
  have HS := Lib.hid hS; have HBS := Lib.hid hBS
  clear hS hBS HB HR HX
  go_wp2_with fail
  refine bodyPost_ret (results_v (p := 2) (T := 25) (by kernel_rfl) _ _ (w.heap.size + 1) rfl HS.out Tryd.underlying25 rfl (by rw [HL.out.2]; kernel_rfl)) rfl ⟨rfl, HBS.out⟩
def aliveF : Fr := ⟨2, 1, 2, 3, ⟨#[]⟩, ⟨#[]⟩, 0, 0, ⟨#[]⟩, 0, 0, ⟨#[]⟩, []⟩
theorem alive_put : putS aliveF = ⟨#[1, 2, 1, 1, 1, 2, 1, 3, 0]⟩ ∧ putE aliveF = 0 := by decide +kernel
set_option maxHeartbeats 2000000 in
theorem alive8_any (w : World) (hF : FmtAt w) :
    Calls Tryd.prog 13 #[] w fun e w' => e = .returned (.bool true) ∧ Below w.heap.size w w' := by
  have hP := fPut_any aliveF none 0 (Nat.zero_le _) ⟨by decide, by decide, by decide, by decide, by decide, by decide, by decide⟩ w (fun h => absurd h (Nat.lt_irrefl 0)) hF
  rw [alive_put.1, alive_put.2] at hP
  have HP := Lib.hid hP
  clear hP hF
  go_enter Tryd.func13, Tryd.ntmps13
  go_wp2_with fail
  refine HP.out.mono ?_
  rintro e w1 ⟨rfl, hb⟩
  have HB := Lib.hid hb
  clear hb HP
  go_wp2_with fail
  go_ret
  exact ⟨rfl, HB.out⟩
end Go.Proofs.YtollaaooinoafaaDoor

/- The package frame's Head. -/
namespace Go.Proofs.YtollaaooinoafaaDoor
open Go.RowKit Go.Sort
set_option maxRecDepth 100000
theorem bel_14 {w0 w : World} {p0 p1 p2 p3 p4 p5 p6 p7 p8 p9 p10 p11 p12 p13 : Addr} {v0 v1 v2 v3 v4 v5 v6 v7 v8 v9 v10 v11 v12 v13 : Value} (h : w0.cell? p0 = some v0 ∧ w0.cell? p1 = some v1 ∧ w0.cell? p2 = some v2 ∧ w0.cell? p3 = some v3 ∧ w0.cell? p4 = some v4 ∧ w0.cell? p5 = some v5 ∧ w0.cell? p6 = some v6 ∧ w0.cell? p7 = some v7 ∧ w0.cell? p8 = some v8 ∧ w0.cell? p9 = some v9 ∧ w0.cell? p10 = some v10 ∧ w0.cell? p11 = some v11 ∧ w0.cell? p12 = some v12 ∧ w0.cell? p13 = some v13) (hb : Bel w0 w) : (w.cell? p0 = some v0 ∧ w.cell? p1 = some v1 ∧ w.cell? p2 = some v2 ∧ w.cell? p3 = some v3 ∧ w.cell? p4 = some v4 ∧ w.cell? p5 = some v5 ∧ w.cell? p6 = some v6 ∧ w.cell? p7 = some v7 ∧ w.cell? p8 = some v8 ∧ w.cell? p9 = some v9 ∧ w.cell? p10 = some v10 ∧ w.cell? p11 = some v11 ∧ w.cell? p12 = some v12 ∧ w.cell? p13 = some v13) ∧ Bel w0 w := by
  have f : ∀ p v, w0.cell? p = some v → w.cell? p = some v := fun p v h => by rw [hb.b.cell (World.block_lt_of_cell? w0 _ h)]; exact h
  obtain ⟨h0, h1, h2, h3, h4, h5, h6, h7, h8, h9, h10, h11, h12, h13⟩ := h
  exact ⟨⟨f _ _ h0, f _ _ h1, f _ _ h2, f _ _ h3, f _ _ h4, f _ _ h5, f _ _ h6, f _ _ h7, f _ _ h8, f _ _ h9, f _ _ h10, f _ _ h11, f _ _ h12, f _ _ h13⟩, hb⟩
theorem head_err {f : Fr} (h : rightF f = false) : headS f = ⟨#[]⟩ ∧ putE f = 1 := ⟨by unfold headS; rw [h]; rfl, by unfold putE; rw [h]; rfl⟩
set_option maxHeartbeats 4000000 in
theorem fHead_any (f : Fr) (a : Option Addr) (c : Nat) (hl : f.keys.length ≤ maxLen) (ho : FrOk f) (w : World) (hp : SSl w a f.keys) (hF : FmtAt w) :
    Calls Tryd.prog 8 #[frV f a c] w fun e w' => e = .returned (.tuple #[.string (headS f), .int .i64 (putE f)]) ∧ Below w.heap.size w w' := by
  have hb1 : Below w.heap.size w (w.alloc (.cells (frC f a c) 25)) := (Below.refl _ _).alloc (Nat.le_refl _) _
  have hx1 : BlkV (w.alloc (.cells (frC f a c) 25)) w.heap.size 25 (frL f a c) := BlkV.fresh _ _ _ _ rfl _ rfl
  have hR := fRight_any f a c hl (w.alloc (.cells (frC f a c) 25)) (hp.on hb1) (hF.on hb1)
  have hl13 : (frL f a c).length = 13 := rfl
  have eld : (frL f a c).toArray = frC f a c := rfl
  have hfv : frV f a c = .agg (frL f a c).toArray := rfl
  cases hr : rightF f
  · rw [hr] at hR
    obtain ⟨e1, e2⟩ := head_err hr
    rw [e1, e2, hfv]
    rw [hfv] at hR
    rw [← eld] at hb1 hx1 hR
    generalize frL f a c = fc at *
    have HB := Lib.hid hb1; have HX := Lib.hid hx1; have HR := Lib.hid hR; have HL := Lib.hid hl13
    clear hb1 hx1 hR hl hp hF hr e1 e2 hl13 eld hfv ho
    go_enter Tryd.func8, Tryd.ntmps8
    go_upto_region 1 with fail
    generalize World.alloc w _ = V at HB HX HR ⊢
    refine wp_region_lit ?_
    refine load_v rfl _ _ rfl w.heap.size rfl HX.out Tryd.underlying25 rfl (by rw [HL.out]; kernel_rfl) ?_
    go_wp2_with fail
    refine HR.out.mono ?_
    rintro e w1 ⟨rfl, hb⟩
    have HB1 := Lib.hid (HB.out.trans (hb.mono HB.out.size))
    clear HB HX HR hb
    go_wp2_with fail
    go_ret2
    exact ⟨rfl, HB1.out⟩
  · rw [hr] at hR
    have e1 : headS f = strL (headF f) := by unfold headS; rw [hr]; rfl
    have e2 : putE f = 0 := by unfold putE; rw [hr]; rfl
    rw [e1, e2]
    obtain ⟨kn, hk3, hkn⟩ : ∃ kn : Nat, kn < 3 ∧ f.kind = (kn : Int) := by
      rcases right_kind hr with h | h | h
      · exact ⟨0, by omega, h⟩
      · exact ⟨1, by omega, h⟩
      · exact ⟨2, by omega, h⟩
    have hpt : ∀ W, Below w.heap.size w W → Calls Tryd.prog 19 #[frV f a c] W fun e w' => ∃ v, e = .returned v ∧ OwnP w' W.heap.size v (allP f) ∧ Below W.heap.size W w' := fun W hb => by
      have := fParts_any f kn hk3 hkn a c (by have := (right_sz f hr).klen; omega) W (hp.on hb) (hF.on hb)
      rw [parts_all f kn hk3 hkn hr] at this
      exact this
    obtain ⟨h1, h2, h3⟩ := head_ok hr ho
    have hpk : ∀ W a' c', PSl W a' (headP f) → Calls Tryd.prog 18 #[.slice a' (headP f).length c'] W fun e w' => e = .returned (.tuple #[.string (strL (headF f)), .int .i64 0]) ∧ Below W.heap.size W w' := fun W a' c' hq => by
      have := Pack_any a' c' (headP f) (by omega) h1 W hq
      obtain ⟨p1, p2⟩ := packed_good (headP f) h3
      rw [p1, p2] at this
      exact this
    obtain ⟨fb, fo, fcap, hf0, -⟩ := hF kn hk3
    have hhl : (headP f).length + 1 = (fmtL kn).length ∧ (headP f).length ≤ (allP f).length ∧ (allP f).take (headP f).length = headP f := by
      rw [← parts_head f kn hk3 hkn, ← parts_all f kn hk3 hkn hr]
      have := fmt_len kn
      have hpl := partsF_length kn f
      refine ⟨by rw [List.length_take, hpl]; omega, by rw [List.length_take, List.length_append]; omega, ?_⟩
      rw [List.length_take, hpl, Nat.min_eq_left (by omega), List.take_append_of_le_length (by omega)]
    obtain ⟨n, en⟩ : ∃ n, (fmtL kn).length = n := ⟨_, rfl⟩
    obtain ⟨m, em⟩ : ∃ m, (headP f).length = m := ⟨_, rfl⟩
    obtain ⟨al, eal⟩ : ∃ al, (allP f).length = al := ⟨_, rfl⟩
    rw [en, em, eal] at hhl
    rw [em] at hpk h2
    rw [en] at hf0
    have hw9 : IntKind.i64.wrap ((n : Int) - 1) = (m : Int) := by rw [IntKind.wrap_i64]; omega
    obtain ⟨AP, eAP⟩ : ∃ AP, allP f = AP := ⟨_, rfl⟩
    obtain ⟨HP, eHP⟩ : ∃ HP, headP f = HP := ⟨_, rfl⟩
    rw [eAP] at hpt hhl eal
    rw [eHP] at hpk hhl
    obtain ⟨HF, eHF⟩ : ∃ HF, headF f = HF := ⟨_, rfl⟩
    rw [eHF] at hpk ⊢
    clear eAP eHP eHF en em hl hp hF hr e1 e2 ho h1 h3
    obtain ⟨kd, fm, dt, fi, it, bs, sg, oc, rt, pv', nm, bd, ks⟩ := f
    simp only at hkn
    subst hkn
    unfold frV at hR hpt ⊢
    simp only [frC] at hb1 hx1 hR hpt ⊢
    have HB := Lib.hid hb1; have HX := Lib.hid hx1; have HR := Lib.hid hR; have HPT := Lib.hid hpt; have HPK := Lib.hid hpk; have HHL := Lib.hid (And.intro hhl (And.intro eal h2)); have HF0 := Lib.hid hf0; have HL := Lib.hid hl13; have HW := Lib.hid (And.intro hw9 (show (kn : Int) < 3 by omega))
    clear hb1 hx1 hR hpt hpk hhl hl13 eld hfv eal hf0 h2 hw9 hk3
    go_enter Tryd.func8, Tryd.ntmps8
    go_upto_region 1 with fail
    generalize World.alloc w _ = V at HB HX HR ⊢
    refine wp_region_lit ?_
    refine load_v rfl _ _ rfl w.heap.size rfl HX.out Tryd.underlying25 rfl (by rw [HL.out]; kernel_rfl) ?_
    go_wp2_with fail
    refine HR.out.mono ?_
    rintro e w1 ⟨rfl, hb⟩
    have hB1 := HB.out.trans (hb.mono HB.out.size)
    have hx := HX.out.on hb
    have hf1 : w1.cell? ⟨0, kn, none⟩ = _ := (hB1.cell (p := ⟨0, kn, none⟩) (World.block_lt_of_cell? w _ HF0.out)).trans HF0.out
    obtain ⟨FB, eFB⟩ : ∃ FB, w.heap.size = FB := ⟨_, rfl⟩
    rw [eFB] at hx ⊢
    have hc : w1.cell? ⟨FB, 0, none⟩ = some (.int .i64 (kn : Int)) ∧ w1.cell? ⟨FB, 1, none⟩ = some (.int .u64 (fm : Int)) ∧ w1.cell? ⟨FB, 2, none⟩ = some (.int .u64 (dt : Int)) ∧ w1.cell? ⟨FB, 3, none⟩ = some (.int .u64 (fi : Int)) ∧ w1.cell? ⟨FB, 4, none⟩ = some (.string it) ∧ w1.cell? ⟨FB, 5, none⟩ = some (.string bs) ∧ w1.cell? ⟨FB, 6, none⟩ = some (.int .u64 (sg : Int)) ∧ w1.cell? ⟨FB, 7, none⟩ = some (.int .u64 (oc : Int)) ∧ w1.cell? ⟨FB, 8, none⟩ = some (.string rt) ∧ w1.cell? ⟨FB, 9, none⟩ = some (.int .u64 (pv' : Int)) ∧ w1.cell? ⟨FB, 10, none⟩ = some (.int .u64 (nm : Int)) ∧ w1.cell? ⟨FB, 11, none⟩ = some (.string bd) ∧ w1.cell? ⟨FB, 12, none⟩ = some (.slice a ks.length c) ∧ w1.cell? ⟨0, kn, none⟩ = some (.slice (some ⟨fb, fo, none⟩) n fcap) := ⟨hx.cell 0 _ rfl, hx.cell 1 _ rfl, hx.cell 2 _ rfl, hx.cell 3 _ rfl, hx.cell 4 _ rfl, hx.cell 5 _ rfl, hx.cell 6 _ rfl, hx.cell 7 _ rfl, hx.cell 8 _ rfl, hx.cell 9 _ rfl, hx.cell 10 _ rfl, hx.cell 11 _ rfl, hx.cell 12 _ rfl, hf1⟩
    have HB1 := Lib.hid (And.intro hB1 eFB); have HC := Lib.hid hc
    clear HB HX HR hb hB1 hx hf1 eFB HF0 HL
    go_upto_region 3 with fail
    have hc := HC.out
    have hb0 := Bel.refl w1
    obtain ⟨hw9, hk9⟩ := HW.out
    have hk0 : (0 : Int) ≤ (kn : Int) := by omega
    have hm0 : (0 : Int) ≤ (m : Int) := by omega
    have HP2 : Hid (∀ W, Bel w1 W → Calls Tryd.prog 19 #[.agg #[.int .i64 (kn : Int), .int .u64 (fm : Int), .int .u64 (dt : Int), .int .u64 (fi : Int), .string it, .string bs, .int .u64 (sg : Int), .int .u64 (oc : Int), .string rt, .int .u64 (pv' : Int), .int .u64 (nm : Int), .string bd, .slice a ks.length c]] W fun e w' => ∃ a2 c2, e = .returned (.slice a2 al c2) ∧ (m : Int) ≤ (c2 : Int) ∧ PSl w' a2 HP ∧ Below W.heap.size W w') := Lib.hid (fun W hb => (HPT.out W (HB1.out.1.trans (hb.b.mono HB1.out.1.size))).mono (by
      rintro e w' ⟨v, rfl, hO, hb'⟩
      obtain ⟨a2, c2, rfl, hcc, hps⟩ := hO.psl
      obtain ⟨⟨-, g1, g2⟩, g3, -⟩ := HHL.out
      refine ⟨a2, c2, by rw [g3], by omega, ?_, hb'⟩
      have := hps.take m
      rw [g2] at this
      exact this))
    clear HPT HW HC
    go_region_held3 (fun w' => (w'.cell? ⟨FB, 0, none⟩ = some (.int .i64 (kn : Int)) ∧ w'.cell? ⟨FB, 1, none⟩ = some (.int .u64 (fm : Int)) ∧ w'.cell? ⟨FB, 2, none⟩ = some (.int .u64 (dt : Int)) ∧ w'.cell? ⟨FB, 3, none⟩ = some (.int .u64 (fi : Int)) ∧ w'.cell? ⟨FB, 4, none⟩ = some (.string it) ∧ w'.cell? ⟨FB, 5, none⟩ = some (.string bs) ∧ w'.cell? ⟨FB, 6, none⟩ = some (.int .u64 (sg : Int)) ∧ w'.cell? ⟨FB, 7, none⟩ = some (.int .u64 (oc : Int)) ∧ w'.cell? ⟨FB, 8, none⟩ = some (.string rt) ∧ w'.cell? ⟨FB, 9, none⟩ = some (.int .u64 (pv' : Int)) ∧ w'.cell? ⟨FB, 10, none⟩ = some (.int .u64 (nm : Int)) ∧ w'.cell? ⟨FB, 11, none⟩ = some (.string bd) ∧ w'.cell? ⟨FB, 12, none⟩ = some (.slice a ks.length c) ∧ w'.cell? ⟨0, kn, none⟩ = some (.slice (some ⟨fb, fo, none⟩) n fcap)) ∧ Bel w1 w')
      ((refine bel_14 hc ?_; first | with_reducible assumption | exact And.right (by with_reducible assumption) | ((with_reducible refine Bel.drew ?_); with_reducible assumption) | ((with_reducible refine Bel.on ?_ hb); exact And.right (by with_reducible assumption))))
      (first | (go_at_call 19; refine (HP2.out _ (And.right (by with_reducible assumption))).mono ?_; rintro e w' ⟨a2, c2, rfl, hmc, hps, hb⟩) | (go_at_call 18; refine (HPK.out _ _ _ hps).mono ?_; rintro e w' ⟨rfl, hb⟩))
    have hbb : Bel w1 w' := And.right (by with_reducible assumption)
    have hend := HB1.out.1.trans (hbb.b.mono HB1.out.1.size)
    have HEND := Lib.hid hend
    clear hend hbb
    go_wp2_with fail
    go_ret2
    exact ⟨rfl, HEND.out⟩
end Go.Proofs.YtollaaooinoafaaDoor
