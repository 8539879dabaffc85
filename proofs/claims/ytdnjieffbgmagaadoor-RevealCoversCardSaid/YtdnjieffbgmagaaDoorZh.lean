/- The reference 14: a frame changed. -/
import Derived.Test.YtdnjieffbgmagaaDoorZf
import Derived.Test.YtdnjieffbgmagaaDoorZg
import Derived.Test.YtdnjieffbgmagaaDoorZd
import Derived.Test.YtdnjieffbgmagaaDoorQs
namespace Go.Proofs.YtdnjieffbgmagaaDoor
open Go.RowKit Go.Sort
set_option maxRecDepth 100000

def schZ : List (Nat × Nat) := [(0, 0), (1, 0), (3, 0), (5, 0), (6, 0), (9, 0), (10, 0), (7, 0), (11, 0), (2, 2), (4, 2), (8, 2), (12, 2), (13, 2), (14, 2), (15, 2)]
def noOpZ : Oper := { dst := none, op := .move (.tmp 0), type := 0, pos := "", after := #[], guard := none }
theorem agg_strZ (w : World) : (isAgg 9).run Tryd.prog w = .ok false w := run_isAgg_plain Tryd.underlying9 rfl w
def X14R (W : World) (base : Nat) (y : List UInt8) (m : Nat) (v i : Value) (wr : World) : Prop :=
  ∃ k g cap : Nat, k ≤ m ∧ v = .slice (some ⟨g, 0, none⟩) k cap ∧ i = .int .i64 (k : Int) ∧ Own wr base (.slice (some ⟨g, 0, none⟩) k cap) (y.take k) ∧ Below W.heap.size W wr
theorem hid_get (f : Fr) (k : Nat) (h : k < f.body.size - 32) : (bl (hidB f)).getD k 0 = (bl f.body).getD k 0 := by
  unfold hidB
  rw [bl_extract, List.drop_zero, List.getD_eq_getElem?_getD, List.getElem?_take_of_lt (by omega), ← List.getD_eq_getElem?_getD]
set_option maxHeartbeats 8000000 in
theorem Change14_any (kv : Value) (q : ByteArray) (hq : q.size = 32) (f : Fr) (a : Option Addr) (c : Nat) (hw0 : whyF f = 0) (ho : FrOk f) (o t : ByteArray) (hos : o.size = f.body.size - 32) (hts : t.size = f.body.size - 32) (w : World) (hk : KAt w kv) :
    Calls Tryd.prog 20 #[kv, .string q, frV f a c, .string o, .string t] w fun e w' => e = .returned (frV (changeF q f o t) a c) ∧ Below w.heap.size w w' := by
  obtain ⟨hr, hk2, hb32⟩ := whyF_zero hw0
  have hab := able_of hr hk2 ho
  have hhs := hidB_size f hb32
  obtain ⟨v0, v1, ekv, -, -⟩ := id hk
  obtain ⟨W0, eW0⟩ : ∃ W0, w.alloc (.cells #[v0, v1] 49) = W0 := ⟨_, rfl⟩
  obtain ⟨W1, eW1⟩ : ∃ W1, W0.alloc (.cells (frL f a c).toArray 32) = W1 := ⟨_, rfl⟩
  obtain ⟨W, eW⟩ : ∃ W, W1.alloc (.cells zeroZ.toArray 32) = W := ⟨_, rfl⟩
  have z0 : W0.heap.size = w.heap.size + 1 := by rw [← eW0]; simp
  have z1 : W1.heap.size = w.heap.size + 2 := by rw [← eW1]; simp [z0]
  have z2 : W.heap.size = w.heap.size + 3 := by rw [← eW]; simp [z1]
  have hb0 : Below w.heap.size w W0 := by rw [← eW0]; exact (Below.refl _ _).alloc (Nat.le_refl _) _
  have hb1 : Below w.heap.size w W1 := by rw [← eW1]; exact hb0.alloc hb0.size _
  have hbW : Below w.heap.size w W := by rw [← eW]; exact hb1.alloc hb1.size _
  have hX0 : BlkV W w.heap.size 49 [v0, v1] := by rw [← eW, ← eW1, ← eW0]; exact ((BlkV.fresh _ _ _ _ rfl _ rfl).alloc _).alloc _
  have hX1 : BlkV W (w.heap.size + 1) 32 (frL f a c) := by rw [← eW, ← eW1]; exact (BlkV.fresh _ _ _ _ rfl _ z0.symm).alloc _
  have hX2 : BlkV W (w.heap.size + 2) 32 zeroZ := by rw [← eW]; exact BlkV.fresh _ _ _ _ rfl _ z1.symm
  have hh := fun V => rHead_any f a c (right_sz f hr) ho V
  have ef : frV f a c = .agg (frL f a c).toArray := rfl
  obtain ⟨y, ey⟩ : ∃ y, xor3 (bl (hidB f)) (bl o) (bl t) = y := ⟨_, rfl⟩
  have hyl : y.length = o.size := by rw [← ey, xor3_length, bl_length, hhs, hos]
  have hy1 : (strL y).size ≤ 1100 := by rw [strL_size, hyl, hos]; have := hab.body; omega
  have hag := fun (V : World) (hV : Below w.heap.size w V) => refagain_any kv q (strL (headF f)) (strL y) (by omega) hab.head hy1 V (hk.on hV)
  have hnx : ∀ k, k < o.size → y.take (k + 1) = y.take k ++ [(bl f.body).getD k 0 ^^^ (bl o).getD k 0 ^^^ (bl t).getD k 0] := fun k hk => by
    have hg : y.getD k 0 = (bl f.body).getD k 0 ^^^ (bl o).getD k 0 ^^^ (bl t).getD k 0 := by
      rw [← ey, xor3_get _ _ _ k (by rw [bl_length, hhs]; omega), hid_get f k (by omega)]
    rw [← hg, List.take_succ_eq_append_getElem (by omega)]
    simp [List.getD, (show k < y.length by omega)]
  have hres : frL (changeF q f o t) a c = (frL f a c).set 11 (.string (strL (againL (bl q) (bl (strL (headF f))) (bl (strL y))))) := by rw [← ey]; rfl
  have ec : frV (changeF q f o t) a c = .agg (frL (changeF q f o t) a c).toArray := rfl
  rw [ef] at hh ⊢
  rw [ec, hres]
  obtain ⟨HD, eHD⟩ : ∃ HD, strL (headF f) = HD := ⟨_, rfl⟩
  rw [eHD] at hh hag ⊢
  obtain ⟨R, eR⟩ : ∃ R, strL (againL (bl q) (bl HD) (bl (strL y))) = R := ⟨_, rfl⟩
  rw [eR] at hag ⊢
  have hbs : o.size ≤ f.body.size := by omega
  have hbb := hab.body
  obtain ⟨bd, ebd⟩ : ∃ bd, f.body = bd := ⟨_, rfl⟩
  have hL11 : (frL f a c)[11]? = some (.string bd) := by rw [← ebd]; rfl
  have hLo := frL_oneZ f a c
  obtain ⟨L, eL⟩ : ∃ L, frL f a c = L := ⟨_, rfl⟩
  have hLl : L.length = 13 := by rw [← eL]; rfl
  rw [ebd] at hnx hbs hbb hts hos
  rw [eL] at hX1 hh hL11 hLo ⊢
  subst ekv
  have HH := Lib.hid hh; have HAG := Lib.hid hag; have HX := Lib.hid (And.intro hX0 (And.intro hX1 hX2)); have HB := Lib.hid hbW; have HE := Lib.hid (And.intro eW0 (And.intro eW1 (And.intro eW eL)))
  have HL := Lib.hid (And.intro hLl (And.intro hL11 hLo)); have HY := Lib.hid (And.intro hyl hnx); have HS := Lib.hid (And.intro hbs (And.intro hbb (And.intro hos hts))); have HZ := Lib.hid z2
  clear hh hag hX0 hX1 hX2 hbW hb0 hb1 eW0 eW1 eW z0 z1 z2 ef ec ey hyl hy1 hnx hres eHD eR hbs hbb ebd hL11 hLo eL hLl hq hw0 ho hos hts hk hr hk2 hb32 hab hhs
  go_enter Tryd.func20, Tryd.ntmps20
  go_upto_region 1 with fail
  generalize hG : World.alloc (World.alloc (World.alloc w _) _) _ = G
  obtain rfl : W = G := by rw [← hG, ← HE.out.2.2.1, ← HE.out.2.1, ← HE.out.1, ← HE.out.2.2.2]; rfl
  clear hG HE
  have hE := Own.empty W (w.heap.size + 3) (by rw [HZ.out]; exact Nat.le_refl _)
  have hB0 : Below W.heap.size W (W.alloc (.cells #[] 5)) := (Below.refl _ _).alloc (Nat.le_refl _) _
  have HE := Lib.hid hE; have HB0 := Lib.hid hB0
  clear hE hB0
  go_wp2_with fail
  go_loopw [11, 12] (X14R W (w.heap.size + 3) y o.size) (fun _ i _ => o.size - (intOf i).toNat)
  case atStart => exact ⟨0, _, _, by omega, rfl, rfl, by simpa using HE.out, HB0.out⟩
  case round =>
    clear HE HB0
    obtain ⟨k, g, cap, hkx, rfl, rfl, hO, hB⟩ := hrel
    have hsz : w.heap.size + 3 ≤ wr.heap.size := by rw [← HZ.out]; exact hB.size
    by_cases hlt : k < o.size
    · have h1 : (k : Int) < (o.size : Int) := by omega
      obtain ⟨hbs, hbb, hos, hts⟩ := HS.out
      have h2 : k < t.size := by omega
      have h3 : k < bd.size := by omega
      have d11 : wr.cell? ⟨w.heap.size + 1, 11, none⟩ = some (.string bd) := (HX.out.2.1.on hB).cell 11 _ HL.out.2.1
      have hi1 := str_index bd (k : Int) k rfl h3
      have hi2 := str_index o (k : Int) k rfl hlt
      have hi3 := str_index t (k : Int) k rfl h2
      have hst := HY.out.2 k hlt
      rw [bl_get bd k h3, bl_get o k hlt, bl_get t k h2] at hst
      obtain ⟨p1, e1⟩ : ∃ p1, bd[k] = p1 := ⟨_, rfl⟩
      obtain ⟨p2, e2⟩ : ∃ p2, o[k] = p2 := ⟨_, rfl⟩
      obtain ⟨p3, e3⟩ : ∃ p3, t[k] = p3 := ⟨_, rfl⟩
      simp only [e1] at hi1 hst
      simp only [e2] at hi2 hst
      simp only [e3] at hi3 hst
      have hx1 := bits_xor8 p1 p2
      obtain ⟨z, ez⟩ : ∃ z, p1 ^^^ p2 = z := ⟨_, rfl⟩
      rw [ez] at hx1 hst
      have hx2 := bits_xor8 z p3
      obtain ⟨u, eu⟩ : ∃ u, z ^^^ p3 = u := ⟨_, rfl⟩
      rw [eu] at hx2 hst
      have hlen : (y.take k).length = k := by rw [List.length_take, HY.out.1]; omega
      obtain ⟨l, hl⟩ : ∃ l, y.take k = l := ⟨_, rfl⟩
      rw [hl] at hO hst hlen
      have HO := Lib.hid hO; have HST := Lib.hid hst; have HLEN := Lib.hid hlen; have HB1 := Lib.hid hB; have HK := Lib.hid (show k < 1024 by omega)
      have hk9 : (k : Int) < 1024 := by omega
      clear hO hst hlen hl e1 e2 e3 ez eu hB hbs hbb hos hts h2 h3
      go_upto_region 5 with fail
      refine wp_region_sch 9 schZ noOpZ (by kernel_rfl) agg_strZ (by kernel_rfl) (by kernel_rfl) (by kernel_rfl) (by kernel_rfl) ?_
      simp only [pickS, schZ, List.map_cons, List.map_nil, List.getD_cons_succ, List.getD_cons_zero]
      iterate 9 (refine wpS_step (fun K hK => ?_); simp only [schStep]; go_simp; refine hK _ _ ?_; clear hK K)
      iterate 4 (refine wpS_step (fun K hK => ?_); simp only [schStep]; go_simp; refine hK _ _ ?_; clear hK K)
      have hO : Own wr.drew (w.heap.size + 3) (.slice (some ⟨g, 0, none⟩) k cap) l := HO.out
      have hB := HB1.out.drew
      have hsz' : w.heap.size + 3 ≤ wr.drew.heap.size := hsz
      clear HO HB1 hi1 hi2 hi3 hx1 hx2 d11 hsz
      generalize wr.drew = V at hO hB hsz' ⊢
      have HO := Lib.hid hO; have HB1 := Lib.hid hB
      clear hO hB
      refine wpS_step (fun K hK => ?_)
      simp only [schStep]
      go_simp
      refine hK _ _ ?_
      clear hK K
      refine wpS_one #[] rfl ?_
      refine append_bytes rfl _ _ rfl (w.heap.size + 3) (.slice (some ⟨g, 0, none⟩) k cap) l [u] V.heap.size rfl (by exact Own.alloc HO.out _) 1 rfl rfl (by omega) (lit_bytes V [u] _ _ rfl) (by rw [HLEN.out]; have := HK.out; omega) (by simp; omega) ?_
      intro g' cap' w' hY hg
      have hB' := (show Own V (w.heap.size + 3) (.slice (some ⟨g, 0, none⟩) k cap) l from HO.out).below (by rw [← HZ.out]; exact HB1.out) hsz' hg
      rw [← HST.out, HLEN.out] at hY
      rw [HLEN.out]
      rw [← HZ.out] at hB'
      have HY2 := Lib.hid hY; have HB' := Lib.hid hB'
      clear hY hB' hg HO HB1
      refine wpList_nil ⟨rfl, ?_⟩
      refine wpS_step (fun K hK => ?_)
      simp only [schStep]
      go_simp
      refine hK _ _ ?_
      clear hK K
      refine ⟨rfl, ?_⟩
      go_wp2_with fail
      exact ⟨⟨k + 1, g', cap', by omega, by simp, rfl, HY2.out, HB'.out⟩, by simp [intOf]; omega⟩
    · obtain rfl : k = o.size := by omega
      rw [List.take_of_length_le (by rw [HY.out.1]; exact Nat.le_refl _)] at hO
      have htx := hO.text HY.out.1.symm
      change _ = Result.ok (Value.string (strL y)) _ at htx
      have hn : ¬ (o.size : Int) < (o.size : Int) := by omega
      have HX1 := Lib.hid (And.intro (HX.out.1.on hB) (And.intro (HX.out.2.1.on hB) (HX.out.2.2.on hB)))
      have hB1 := HB.out.trans (hB.mono HB.out.size)
      have HB1 := Lib.hid hB1; have HHD := Lib.hid (HH.out wr)
      have HO := Lib.hid hO; have HTX := Lib.hid htx
      clear hO hB hB1 htx hsz HX HB HH
      go_upto_region 6 with fail
      refine wp_region_lit ?_
      refine load_v rfl _ _ rfl (w.heap.size + 1) rfl HX1.out.2.1 Tryd.underlying32 rfl (by rw [HL.out.1]; kernel_rfl) ?_
      go_wp2_with fail
      refine HHD.out.mono ?_
      rintro e w2 ⟨rfl, hb⟩
      have hO2 := HO.out.onB hb
      have htx := hO2.text HY.out.1.symm
      change _ = Result.ok (Value.string (strL y)) _ at htx
      have HX2 := Lib.hid (And.intro (HX1.out.1.on hb) (And.intro (HX1.out.2.1.on hb) (HX1.out.2.2.on hb)))
      have HB2 := Lib.hid (HB1.out.trans (hb.mono HB1.out.size))
      clear hb hO2 HX1 HB1 HHD HO HTX
      have c0 := HX2.out.1.cell 0 _ rfl
      have c1 := HX2.out.1.cell 1 _ rfl
      have HA := Lib.hid (HAG.out w2 HB2.out)
      clear HAG
      go_upto_region 8 with (go_at_call 35; refine HA.out.mono ?_; rintro e w3 ⟨rfl, hb⟩; have d11 := (HX2.out.2.1.on hb).cell 11 _ HL.out.2.1; have y11 := (HX2.out.2.1.on hb).frozen 11)
      have hX3 := (HX2.out.2.1.on hb).set 11 (.string R)
      have hZ3 := (HX2.out.2.2.on hb).far ⟨w.heap.size + 1, 11, none⟩ (show w.heap.size + 2 ≠ w.heap.size + 1 by omega) (.string R)
      have hB3 := (HB2.out.trans (hb.mono HB2.out.size)).setCell (p := ⟨w.heap.size + 1, 11, none⟩) (Nat.le_succ _) (.string R)
      have hL1 : (L.set 11 (.string R)).length = 13 := by rw [List.length_set]; exact HL.out.1
      have hLo : ∀ v ∈ L.set 11 (.string R), v.oneCell' = true := fun v hv => by
        rcases List.mem_or_eq_of_mem_set hv with h | rfl
        · exact HL.out.2.2 v h
        · rfl
      obtain ⟨M, eM⟩ : ∃ M, L.set 11 (.string R) = M := ⟨_, rfl⟩
      rw [eM] at hX3 hL1 hLo
      have HX3 := Lib.hid (And.intro hX3 (And.intro hZ3 hB3)); have HM := Lib.hid (And.intro eM (And.intro hL1 hLo))
      clear hX3 hZ3 hB3 hL1 hLo eM hb d11 y11 c0 c1 htx HX2 HB2 HA
      generalize World.setCell w3 _ _ = V3 at HX3 ⊢
      refine wp_region_lit ?_
      refine load_v rfl _ _ rfl (w.heap.size + 1) rfl HX3.out.1 Tryd.underlying32 rfl (by rw [HM.out.2.1]; kernel_rfl) ?_
      refine store_v rfl rfl _ _ _ rfl (w.heap.size + 2) rfl (l' := M) rfl HX3.out.2.1 HM.out.2.1 HM.out.2.2 (by kernel_rfl) ?_
      have hF := HX3.out.2.1.stored M HM.out.2.1
      have hBF := below_setCells (show w.heap.size ≤ w.heap.size + 2 by omega) M 0 _ HX3.out.2.2
      generalize World.setCells _ _ _ _ = W9 at hF hBF ⊢
      have HF := Lib.hid hF; have HBF := Lib.hid hBF
      clear hF hBF HX3
      go_wp2_with fail
      refine bodyPost_ret (results_v (p := 10) (T := 32) (by kernel_rfl) _ _ (w.heap.size + 2) rfl HF.out Tryd.underlying32 rfl (by rw [HM.out.2.1]; kernel_rfl)) rfl ?_
      exact ⟨by rw [HM.out.1], HBF.out⟩
end Go.Proofs.YtdnjieffbgmagaaDoor
