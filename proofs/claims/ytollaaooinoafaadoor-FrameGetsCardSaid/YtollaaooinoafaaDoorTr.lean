/- FrameGets: the frame that any bytes tell. -/
import Derived.Test.YtollaaooinoafaaDoorTp
import Derived.Test.YtollaaooinoafaaDoorTl
import Derived.Test.YtollaaooinoafaaDoorTn
import Derived.Deep.DeepCutAuto
namespace Go.Proofs.YtollaaooinoafaaDoor
open Go.RowKit Go.Sort
set_option maxRecDepth 100000
def cut8 (k : ByteArray) : ByteArray := k.extract 0 (min k.size 4000)
theorem cut8_size (k : ByteArray) : (cut8 k).size ≤ 4000 := by unfold cut8; rw [ByteArray.size_extract]; omega
theorem cut8_run (k : ByteArray) (W : World) : (Instr.slice 9 (.string k) none (some (.int .i64 (min (k.size : Int) 4000))) none).run Tryd.prog W = .ok (.string (cut8 k)) W := by
  have hc : k.extract 0 (min (k.size : Int) 4000).toNat = cut8 k := by
    unfold cut8
    congr 1
    omega
  have l1 : min (k.size : Int) 4000 ≤ (k.size : Int) := by omega
  have l0 : 0 ≤ min (k.size : Int) 4000 := by omega
  rw [← hc]
  clear hc
  go_simp
theorem gotF_right {s : List UInt8} (h : (getF s).isSome = true) : getF s = some (gotF (getF s)) ∧ rightF (gotF (getF s)) = true ∧ FrOk (gotF (getF s)) ∧ putF (gotF (getF s)) = s := by
  cases hg : getF s with
  | none => rw [hg] at h; cases h
  | some f => exact ⟨rfl, putF_get s f hg⟩
theorem gotF_none {s : List UInt8} (h : (getF s).isSome = false) : gotF (getF s) = zeroFr := by
  cases hg : getF s with
  | none => rfl
  | some f => rw [hg] at h; cases h
theorem gotE_some {o : Option Fr} (h : o.isSome = true) : gotE o = 0 := by cases o with | none => cases h | some f => rfl
theorem gotE_none {o : Option Fr} (h : o.isSome = false) : gotE o = 4 := by cases o with | none => rfl | some f => cases h
theorem gotF_len (s : List UInt8) : (gotF (getF s)).keys.length ≤ maxLen := by
  cases h : (getF s).isSome
  · rw [gotF_none h]; exact Nat.zero_le _
  · have := (right_sz _ (gotF_right h).2.1).klen
    unfold maxLen
    omega
theorem load_r {P : Program} {ops : Array Oper} {Q : Exit → Act → World → Prop} {rest : List Oper} {o : Oper} {a : Act} {w : World} (hw : Region.wanted o (yielded ops a.tmps) = true) (T : TypeId) (x : Operand) (ho : o.op = .load T x)
    (B : Nat) (hx : a.eval x = .pointer (some ⟨B, 0, none⟩)) {l : List Value} (hb : w.rangeAt B 0 l) {d : TypeDesc} (hu : P.underlying T = some d) (hd : d.isRow = true) (hs : (P.info? T).map (·.size) = some l.length)
    (h : wpList P ops Q rest (a.put o.dst (.agg l.toArray)) w) : wpList P ops Q (o :: rest) a w :=
  wpList_step fun K hK => by
    rw [if_pos hw]
    exact wp_load_mid T x ho B 0 hx l d hb hu hd hs (hK _ _ h)
theorem range_cut {w : World} {B : Nat} {t : TypeId} {f : Fr} {a : Option Addr} {c : Nat} {b : Bool} (h : BlkV w B t (cut14 f a c b)) : w.rangeAt B 0 (frL f a c) := by
  intro j v hv
  have hj : j < (frL f a c).length := (List.getElem?_eq_some_iff.1 hv).1
  refine h.range j v ?_
  unfold cut14
  rw [List.getElem?_append_left hj]; exact hv
set_option maxHeartbeats 4000000 in
theorem frameGets_any (s0 : ByteArray) (_hs0 : s0.size ≤ maxLen) (w : World) (hF : FmtAt w) :
    Calls Tryd.prog 4 #[.string s0] w fun e w' => e = .returned (.bool true) ∧ Below w.heap.size w w' := by
  have hsl := cut8_run s0
  have hk4 := cut8_size s0
  obtain ⟨k, ek⟩ : ∃ k, cut8 s0 = k := ⟨_, rfl⟩
  rw [ek] at hsl hk4
  have hks : k.size ≤ maxLen := by unfold maxLen; omega
  have hG := fun W h => fGet_any k hks W h
  have hG8 := fun W => r8Get_any k hks W
  have hE0 := fun h => gotE_some (o := getF (bl k)) h
  have hE4 := fun h => gotE_none (o := getF (bl k)) h
  have hkl := gotF_len (bl k)
  obtain ⟨F, eF⟩ : ∃ F, gotF (getF (bl k)) = F := ⟨_, rfl⟩
  obtain ⟨E, eE⟩ : ∃ E, gotE (getF (bl k)) = E := ⟨_, rfl⟩
  obtain ⟨is, eis⟩ : ∃ b, (getF (bl k)).isSome = b := ⟨_, rfl⟩
  rw [eE, eis] at hE0 hE4
  rw [eF] at hkl
  simp only [eF, eE, eis] at hG hG8
  have HG := Lib.hid hG; have HG8 := Lib.hid hG8; have HE := Lib.hid (And.intro hE0 hE4); have HKL := Lib.hid hkl; have HF := Lib.hid hF
  clear hG hG8 hE0 hE4 hkl eF eE eis hks hk4 ek hF _hs0
  go_enter Tryd.func4, Tryd.ntmps4
  go_upto_region 2 with fail
  clear hsl
  refine wp_region_lit ?_
  iterate 1 (refine wpList_step (fun K hK => ?_); go_simp; refine hK _ _ ?_; clear hK K)
  refine wpList_step (fun K hK => ?_)
  go_simp
  refine (HG.out _ HF.out).mono ?_
  rintro e w1 ⟨a, c, rfl, -, hp, hb⟩
  have hFm := HF.out.on hb
  have hl13 : (frL F a c).length = 13 := rfl
  rw [show frV F a c = .agg (frL F a c).toArray from rfl]
  obtain ⟨l, el⟩ : ∃ l, frL F a c = l := ⟨_, rfl⟩
  have h1 := frL_one F a c
  rw [el] at hl13 h1 ⊢
  have HL := Lib.hid (And.intro hl13 (And.intro h1 el))
  have HB := Lib.hid hb; have HP := Lib.hid hp; have HF1 := Lib.hid hFm
  clear hb hp hFm hl13 h1 el HF HG
  refine hK _ _ ?_
  clear hK K
  iterate 4 (refine wpList_step (fun K hK => ?_); go_simp; refine hK _ _ ?_; clear hK K)
  change wpList _ _ _ _ _ (w1.alloc (.cells zeroL.toArray 25))
  have hx := BlkV.fresh w1 25 zeroL zeroL.toArray rfl _ rfl
  refine store_v rfl rfl _ _ _ rfl w1.heap.size rfl (l' := l) rfl hx HL.out.1 HL.out.2.1 (by kernel_rfl) ?_
  have hx2 := hx.stored l HL.out.1
  have hb2 := below_setCells (Nat.le_refl w1.heap.size) l 0 _ ((Below.refl w1.heap.size w1).alloc (Nat.le_refl _) (.cells zeroL.toArray 25))
  have hB2 := HB.out.trans (hb2.mono HB.out.size)
  have hP2 := HP.out.on hb2
  have hF2 := HF1.out.on hb2
  obtain ⟨D, eD⟩ : ∃ D, w1.heap.size = D := ⟨_, rfl⟩
  rw [eD] at hx2 hB2 hP2 hF2 ⊢
  generalize World.setCells (World.alloc w1 _) _ _ _ = w2 at hx2 hB2 hP2 hF2 ⊢
  have HX := Lib.hid hx2; have HB2 := Lib.hid hB2; have HP2 := Lib.hid hP2; have HF2 := Lib.hid hF2
  clear hx hx2 hb2 hB2 hP2 hF2 eD HB HP HF1
  go_upto_region 3 with fail
  refine wp_region_lit ?_
  iterate 1 (refine wpList_step (fun K hK => ?_); go_simp; refine hK _ _ ?_; clear hK K)
  refine wpList_step (fun K hK => ?_)
  go_simp
  refine (HG8.out _).mono ?_
  rintro e w3 ⟨a', c', rfl, hp, hb⟩
  have hX3 := HX.out.on hb
  have hB3 := HB2.out.trans (hb.mono HB2.out.size)
  have hP3 := HP2.out.on hb
  have hF3 := HF2.out.on hb
  have hlr : (cut14 F a' c' is).length = 14 := rfl
  have hlo := cut14_one F a' c' is
  refine hK _ _ ?_
  clear hK K hb HX HB2 HP2 HF2 HG8
  iterate 1 (refine wpList_step (fun K hK => ?_); go_simp; refine hK _ _ ?_; clear hK K)
  change wpList _ _ _ _ _ (w3.alloc (.cells blank14.toArray 37))
  have hx := BlkV.fresh w3 37 blank14 blank14.toArray rfl _ rfl
  refine store_v rfl rfl _ _ _ rfl w3.heap.size rfl (l' := cut14 F a' c' is) rfl hx rfl hlo (by kernel_rfl) ?_
  have hx2 := hx.stored (cut14 F a' c' is) rfl
  have hb2 := below_setCells (Nat.le_refl w3.heap.size) (cut14 F a' c' is) 0 _ ((Below.refl w3.heap.size w3).alloc (Nat.le_refl _) (.cells blank14.toArray 37))
  have hX4 := hX3.on hb2
  have hB4 := hB3.trans (hb2.mono hB3.size)
  have hP4 := hP3.on hb2
  have hQ4 := hp.on hb2
  have hF4 := hF3.on hb2
  obtain ⟨D2, eD⟩ : ∃ D, w3.heap.size = D := ⟨_, rfl⟩
  rw [eD] at hx2 hX4 hB4 hP4 hQ4 hF4 ⊢
  generalize World.setCells (World.alloc w3 _) _ _ _ = w4 at hx2 hX4 hB4 hP4 hQ4 hF4 ⊢
  have HX := Lib.hid hX4; have HB := Lib.hid hB4; have HP := Lib.hid hP4; have HQ := Lib.hid hQ4; have HF := Lib.hid hF4; have HY := Lib.hid hx2
  clear hx hx2 hb2 hX4 hB4 hP4 hQ4 hF4 eD hX3 hB3 hP3 hF3 hp hlr hlo
  go_upto_region 4 with fail
  refine wp_region_lit ?_
  refine wpList_step (fun K hK => ?_)
  go_simp
  refine (alive8_any _ HF.out).mono ?_
  rintro e w5 ⟨rfl, hb⟩
  have HX5 := Lib.hid (HX.out.on hb); have HB5 := Lib.hid (HB.out.trans (hb.mono HB.out.size)); have HP5 := Lib.hid (HP.out.on hb); have HQ5 := Lib.hid (HQ.out.on hb); have HY5 := Lib.hid (HY.out.on hb)
  clear hb HX HB HP HQ HF HY
  refine hK _ _ ?_
  clear hK K
  iterate 1 (refine wpList_step (fun K hK => ?_); go_simp; refine hK _ _ ?_; clear hK K)
  refine load_g rfl _ _ rfl D rfl HX5.out Tryd.underlying25 rfl (by rw [HL.out.1]; kernel_rfl) ?_
  iterate 1 (refine wpList_step (fun K hK => ?_); go_simp; refine hK _ _ ?_; clear hK K)
  refine load_r rfl _ _ rfl D2 rfl (range_cut HY5.out) Tryd.underlying25 rfl (by kernel_rfl) ?_
  have hsm := r8Same_any F F a a' c c' HKL.out HKL.out w5 HP5.out HQ5.out
  rw [decide_eq_true (rfl : F = F), show frV F a c = .agg l.toArray by rw [← HL.out.2.2]; rfl, show frV F a' c' = .agg (frL F a' c').toArray from rfl] at hsm
  have HSM := Lib.hid hsm
  clear hsm
  refine wpList_step (fun K hK => ?_)
  go_simp
  refine HSM.out.mono ?_
  rintro e w6 ⟨rfl, hb⟩
  have hy6 := HY5.out.on hb
  have HB6 := Lib.hid (HB5.out.trans (hb.mono HB5.out.size))
  have c13 : w6.cell? ⟨D2, 13, none⟩ = some (.bool is) := hy6.cell 13 _ rfl
  refine hK _ _ ?_
  clear hK K hb HX5 HB5 HP5 HQ5 HY5 HSM hy6 HL
  cases is
  · obtain rfl := HE.out.2 rfl
    clear HE
    go_wp2_with fail
    go_ret
    exact ⟨rfl, HB6.out⟩
  · obtain rfl := HE.out.1 rfl
    clear HE
    go_wp2_with fail
    go_ret
    exact ⟨rfl, HB6.out⟩
end Go.Proofs.YtollaaooinoafaaDoor