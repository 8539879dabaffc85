/- The texts Yx, Yi, one behind the other. -/
import Derived.Test.YthjlhcmdpeinpaaGreatDoorBRg4
import Derived.Test.YthjlhcmdpeinpaaGreatDoorYg
import Derived.Test.YthjlhcmdpeinpaaGreatDoorYd
import Derived.Test.YthjlhcmdpeinpaaGreatDoorBRg3
import Derived.Test.YthjlhcmdpeinpaaGreatDoorBg19
import Derived.Test.YthjlhcmdpeinpaaGreatDoorYe
import Derived.Test.YthjlhcmdpeinpaaGreatDoorBg7
/- The law's cut, few, short, alive. -/
namespace Go.Proofs.YthjlhcmdpeinpaaGreatDoor
open Go.RowKit Go.Sort
set_option maxRecDepth 100000
set_option maxHeartbeats 4000000 in
theorem fewY_any (s : Se) (a : Option Addr) (c : Nat) (b : Option Addr) (d : Nat) (hk : s.kept.length ≤ maxLen) (hkc : s.kept.length ≤ c) (hu : s.used.length ≤ maxLen) (hud : s.used.length ≤ d) (w : World) :
    Calls Tryz.prog 7 #[seV s a c b d] w fun e w' => e = .returned (seV (fewS s) a c b d) ∧ Below w.heap.size w w' := by
  obtain ⟨W0, eW0⟩ : ∃ W0, w.alloc (.cells (seL s a c b d).toArray 26) = W0 := ⟨_, rfl⟩
  obtain ⟨W, eW⟩ : ∃ W, W0.alloc (.cells (seL se0 none 0 none 0).toArray 26) = W := ⟨_, rfl⟩
  have z0 : W0.heap.size = w.heap.size + 1 := by rw [← eW0]; simp
  have hb0 : Below w.heap.size w W0 := by rw [← eW0]; exact (Below.refl _ _).alloc (Nat.le_refl _) _
  have hbW : Below w.heap.size w W := by rw [← eW]; exact hb0.alloc hb0.size _
  have h0 : BlkV W w.heap.size 26 (seL s a c b d) := by rw [← eW, ← eW0]; exact (BlkV.fresh _ _ _ _ rfl _ rfl).alloc _
  have h1 : BlkV W (w.heap.size + 1) 26 (seL se0 none 0 none 0) := by rw [← eW]; exact BlkV.fresh _ _ _ _ rfl _ z0.symm
  obtain ⟨m, em⟩ : ∃ m : Nat, min (s.kept.length : Int) 22 = (m : Int) := ⟨min s.kept.length 22, by omega⟩
  obtain ⟨k, ek⟩ : ∃ m : Nat, min (s.used.length : Int) 42 = (m : Int) := ⟨min s.used.length 42, by omega⟩
  unfold maxLen at hk hu
  have h1m : (m : Int) ≤ (c : Int) := by omega
  have h1k : (k : Int) ≤ (d : Int) := by omega
  have hm : (fewS s).kept.length = m := by show (s.kept.take 22).length = m; rw [List.length_take]; omega
  have hk2 : (fewS s).used.length = k := by show (s.used.take 42).length = k; rw [List.length_take]; omega
  have hset : ((seL s a c b d).set 8 (.slice a m c)).set 9 (.slice b k d) = seL (fewS s) a c b d := by rw [← hm, ← hk2]; rfl
  have h2 := ((h0.set 8 (.slice a m c)).set 9 (.slice b k d)).on ((Below.refl _ _).drew)
  rw [hset] at h2
  have h3 := ((h1.far ⟨w.heap.size, 8, none⟩ (by simp) (.slice a m c)).far ⟨w.heap.size, 9, none⟩ (by simp) (.slice b k d)).on ((Below.refl _ _).drew)
  have hb2 := ((hbW.setCell (p := ⟨w.heap.size, 8, none⟩) (Nat.le_refl _) (.slice a m c)).setCell (p := ⟨w.heap.size, 9, none⟩) (Nat.le_refl _) (.slice b k d)).drew
  have d8 := h0.cell 8 _ rfl
  have d9 := h0.cell 9 _ rfl
  have y8 := h0.frozen 8
  have y9 := h0.frozen 9
  have H2 := Lib.hid h2; have H3 := Lib.hid h3; have HB := Lib.hid hb2; have HE := Lib.hid (And.intro eW0 eW)
  clear h0 h1 h2 h3 hb2 hbW eW0 eW z0 hb0 hset hm hk2
  have es : seV s a c b d = .agg (seL s a c b d).toArray := rfl
  rw [es]
  clear es
  go_enter Tryz.func7, Tryz.ntmps7
  go_upto_region 1 with fail
  generalize hG : World.alloc (World.alloc w _) _ = G
  obtain rfl : W = G := by rw [← hG, ← HE.out.2, ← HE.out.1]; rfl
  clear hG HE
  go_region
  generalize World.drew (World.setCell (World.setCell W _ _) _ _) = W3 at H2 H3 HB ⊢
  clear d8 d9 y8 y9
  go_upto_region 2 with fail
  refine wp_region_lit ?_
  refine load_v rfl _ _ rfl w.heap.size rfl H2.out Tryz.underlying26 rfl (by kernel_rfl) ?_
  refine store_v rfl rfl _ _ _ rfl (w.heap.size + 1) rfl (l' := seL (fewS s) a c b d) rfl H3.out rfl (seL_one _ _ _ _ _) (by kernel_rfl) ?_
  have hF := H3.out.stored (seL (fewS s) a c b d) rfl
  have hBF := below_setCells (show w.heap.size ≤ w.heap.size + 1 by omega) (seL (fewS s) a c b d) 0 _ HB.out
  generalize World.setCells W3 _ _ _ = W9 at hF hBF ⊢
  refine wpList_nil ?_
  rename_i K hK
  refine hK _ _ ?_
  refine wp_ret ?_
  exact bodyPost_ret (results_v (p := 2) (T := 26) (by kernel_rfl) _ _ (w.heap.size + 1) rfl hF Tryz.underlying26 rfl (by kernel_rfl)) rfl ⟨rfl, hBF⟩
/-- a frame's first bytes and keys -/
def shortF (f : Fr) : Fr := { f with body := f.body.extract 0 (min f.body.size 1030), keys := f.keys.take 34 }
set_option maxHeartbeats 4000000 in
theorem shortY_any (f : Fr) (a : Option Addr) (c : Nat) (hk : f.keys.length ≤ maxLen) (hkc : f.keys.length ≤ c) (w : World) :
    Calls Tryz.prog 17 #[frV f a c] w fun e w' => e = .returned (frV (shortF f) a c) ∧ Below w.heap.size w w' := by
  obtain ⟨W0, eW0⟩ : ∃ W0, w.alloc (.cells (frL f a c).toArray 43) = W0 := ⟨_, rfl⟩
  obtain ⟨W, eW⟩ : ∃ W, W0.alloc (.cells zeroY.toArray 43) = W := ⟨_, rfl⟩
  have z0 : W0.heap.size = w.heap.size + 1 := by rw [← eW0]; simp
  have hb0 : Below w.heap.size w W0 := by rw [← eW0]; exact (Below.refl _ _).alloc (Nat.le_refl _) _
  have hbW : Below w.heap.size w W := by rw [← eW]; exact hb0.alloc hb0.size _
  have h0 : BlkV W w.heap.size 43 (frL f a c) := by rw [← eW, ← eW0]; exact (BlkV.fresh _ _ _ _ rfl _ rfl).alloc _
  have h1 : BlkV W (w.heap.size + 1) 43 zeroY := by rw [← eW]; exact BlkV.fresh _ _ _ _ rfl _ z0.symm
  obtain ⟨m, em⟩ : ∃ m : Nat, min (f.body.size : Int) 1030 = (m : Int) := ⟨min f.body.size 1030, by omega⟩
  obtain ⟨k, ek⟩ : ∃ m : Nat, min (f.keys.length : Int) 34 = (m : Int) := ⟨min f.keys.length 34, by omega⟩
  unfold maxLen at hk
  have h1m : (m : Int) ≤ (f.body.size : Int) := by omega
  have h1k : (k : Int) ≤ (c : Int) := by omega
  have hm : min f.body.size 1030 = m := by omega
  have hk2 : (shortF f).keys.length = k := by show (f.keys.take 34).length = k; rw [List.length_take]; omega
  have hset : ((frL f a c).set 11 (.string (f.body.extract 0 m))).set 12 (.slice a k c) = frL (shortF f) a c := by rw [← hm, ← hk2]; rfl
  have h2 := ((h0.set 11 (.string (f.body.extract 0 m))).set 12 (.slice a k c)).on ((Below.refl _ _).drew)
  rw [hset] at h2
  have h3 := ((h1.far ⟨w.heap.size, 11, none⟩ (by simp) (.string (f.body.extract 0 m))).far ⟨w.heap.size, 12, none⟩ (by simp) (.slice a k c)).on ((Below.refl _ _).drew)
  have hb2 := ((hbW.setCell (p := ⟨w.heap.size, 11, none⟩) (Nat.le_refl _) (.string (f.body.extract 0 m))).setCell (p := ⟨w.heap.size, 12, none⟩) (Nat.le_refl _) (.slice a k c)).drew
  have d8 := h0.cell 11 _ rfl
  have d9 := h0.cell 12 _ rfl
  have y8 := h0.frozen 11
  have y9 := h0.frozen 12
  have H2 := Lib.hid h2; have H3 := Lib.hid h3; have HB := Lib.hid hb2; have HE := Lib.hid (And.intro eW0 eW)
  clear h0 h1 h2 h3 hb2 hbW eW0 eW z0 hb0 hset hm hk2
  have es : frV f a c = .agg (frL f a c).toArray := rfl
  rw [es]
  clear es
  go_enter Tryz.func17, Tryz.ntmps17
  go_upto_region 1 with fail
  generalize hG : World.alloc (World.alloc w _) _ = G
  obtain rfl : W = G := by rw [← hG, ← HE.out.2, ← HE.out.1]; rfl
  clear hG HE
  go_region
  generalize World.drew (World.setCell (World.setCell W _ _) _ _) = W3 at H2 H3 HB ⊢
  clear d8 d9 y8 y9
  go_upto_region 2 with fail
  refine wp_region_lit ?_
  refine load_v rfl _ _ rfl w.heap.size rfl H2.out Tryz.underlying43 rfl (by kernel_rfl) ?_
  refine store_v rfl rfl _ _ _ rfl (w.heap.size + 1) rfl (l' := frL (shortF f) a c) rfl H3.out rfl (frL_oneY _ _ _) (by kernel_rfl) ?_
  have hF := H3.out.stored (frL (shortF f) a c) rfl
  have hBF := below_setCells (show w.heap.size ≤ w.heap.size + 1 by omega) (frL (shortF f) a c) 0 _ HB.out
  generalize World.setCells W3 _ _ _ = W9 at hF hBF ⊢
  refine wpList_nil ?_
  rename_i K hK
  refine hK _ _ ?_
  refine wp_ret ?_
  exact bodyPost_ret (results_v (p := 2) (T := 43) (by kernel_rfl) _ _ (w.heap.size + 1) rfl hF Tryz.underlying43 rfl (by kernel_rfl)) rfl ⟨rfl, hBF⟩
def keyW : ByteArray := ⟨#[48, 49, 50, 51, 52, 53, 54, 55, 56, 57, 97, 98, 99, 100, 101, 102, 48, 49, 50, 51, 52, 53, 54, 55, 56, 57, 97, 98, 99, 100, 101, 102]⟩
def hiW : ByteArray := ⟨#[104, 105]⟩
def fr1 : Fr := { fr0 with kind := 1 }
theorem start_right (s p f : ByteArray) (_hs : s.size = 32) (hp : p.size = 32) (hf : f.size = 32) : rightS (startS s p f) := by
  unfold startS stepRS beginS rightS openT
  have h1 := rootA_size s (ptY f p)
  have h2 : (rootB s (ptY f p)).size = 32 := spB_sizeY _ _
  refine ⟨⟨hf, h1, Or.inr hp, Or.inr h2, Or.inl rfl, Nat.zero_le _⟩, fun i hi => absurd hi (Nat.not_lt_zero i), ?_, (show rightK [] by decide), (show (0 : Nat) < 4294967296 by omega), (show (0 : Nat) < 4294967296 by omega), (show (0 : Nat) < 4294967296 by omega)⟩
  show p.size = 0 ↔ (rootB s (ptY f p)).size = 0 ∧ _
  omega
set_option maxHeartbeats 4000000 in
theorem aliveY_any (w : World) (hV : Vr w) : Calls Tryz.prog 14 #[] w fun e w' => e = .returned (.bool true) ∧ Below w.heap.size w w' := by
  have hst := Start_good keyW keyW keyW rfl rfl rfl w hV
  have hrs := start_right keyW keyW keyW rfl rfl rfl
  have hkp : (startS keyW keyW keyW).kept.length = 0 ∧ (startS keyW keyW keyW).used.length = 0 := ⟨rfl, rfl⟩
  obtain ⟨S, eS⟩ : ∃ S, startS keyW keyW keyW = S := ⟨_, rfl⟩
  have hsend : S.send.size = 32 := by rw [← eS]; exact spB_sizeY _ _
  rw [eS] at hst hrs hkp
  have hse := fun W (h : Vr W) => Seal_any S none 0 none 0 (by omega) (by omega) (by omega) (by omega) fr1 none 0 (by show (0 : Nat) ≤ _; exact Nat.zero_le _) ⟨by decide, by decide, by decide, by decide, by decide, by decide, by decide⟩ hiW W h ⟨fun h0 => absurd h0 (by omega), fun h0 => absurd h0 (by omega)⟩ (fun h0 => absurd h0 (Nat.lt_irrefl 0))
  have h00 : sealE S fr1 hiW = 0 := by
    unfold sealE
    rw [if_neg (fun h => h ⟨hrs, by decide⟩), if_neg (by decide), if_neg (by omega)]
  have hbody : (sealF S fr1 hiW).body.size = 34 := by
    show (strL (lockL _ _ _)).size = 34
    rw [strL_size]
    unfold lockL againL
    rw [List.length_append, show (tagOfL _ _ _).length = 32 from ofL_length _, xorC_length, bl_length]
    rfl
  have HST := Lib.hid hst; have HSE := Lib.hid hse; have H0 := Lib.hid h00; have HBD := Lib.hid hbody; have HV := Lib.hid hV; have HKP := Lib.hid hkp
  clear hst hse h00 hbody hV eS hrs hsend hkp
  unfold keyW at HST
  go_enter Tryz.func14, Tryz.ntmps14
  go_wp2_with fail
  refine HST.out.mono ?_
  rintro e w1 ⟨rfl, hb⟩
  have HB1 := Lib.hid hb
  have hV1 := Lib.hid (HV.out.on hb)
  clear hb HST HV
  rename_i K hK
  refine hK _ _ ?_
  clear hK K
  unfold seV at HSE ⊢
  iterate 4 (refine wpList_step (fun K hK => ?_); go_simp; refine hK _ _ ?_; clear hK K)
  have hA0 : BlkV (w1.alloc (.cells (seL se0 none 0 none 0).toArray 26)) w1.heap.size 26 (seL se0 none 0 none 0) := BlkV.fresh _ _ _ _ rfl _ rfl
  have hbA : Below w1.heap.size w1 (w1.alloc (.cells (seL se0 none 0 none 0).toArray 26)) := (Below.refl _ _).alloc (Nat.le_refl _) _
  obtain ⟨V, eV⟩ : ∃ V, w1.alloc (.cells (seL se0 none 0 none 0).toArray 26) = V := ⟨_, rfl⟩
  rw [eV] at hA0 hbA
  generalize hG : World.alloc w1 _ = G
  obtain rfl : V = G := by rw [← hG, ← eV]; rfl
  clear hG eV
  refine store_v rfl rfl _ _ _ rfl w1.heap.size rfl (l' := seL S none 0 none 0) rfl hA0 rfl (seL_one _ _ _ _ _) (by kernel_rfl) ?_
  have hA := hA0.stored (seL S none 0 none 0) rfl
  have hbB := below_setCells (Nat.le_refl w1.heap.size) (seL S none 0 none 0) 0 _ hbA
  generalize World.setCells V _ _ _ = V2 at hA hbB ⊢
  clear hA0 hbA
  iterate 1 (refine wpList_step (fun K hK => ?_); go_simp; refine hK _ _ ?_; clear hK K)
  refine wpList_nil ?_
  rename_i K hK
  refine hK _ _ ?_
  clear hK K
  have HA := Lib.hid hA
  have HB2 := Lib.hid (HB1.out.trans (hbB.mono HB1.out.size))
  have HSE2 := Lib.hid (HSE.out V2 (hV1.out.on hbB))
  clear hA hbB HSE hV1
  go_upto_region 2 with fail
  refine wp_region_lit ?_
  refine load_v rfl _ _ rfl w1.heap.size rfl HA.out Tryz.underlying26 rfl (by kernel_rfl) ?_
  go_wp2_with fail
  refine HSE2.out.mono ?_
  rintro e w3 (⟨-, a', c', b', d', rfl, -, -, -, hb, -, -⟩ | ⟨h0, -⟩)
  case inr => exact absurd H0.out h0
  case inl =>
    have HB3 := Lib.hid (HB2.out.trans (hb.mono HB2.out.size))
    clear hb HSE2 HB2 HA HB1 H0 HKP
    rename_i K hK
    refine hK _ _ ?_
    clear hK K
    unfold seV
    iterate 6 (refine wpList_step (fun K hK => ?_); go_simp; refine hK _ _ ?_; clear hK K)
    obtain ⟨X0, eX0⟩ : ∃ X0, w3.alloc (.cells (seL se0 none 0 none 0).toArray 26) = X0 := ⟨_, rfl⟩
    obtain ⟨X, eX⟩ : ∃ X, X0.alloc (.cells zeroY.toArray 43) = X := ⟨_, rfl⟩
    have z0 : X0.heap.size = w3.heap.size + 1 := by rw [← eX0]; simp
    have hbX0 : Below w3.heap.size w3 X0 := by rw [← eX0]; exact (Below.refl _ _).alloc (Nat.le_refl _) _
    have hbX : Below w3.heap.size w3 X := by rw [← eX]; exact hbX0.alloc hbX0.size _
    have hP : BlkV X w3.heap.size 26 (seL se0 none 0 none 0) := by rw [← eX, ← eX0]; exact (BlkV.fresh _ _ _ _ rfl _ rfl).alloc _
    have hQ : BlkV X (w3.heap.size + 1) 43 zeroY := by rw [← eX]; exact BlkV.fresh _ _ _ _ rfl _ z0.symm
    generalize hG : World.alloc (World.alloc w3 _) _ = G
    obtain rfl : X = G := by rw [← hG, ← eX, ← eX0]; rfl
    clear hG eX eX0 z0 hbX0
    refine store_v rfl rfl _ _ _ rfl w3.heap.size rfl (l' := seL (sealS S) a' c' b' d') rfl hP rfl (seL_one _ _ _ _ _) (by kernel_rfl) ?_
    have hQ2 := hQ.farS (show w3.heap.size + 1 ≠ w3.heap.size by omega) (seL (sealS S) a' c' b' d')
    refine store_v rfl rfl _ _ _ rfl (w3.heap.size + 1) rfl (l' := frL (sealF S fr1 hiW) none 0) rfl hQ2 rfl (frL_oneY _ _ _) (by kernel_rfl) ?_
    have hQ3 := hQ2.stored (frL (sealF S fr1 hiW) none 0) rfl
    have hbY := below_setCells (show w3.heap.size ≤ w3.heap.size + 1 by omega) (frL (sealF S fr1 hiW) none 0) 0 _ (below_setCells (Nat.le_refl w3.heap.size) (seL (sealS S) a' c' b' d') 0 _ hbX)
    generalize World.setCells (World.setCells X _ _ _) _ _ _ = Y at hQ3 hbY ⊢
    clear hP hQ hQ2 hbX
    have d11 := hQ3.cell 11 _ rfl
    have HB4 := Lib.hid (HB3.out.trans (hbY.mono HB3.out.size))
    have hl : ((sealF S fr1 hiW).body.size : Int) = 34 := by rw [HBD.out]; rfl
    clear hQ3 hbY HB3
    iterate 1 (refine wpList_step (fun K hK => ?_); go_simp; refine hK _ _ ?_; clear hK K)
    refine wpList_nil ?_
    rename_i K hK
    refine hK _ _ ?_
    clear hK K
    go_wp2_with fail
    go_ret
    exact ⟨rfl, HB4.out⟩
end Go.Proofs.YthjlhcmdpeinpaaGreatDoor

/- Small laws of walks by hand: loads and calls in quiet regions, two and four blocks. -/
namespace Go.Proofs.YthjlhcmdpeinpaaGreatDoor
open Go.RowKit Go.Sort
set_option maxRecDepth 100000
section
variable {P : Program} {ops : Array Oper} {Q : Exit → Act → World → Prop} {C : World → Prop}
theorem load_qY {rest : List Oper} {o : Oper} {a : Act} {R : Act → Prop} (hw : Region.wanted o (yielded ops a.tmps) = true) (T : TypeId) (x : Operand) (ho : o.op = .load T x)
    (B : Nat) (hx : a.eval x = .pointer (some ⟨B, 0, none⟩)) {t : TypeId} {l : List Value} (hb : ∀ w, C w → BlkV w B t l) {d : TypeDesc} (hu : P.underlying T = some d) (hd : d.isRow = true) (hs : (P.info? T).map (·.size) = some l.length)
    (h : wpQuiet P ops C R rest (a.put o.dst (.agg l.toArray))) : wpQuiet P ops C R (o :: rest) a := by
  unfold wpQuiet
  rw [if_pos hw]
  refine ⟨.agg l.toArray, fun w hC => ?_, h⟩
  unfold Oper.quietAt execOp
  simp only [ho, hx, Instr.loadAt, Instr.sureAddr, Sem.run_bind, Sem.run_pure, Result.andThen_ok, run_loadVar_mid w B 0 T l d (hb w hC).range hu hd hs]
  exact ⟨rfl, rfl⟩
theorem load_gY {rest : List Oper} {o : Oper} {a : Act} {w : World} (hw : Region.wanted o (yielded ops a.tmps) = true) (T : TypeId) (x : Operand) (ho : o.op = .load T x)
    (B : Nat) (hx : a.eval x = .pointer (some ⟨B, 0, none⟩)) {t : TypeId} {l : List Value} (hb : BlkV w B t l) {d : TypeDesc} (hu : P.underlying T = some d) (hd : d.isRow = true) (hs : (P.info? T).map (·.size) = some l.length)
    (h : wpList P ops Q rest (a.put o.dst (.agg l.toArray)) w) : wpList P ops Q (o :: rest) a w :=
  wpList_step fun K hK => by
    rw [if_pos hw]
    exact wp_load_mid T x ho B 0 hx l d hb.range hu hd hs (hK _ _ h)
end
structure R4 (w : World) (lk ls lf ld : List Value) (wx : World) : Prop where
  below : Below w.heap.size w wx
  rk : BlkV wx w.heap.size 39 lk
  rs : BlkV wx (w.heap.size + 1) 26 ls
  rf : BlkV wx (w.heap.size + 2) 43 lf
  rd : BlkV wx (w.heap.size + 3) 48 ld
theorem R4.on {w wx wy : World} {lk ls lf ld : List Value} (h : R4 w lk ls lf ld wx) (hb : Below wx.heap.size wx wy) : R4 w lk ls lf ld wy :=
  ⟨h.below.trans (hb.mono h.below.size), h.rk.on hb, h.rs.on hb, h.rf.on hb, h.rd.on hb⟩
theorem R4.setS {w wx : World} {lk ls lf ld : List Value} (h : R4 w lk ls lf ld wx) (i : Nat) (v : Value) : R4 w lk (ls.set i v) lf ld (wx.setCell ⟨w.heap.size + 1, i, none⟩ v) :=
  ⟨h.below.setCell (by show w.heap.size ≤ w.heap.size + 1; omega) _, h.rk.far _ (by show w.heap.size ≠ w.heap.size + 1; omega) _, h.rs.set i _, h.rf.far _ (by show w.heap.size + 2 ≠ w.heap.size + 1; omega) _, h.rd.far _ (by show w.heap.size + 3 ≠ w.heap.size + 1; omega) _⟩
theorem R4.setF {w wx : World} {lk ls lf ld : List Value} (h : R4 w lk ls lf ld wx) (i : Nat) (v : Value) : R4 w lk ls (lf.set i v) ld (wx.setCell ⟨w.heap.size + 2, i, none⟩ v) :=
  ⟨h.below.setCell (by show w.heap.size ≤ w.heap.size + 2; omega) _, h.rk.far _ (by show w.heap.size ≠ w.heap.size + 2; omega) _, h.rs.far _ (by show w.heap.size + 1 ≠ w.heap.size + 2; omega) _, h.rf.set i _, h.rd.far _ (by show w.heap.size + 3 ≠ w.heap.size + 2; omega) _⟩
theorem callv_any {P : Program} {ops : Array Oper} {Q : Exit → Act → World → Prop} {i : Nat} {o : Oper} {K : Act → World → Prop} {a : Act} {w : World} {f : FuncId} {args : Array Value} (hi : ops[i]? = some o) (hw : Region.wanted o (yielded ops a.tmps) = true) (he : (execOp a.eval o).run P w = .ok (.enter f args) w)
    {v : Value} {R : World → Prop} (hc : Calls P f args w (fun e w' => e = .returned v ∧ R w')) (h : ∀ w', R w' → K (a.put o.dst v) w') : wpOp P ops Q i K a w := by
  refine wpOp_onY hi hw ?_
  unfold Oper.wp
  rw [he]
  refine hc.mono fun e w' ⟨h1, h2⟩ => ?_
  subst h1
  exact h w' h2
/-- a session's and a frame's box -/
structure TwoY (w : World) (n : Nat) (ls lf : List Value) (wx : World) : Prop where
  below : Below w.heap.size w wx
  hn : w.heap.size ≤ n
  one : BlkV wx n 26 ls
  two : BlkV wx (n + 1) 43 lf
theorem TwoY.on {w wx wy : World} {n : Nat} {ls lf : List Value} (h : TwoY w n ls lf wx) (hb : Below wx.heap.size wx wy) : TwoY w n ls lf wy := ⟨h.below.trans (hb.mono h.below.size), h.hn, h.one.on hb, h.two.on hb⟩
theorem TwoY.put1 {w wx : World} {n : Nat} {ls lf : List Value} (h : TwoY w n ls lf wx) (l' : List Value) (hl : l'.length = ls.length) : TwoY w n l' lf (wx.setCells n 0 l') :=
  ⟨below_setCells h.hn _ _ _ h.below, h.hn, h.one.stored l' hl, h.two.farS (by omega) _⟩
theorem TwoY.put2 {w wx : World} {n : Nat} {ls lf : List Value} (h : TwoY w n ls lf wx) (l' : List Value) (hl : l'.length = lf.length) : TwoY w n ls l' (wx.setCells (n + 1) 0 l') :=
  ⟨below_setCells (Nat.le_succ_of_le h.hn) _ _ _ h.below, h.hn, h.one.farS (by omega) _, h.two.stored l' hl⟩
def SealsIn (w : World) (ls lf : List Value) (t : ByteArray) (v : Value) (wx : World) : Prop := v = .string t ∧ TwoY w w.heap.size ls lf wx
theorem TwoY.farS {w wx : World} {n : Nat} {ls lf : List Value} (h : TwoY w n ls lf wx) (R : Nat) (hR : n + 1 < R) (vs : List Value) : TwoY w n ls lf (wx.setCells R 0 vs) :=
  ⟨below_setCells (by have := h.hn; omega) _ _ _ h.below, h.hn, h.one.farS (by omega) _, h.two.farS (by omega) _⟩
theorem yields_row {P : Program} {ops : Array Oper} {S : World → Prop} {o : Oper} {a : Act} (hw : Region.wanted o (yielded ops a.tmps) = true) (T : TypeId) (x : Operand) (ho : o.op = .load T x)
    (B : Nat) (hx : a.eval x = .pointer (some ⟨B, 0, none⟩)) {t : TypeId} {l : List Value} (hb : ∀ w, S w → BlkV w B t l) {d : TypeDesc} (hu : P.underlying T = some d) (hd : d.isRow = true) (hs : (P.info? T).map (·.size) = some l.length) : YieldsIf P ops S o (.agg l.toArray) a :=
  Or.inl ⟨hw, fun w hS => by
    unfold execOp
    simp only [ho, hx, Instr.loadAt, Instr.sureAddr, Sem.run_bind, Sem.run_pure, Result.andThen_ok, run_loadVar_mid w B 0 T l d (hb w hS).range hu hd hs]⟩
end Go.Proofs.YthjlhcmdpeinpaaGreatDoor
