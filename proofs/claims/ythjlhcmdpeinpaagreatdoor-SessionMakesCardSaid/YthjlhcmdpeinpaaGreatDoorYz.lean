/- SessionMakes: any session of who begins, and of who is asked, whether any one may be, and which two are the same. -/
import Derived.Test.YthjlhcmdpeinpaaGreatDoorBRg5
import Derived.Test.YthjlhcmdpeinpaaGreatDoorYk
import Derived.Test.YthjlhcmdpeinpaaGreatDoorQt
import Derived.BigQuiet
namespace Go.Proofs.YthjlhcmdpeinpaaGreatDoor
open Go.RowKit Go.Sort
set_option maxRecDepth 100000
set_option maxHeartbeats 1000000 in
theorem cutZ_any (s : ByteArray) (_hs : s.size ≤ maxLen) : ∃ t : ByteArray, ∀ w : World, Calls Tryz.prog 6 #[.string s] w fun e w' => e = .returned (.string t) ∧ Below w.heap.size w w' := by
  obtain ⟨m, em⟩ : ∃ m : Nat, min (s.size : Int) 40 = (m : Int) := ⟨min s.size 40, by omega⟩
  have h1 : (m : Int) ≤ (s.size : Int) := by omega
  clear _hs
  refine ⟨s.extract 0 m, fun w => ?_⟩
  go_enter Tryz.func6, Tryz.ntmps6
  go_wp2_with fail
  go_ret
  exact ⟨rfl, Below.refl _ _⟩
/-- two sessions' boxes -/
structure TwoM (w : World) (n : Nat) (ls lf : List Value) (wx : World) : Prop where
  below : Below w.heap.size w wx
  hn : w.heap.size ≤ n
  one : BlkV wx n 26 ls
  two : BlkV wx (n + 1) 26 lf
theorem TwoM.on {w wx wy : World} {n : Nat} {ls lf : List Value} (h : TwoM w n ls lf wx) (hb : Below wx.heap.size wx wy) : TwoM w n ls lf wy := ⟨h.below.trans (hb.mono h.below.size), h.hn, h.one.on hb, h.two.on hb⟩
theorem TwoM.put1 {w wx : World} {n : Nat} {ls lf : List Value} (h : TwoM w n ls lf wx) (l' : List Value) (hl : l'.length = ls.length) : TwoM w n l' lf (wx.setCells n 0 l') :=
  ⟨below_setCells h.hn _ _ _ h.below, h.hn, h.one.stored l' hl, h.two.farS (by omega) _⟩
theorem TwoM.put2 {w wx : World} {n : Nat} {ls lf : List Value} (h : TwoM w n ls lf wx) (l' : List Value) (hl : l'.length = lf.length) : TwoM w n ls l' (wx.setCells (n + 1) 0 l') :=
  ⟨below_setCells (Nat.le_succ_of_le h.hn) _ _ _ h.below, h.hn, h.one.farS (by omega) _, h.two.stored l' hl⟩
theorem seNone (w : World) (s : Se) (hk : s.kept = []) (hu : s.used = []) : SeAt w s none none := ⟨by rw [hk]; exact fun h => absurd h (Nat.lt_irrefl 0), by rw [hu]; exact fun h => absurd h (Nat.lt_irrefl 0)⟩
/-- what Start tells -/
theorem Start_all (p q r : ByteArray) : ∃ (S : Se) (e0 : Int), S.kept = [] ∧ S.used = [] ∧ ((p.size = 32 ∧ q.size = 32 ∧ r.size = 32) ∧ S = startS p q r ∧ e0 = 0 ∨ ¬ (p.size = 32 ∧ q.size = 32 ∧ r.size = 32) ∧ S = se0 ∧ e0 = 2) ∧
    ∀ w, Vr w → Calls Tryz.prog 8 #[.string p, .string q, .string r] w fun e w' => e = .returned (.tuple #[.agg (seL S none 0 none 0).toArray, .int .i64 e0]) ∧ Below w.heap.size w w' := by
  by_cases h : p.size = 32 ∧ q.size = 32 ∧ r.size = 32
  · exact ⟨startS p q r, 0, rfl, rfl, Or.inl ⟨h, rfl, rfl⟩, fun w hV => Start_good p q r h.1 h.2.1 h.2.2 w hV⟩
  · exact ⟨se0, 2, rfl, rfl, Or.inr ⟨h, rfl, rfl⟩, fun w _ => Start_bad p q r h w⟩
theorem Accept_all (p r : ByteArray) : ∃ (S : Se) (e0 : Int), S.kept = [] ∧ S.used = [] ∧ ((p.size = 32 ∧ r.size = 32) ∧ S = acceptS p r ∧ e0 = 0 ∨ ¬ (p.size = 32 ∧ r.size = 32) ∧ S = se0 ∧ e0 = 2) ∧
    ∀ w, Calls Tryz.prog 9 #[.string p, .string r] w fun e w' => e = .returned (.tuple #[.agg (seL S none 0 none 0).toArray, .int .i64 e0]) ∧ Below w.heap.size w w' := by
  by_cases h : p.size = 32 ∧ r.size = 32
  · exact ⟨acceptS p r, 0, rfl, rfl, Or.inl ⟨h, rfl, rfl⟩, fun w => Accept_good p r h.1 h.2 w⟩
  · exact ⟨se0, 2, rfl, rfl, Or.inr ⟨h, rfl, rfl⟩, fun w => Accept_bad p r h w⟩
set_option maxHeartbeats 8000000 in
theorem makes_any (x y z : ByteArray) (hx : x.size ≤ maxLen) (hy : y.size ≤ maxLen) (hz : z.size ≤ maxLen)
    (s : Se) (a : Option Addr) (c : Nat) (b : Option Addr) (d : Nat) (hk : s.kept.length ≤ maxLen) (hkc : s.kept.length ≤ c) (hu : s.used.length ≤ maxLen) (hud : s.used.length ≤ d)
    (s' : Se) (a' : Option Addr) (c' : Nat) (b' : Option Addr) (d' : Nat) (hk' : s'.kept.length ≤ maxLen) (hkc' : s'.kept.length ≤ c') (hu' : s'.used.length ≤ maxLen) (hud' : s'.used.length ≤ d') (w : World) (hV : Vr w) (hs : SeAt w s a b) (hs' : SeAt w s' a' b') :
    Calls Tryz.prog 3 #[.string x, .string y, .string z, seV s a c b d, seV s' a' c' b' d'] w fun e w' => e = .returned (.bool true) ∧ Below w.heap.size w w' := by
  obtain ⟨p, hp⟩ := cutZ_any x hx
  obtain ⟨q, hq⟩ := cutZ_any y hy
  obtain ⟨r, hr⟩ := cutZ_any z hz
  obtain ⟨W0, eW0⟩ : ∃ W0, w.alloc (.cells (seL s a c b d).toArray 26) = W0 := ⟨_, rfl⟩
  obtain ⟨W, eW⟩ : ∃ W, W0.alloc (.cells (seL s' a' c' b' d').toArray 26) = W := ⟨_, rfl⟩
  have z0 : W0.heap.size = w.heap.size + 1 := by rw [← eW0]; simp
  have hb0 : Below w.heap.size w W0 := by rw [← eW0]; exact (Below.refl _ _).alloc (Nat.le_refl _) _
  have hbW : Below w.heap.size w W := by rw [← eW]; exact hb0.alloc hb0.size _
  have h1 : TwoM w w.heap.size (seL s a c b d) (seL s' a' c' b' d') W := ⟨hbW, Nat.le_refl _, by rw [← eW, ← eW0]; exact (BlkV.fresh _ _ _ _ rfl _ rfl).alloc _, by rw [← eW]; exact BlkV.fresh _ _ _ _ rfl _ z0.symm⟩
  have hfw := fun V => fewY_any s a c b d hk hkc hu hud V
  have hfw' := fun V => fewY_any s' a' c' b' d' hk' hkc' hu' hud' V
  have es : seV s a c b d = .agg (seL s a c b d).toArray := rfl
  have es2 : seV (fewS s) a c b d = .agg (seL (fewS s) a c b d).toArray := rfl
  have es' : seV s' a' c' b' d' = .agg (seL s' a' c' b' d').toArray := rfl
  have es2' : seV (fewS s') a' c' b' d' = .agg (seL (fewS s') a' c' b' d').toArray := rfl
  rw [es, es2] at hfw
  rw [es', es2'] at hfw'
  rw [es, es']
  have hSk : (fewS s).kept.length ≤ 22 ∧ (fewS s).kept.length ≤ c := by show (s.kept.take 22).length ≤ 22 ∧ (s.kept.take 22).length ≤ c; rw [List.length_take]; omega
  have hSu : (fewS s).used.length ≤ 42 := by show (s.used.take 42).length ≤ 42; rw [List.length_take]; omega
  have hSk' : (fewS s').kept.length ≤ 22 ∧ (fewS s').kept.length ≤ c' := by show (s'.kept.take 22).length ≤ 22 ∧ (s'.kept.take 22).length ≤ c'; rw [List.length_take]; omega
  have hSu' : (fewS s').used.length ≤ 42 := by show (s'.used.take 42).length ≤ 42; rw [List.length_take]; omega
  have hsa : SeAt w (fewS s) a b := ⟨hs.kept.take 22, hs.used.take 42⟩
  have hsa' : SeAt w (fewS s') a' b' := ⟨hs'.kept.take 22, hs'.used.take 42⟩
  have H1 := Lib.hid h1; have HE := Lib.hid (And.intro eW0 eW); have HFW := Lib.hid hfw; have HFW' := Lib.hid hfw'; have HP := Lib.hid hp; have HQ := Lib.hid hq; have HR := Lib.hid hr
  have HX := Lib.hid (And.intro hSk (And.intro hSu (And.intro hSk' hSu'))); have HSA := Lib.hid (And.intro hsa hsa'); have HV := Lib.hid hV
  clear h1 eW0 eW hb0 hbW z0 hfw hfw' es es2 es' es2' hSk hSu hSk' hSu' hsa hsa' hk hkc hu hud hk' hkc' hu' hud' hV hs hs' hp hq hr hx hy hz
  go_enter Tryz.func3, Tryz.ntmps3
  go_upto_region 1 with fail
  generalize hG : World.alloc (World.alloc w _) _ = G
  obtain rfl : W = G := by rw [← hG, ← HE.out.2, ← HE.out.1]
  clear hG HE
  refine wp_region_tail_below 10 (by kernel_rfl) (by simp) (by kernel_rfl) (by kernel_rfl) ?_
  simp only [List.take_succ_cons, List.take_zero]
  iterate 6 (quiet_step (first | (go_at_call_of 6 (Value.string x); with_reducible exact Calls.regrown_of (HP.out _)) | (go_at_call_of 6 (Value.string y); with_reducible exact Calls.regrown_of (HQ.out _)) | (go_at_call_of 6 (Value.string z); with_reducible exact Calls.regrown_of (HR.out _))))
  refine load_qY (by rfl) _ _ rfl w.heap.size rfl (l := seL s a c b d) (by rintro _ ⟨⟨dd, os⟩, rfl⟩; exact H1.out.one.on (below_regrown W dd os)) Tryz.underlying26 rfl (by kernel_rfl) ?_
  iterate 1 (quiet_step (first | (go_at_call 7; with_reducible exact Calls.regrown_of (HFW.out _))))
  refine load_qY (by rfl) _ _ rfl (w.heap.size + 1) rfl (l := seL s' a' c' b' d') (by rintro _ ⟨⟨dd, os⟩, rfl⟩; exact H1.out.two.on (below_regrown W dd os)) Tryz.underlying26 rfl (by kernel_rfl) ?_
  iterate 1 (quiet_step (first | (go_at_call 7; with_reducible exact Calls.regrown_of (HFW'.out _))))
  refine wpQuiet_nil ?_
  intro _ hw'
  obtain ⟨⟨dq, osq⟩, hw''⟩ := hw'
  subst hw''
  simp only [List.drop_succ_cons, List.drop_zero]
  have h2 := H1.out.on (below_regrown W dq osq)
  clear H1 HFW HFW' HP HQ HR
  generalize grow (redrawn W dq) osq = V at h2 ⊢
  generalize fewS s = S at *
  generalize fewS s' = S' at *
  iterate 3 (refine wpList_step (fun K hK => ?_); go_simp; refine hK _ _ ?_; clear hK K)
  refine store_v rfl rfl _ _ _ rfl w.heap.size rfl (l' := seL S a c b d) rfl h2.one rfl (seL_one _ _ _ _ _) (by kernel_rfl) ?_
  have h3 := h2.put1 (seL S a c b d) rfl
  refine store_v rfl rfl _ _ _ rfl (w.heap.size + 1) rfl (l' := seL S' a' c' b' d') rfl h3.two rfl (seL_one _ _ _ _ _) (by kernel_rfl) ?_
  have h4 := h3.put2 (seL S' a' c' b' d') rfl
  generalize World.setCells (World.setCells V _ _ _) _ _ _ = V2 at h4 ⊢
  clear h2 h3
  refine wpList_nil ?_
  rename_i K hK
  refine hK _ _ ?_
  clear hK K
  have HT := Lib.hid h4
  clear h4
  obtain ⟨S0, e0, kS0, uS0, hS0, hst⟩ := Start_all p q r
  obtain ⟨T0, f0, kT0, uT0, hT0, hac⟩ := Accept_all p r
  have HST := Lib.hid (hst V2 (HV.out.on HT.out.below)); have HAC := Lib.hid hac; have HKU := Lib.hid (And.intro kS0 (And.intro uS0 (And.intro kT0 uT0))); have HS0 := Lib.hid hS0; have HT0 := Lib.hid hT0
  clear hst hac kS0 uS0 kT0 uT0 hS0 hT0
  go_wp2_with fail
  refine HST.out.mono ?_
  rintro e w1 ⟨rfl, hb⟩
  have hT1 := HT.out.on hb
  clear hb HST HT
  rename_i K hK
  refine hK _ _ ?_
  clear hK K
  iterate 4 (refine wpList_step (fun K hK => ?_); go_simp; refine hK _ _ ?_; clear hK K)
  have hA0 : BlkV (w1.alloc (.cells (seL se0 none 0 none 0).toArray 26)) w1.heap.size 26 (seL se0 none 0 none 0) := BlkV.fresh _ _ _ _ rfl _ rfl
  have hbA : Below w1.heap.size w1 (w1.alloc (.cells (seL se0 none 0 none 0).toArray 26)) := (Below.refl _ _).alloc (Nat.le_refl _) _
  obtain ⟨X1, eX⟩ : ∃ X, w1.alloc (.cells (seL se0 none 0 none 0).toArray 26) = X := ⟨_, rfl⟩
  rw [eX] at hA0 hbA
  generalize hG : World.alloc w1 _ = G
  obtain rfl : X1 = G := by rw [← hG, ← eX]; rfl
  clear hG eX
  refine store_v rfl rfl _ _ _ rfl w1.heap.size rfl (l' := seL S0 none 0 none 0) rfl hA0 rfl (seL_one _ _ _ _ _) (by kernel_rfl) ?_
  have hA := hA0.stored (seL S0 none 0 none 0) rfl
  have hbB := below_setCells (Nat.le_refl w1.heap.size) (seL S0 none 0 none 0) 0 _ hbA
  generalize World.setCells X1 _ _ _ = V3 at hA hbB ⊢
  clear hA0 hbA
  iterate 1 (refine wpList_step (fun K hK => ?_); go_simp; refine hK _ _ ?_; clear hK K)
  refine wpList_nil ?_
  rename_i K hK
  refine hK _ _ ?_
  clear hK K
  have hT2 := hT1.on hbB
  have HS := Lib.hid (And.intro hT2 hA)
  clear hT1 hT2 hA hbB
  have HAC2 := Lib.hid (HAC.out V3)
  clear HAC
  go_upto_region 3 with fail
  go_wp2_with fail
  refine HAC2.out.mono ?_
  rintro e w2 ⟨rfl, hb⟩
  have hT1 := HS.out.1.on hb
  have hA1 := HS.out.2.on hb
  clear hb HAC2 HS
  rename_i K hK
  refine hK _ _ ?_
  clear hK K
  iterate 4 (refine wpList_step (fun K hK => ?_); go_simp; refine hK _ _ ?_; clear hK K)
  have hA0 : BlkV (w2.alloc (.cells (seL se0 none 0 none 0).toArray 26)) w2.heap.size 26 (seL se0 none 0 none 0) := BlkV.fresh _ _ _ _ rfl _ rfl
  have hbA : Below w2.heap.size w2 (w2.alloc (.cells (seL se0 none 0 none 0).toArray 26)) := (Below.refl _ _).alloc (Nat.le_refl _) _
  obtain ⟨X2, eX⟩ : ∃ X, w2.alloc (.cells (seL se0 none 0 none 0).toArray 26) = X := ⟨_, rfl⟩
  rw [eX] at hA0 hbA
  generalize hG : World.alloc w2 _ = G
  obtain rfl : X2 = G := by rw [← hG, ← eX]; rfl
  clear hG eX
  refine store_v rfl rfl _ _ _ rfl w2.heap.size rfl (l' := seL T0 none 0 none 0) rfl hA0 rfl (seL_one _ _ _ _ _) (by kernel_rfl) ?_
  have hA := hA0.stored (seL T0 none 0 none 0) rfl
  have hbB := below_setCells (Nat.le_refl w2.heap.size) (seL T0 none 0 none 0) 0 _ hbA
  generalize World.setCells X2 _ _ _ = V4 at hA hbB ⊢
  clear hA0 hbA
  iterate 1 (refine wpList_step (fun K hK => ?_); go_simp; refine hK _ _ ?_; clear hK K)
  refine wpList_nil ?_
  rename_i K hK
  refine hK _ _ ?_
  clear hK K
  have hT2 := hT1.on hbB
  have hA2 := hA1.on hbB
  have HS := Lib.hid (And.intro hT2 (And.intro hA2 hA))
  clear hT1 hT2 hA1 hA2 hA hbB
  go_upto_region 4 with fail
  have hV4 := HV.out.on HS.out.1.below
  have sa4 := HSA.out.1.on HS.out.1.below
  have sa4' := HSA.out.2.on HS.out.1.below
  have hr1 := fun (dd : Nat) (os : Array Obj) => sRight_any S a c b d (by have := HX.out; omega) HX.out.1.2 (by have := HX.out; omega) (grow (redrawn V4 dd) os) (sa4.on (below_regrown V4 dd os))
  have hr2 := fun (dd : Nat) (os : Array Obj) => rRight_any S a c b d (by have := HX.out; omega) HX.out.1.2 (by have := HX.out; omega) (grow (redrawn V4 dd) os) (sa4.on (below_regrown V4 dd os))
  have hl1 := fun (dd : Nat) (os : Array Obj) => sLike_any S S' a c b d a' c' b' d' (by have := HX.out; omega) (by have := HX.out; omega) (grow (redrawn V4 dd) os) (sa4.on (below_regrown V4 dd os)) (sa4'.on (below_regrown V4 dd os))
  have hl2 := fun (dd : Nat) (os : Array Obj) => rSame_any S S' a c b d a' c' b' d' (by have := HX.out; omega) (by have := HX.out; omega) (grow (redrawn V4 dd) os) (sa4.on (below_regrown V4 dd os)) (sa4'.on (below_regrown V4 dd os))
  have hl3 := fun (dd : Nat) (os : Array Obj) => sLike_any S S a c b d a c b d (by have := HX.out; omega) (by have := HX.out; omega) (grow (redrawn V4 dd) os) (sa4.on (below_regrown V4 dd os)) (sa4.on (below_regrown V4 dd os))
  have hal := fun (dd : Nat) (os : Array Obj) => aliveY_any (grow (redrawn V4 dd) os) (hV4.on (below_regrown V4 dd os))
  have es : seV S a c b d = .agg (seL S a c b d).toArray := rfl
  have es' : seV S' a' c' b' d' = .agg (seL S' a' c' b' d').toArray := rfl
  rw [es] at hr1 hr2 hl1 hl2 hl3
  rw [es'] at hl1 hl2
  rw [decide_eq_true rfl] at hl3
  generalize decide (rightS S) = kr at hr1 hr2
  generalize decide (S = S') = kl at hl1 hl2
  have HR1 := Lib.hid hr1; have HR2 := Lib.hid hr2; have HL1 := Lib.hid hl1; have HL2 := Lib.hid hl2; have HL3 := Lib.hid hl3; have HAL := Lib.hid hal
  have HO := Lib.hid (fun (w' : World) (h : ∃ p : Regrown, w' = grow (redrawn V4 p.d) p.os) => (show BlkV w' w.heap.size 26 (seL S a c b d) by obtain ⟨⟨dd, os⟩, rfl⟩ := h; exact HS.out.1.one.on (below_regrown V4 dd os)))
  have HO' := Lib.hid (fun (w' : World) (h : ∃ p : Regrown, w' = grow (redrawn V4 p.d) p.os) => (show BlkV w' (w.heap.size + 1) 26 (seL S' a' c' b' d') by obtain ⟨⟨dd, os⟩, rfl⟩ := h; exact HS.out.1.two.on (below_regrown V4 dd os)))
  clear hr1 hr2 hl1 hl2 hl3 hal es es' hV4 sa4 sa4' HSA
  refine wp_region_quiet_below (by kernel_rfl) (by kernel_rfl) ?_
  refine load_qY (by rfl) _ _ rfl w.heap.size rfl (l := seL S a c b d) HO.out Tryz.underlying26 rfl (by kernel_rfl) ?_
  try simp only [Act.put, List.setIfInBounds_toArray, List.set_cons_zero, List.set_cons_succ]
  iterate 1 (go_big_quiet_step (first | (go_at_call 10; with_reducible exact Calls.regrown_of (HR1.out _ _))))
  refine load_qY (by rfl) _ _ rfl w.heap.size rfl (l := seL S a c b d) HO.out Tryz.underlying26 rfl (by kernel_rfl) ?_
  try simp only [Act.put, List.setIfInBounds_toArray, List.set_cons_zero, List.set_cons_succ]
  iterate 1 (go_big_quiet_step (first | (go_at_call 11; with_reducible exact Calls.regrown_of (HR2.out _ _))))
  cases kr <;> cases kl
  all_goals
    iterate 2 (go_big_quiet_step (fail))
    refine load_qY (by rfl) _ _ rfl w.heap.size rfl (l := seL S a c b d) HO.out Tryz.underlying26 rfl (by kernel_rfl) ?_
    try simp only [Act.put, List.setIfInBounds_toArray, List.set_cons_zero, List.set_cons_succ]
    refine load_qY (by rfl) _ _ rfl (w.heap.size + 1) rfl (l := seL S' a' c' b' d') HO'.out Tryz.underlying26 rfl (by kernel_rfl) ?_
    try simp only [Act.put, List.setIfInBounds_toArray, List.set_cons_zero, List.set_cons_succ]
    iterate 1 (go_big_quiet_step (first | (go_at_call 12; with_reducible exact Calls.regrown_of (HL1.out _ _))))
    refine load_qY (by rfl) _ _ rfl w.heap.size rfl (l := seL S a c b d) HO.out Tryz.underlying26 rfl (by kernel_rfl) ?_
    try simp only [Act.put, List.setIfInBounds_toArray, List.set_cons_zero, List.set_cons_succ]
    refine load_qY (by rfl) _ _ rfl (w.heap.size + 1) rfl (l := seL S' a' c' b' d') HO'.out Tryz.underlying26 rfl (by kernel_rfl) ?_
    try simp only [Act.put, List.setIfInBounds_toArray, List.set_cons_zero, List.set_cons_succ]
    iterate 1 (go_big_quiet_step (first | (go_at_call 13; with_reducible exact Calls.regrown_of (HL2.out _ _))))
    iterate 3 (go_big_quiet_step (fail))
    refine load_qY (by rfl) _ _ rfl w.heap.size rfl (l := seL S a c b d) HO.out Tryz.underlying26 rfl (by kernel_rfl) ?_
    try simp only [Act.put, List.setIfInBounds_toArray, List.set_cons_zero, List.set_cons_succ]
    refine load_qY (by rfl) _ _ rfl w.heap.size rfl (l := seL S a c b d) HO.out Tryz.underlying26 rfl (by kernel_rfl) ?_
    try simp only [Act.put, List.setIfInBounds_toArray, List.set_cons_zero, List.set_cons_succ]
    iterate 1 (go_big_quiet_step (first | (go_at_call 12; with_reducible exact Calls.regrown_of (HL3.out _ _))))
    iterate 3 (go_big_quiet_step (fail))
    iterate 1 (go_big_quiet_step (first | (go_at_call 14; with_reducible exact Calls.regrown_of (HAL.out _ _))))
    iterate 2 (go_big_quiet_step (fail))
    refine wpQuiet_nil ?_
    intro _ hw'
    obtain ⟨⟨dq, osq⟩, hw''⟩ := hw'
    subst hw''
    have hS5 := And.intro (HS.out.1.below.trans ((below_regrown V4 dq osq).mono HS.out.1.below.size)) (And.intro (HS.out.2.1.on (below_regrown V4 dq osq)) (HS.out.2.2.on (below_regrown V4 dq osq)))
    have HS5 := Lib.hid hS5
    clear hS5 HR1 HR2 HL1 HL2 HL3 HAL HO HO' HS
    generalize grow (redrawn V4 dq) osq = V5 at HS5 ⊢
    rename_i K hK
    refine hK _ _ ?_
    clear hK K
  all_goals
    go_upto_region 6 with fail
    have hsame : ∀ (T : Se), T.kept = [] → T.used = [] → ∀ V, Calls Tryz.prog 13 #[.agg (seL T none 0 none 0).toArray, .agg (seL T none 0 none 0).toArray] V fun e w' => e = .returned (.bool true) ∧ Below V.heap.size V w' := fun T k1 k2 V => by
      have h := rSame_any T T none 0 none 0 none 0 none 0 (by rw [k1]; exact Nat.zero_le _) (by rw [k2]; exact Nat.zero_le _) V (seNone V T k1 k2) (seNone V T k1 k2)
      rw [decide_eq_true rfl] at h
      exact h
    have np : ((p.size : Int) == 32) = decide (p.size = 32) := nat_eqY p.size 32
    have nq : ((q.size : Int) == 32) = decide (q.size = 32) := nat_eqY q.size 32
    have nr : ((r.size : Int) == 32) = decide (r.size = 32) := nat_eqY r.size 32
    have HNP := Lib.hid (And.intro np (And.intro nq nr))
    clear np nq nr
    rcases HT0.out with ⟨⟨hp, hr⟩, rfl, rfl⟩ | ⟨hn, rfl, rfl⟩
    · have np := HNP.out.1; have nr := HNP.out.2.2
      rw [decide_eq_true hp] at np; rw [decide_eq_true hr] at nr
      go_upto_region 7 with fail
      refine wp_region_lit ?_
      iterate 5 (refine wpList_step (fun K hK => ?_); go_simp; refine hK _ _ ?_; clear hK K)
      refine load_gY (by rfl) _ _ rfl w2.heap.size rfl HS5.out.2.2 Tryz.underlying26 rfl (by kernel_rfl) ?_
      iterate 3 (refine wpList_step (fun K hK => ?_); go_simp; refine hK _ _ ?_; clear hK K)
      go_wp2_with fail
      refine (hsame (acceptS p r) rfl rfl _).mono ?_
      rintro e w6 ⟨rfl, hb⟩
      have HS6 := Lib.hid (And.intro (HS5.out.1.trans (hb.mono HS5.out.1.size)) (And.intro (HS5.out.2.1.on hb) (HS5.out.2.2.on hb)))
      clear hb HS5
      rcases HS0.out with ⟨⟨-, hq, -⟩, rfl, rfl⟩ | ⟨hn, rfl, rfl⟩
      · have nq := HNP.out.2.1
        rw [decide_eq_true hq] at nq
        have mp : ((p.size : Int) != 32) = false := by rw [hp]; rfl
        have mq : ((q.size : Int) != 32) = false := by rw [hq]; rfl
        have mr : ((r.size : Int) != 32) = false := by rw [hr]; rfl
        go_upto_region 11 with fail
        refine wp_region_held (S := fun w' => BlkV w' w1.heap.size 26 (seL (startS p q r) none 0 none 0) ∧ Below w.heap.size w w') (by kernel_rfl) ?_
        have hS0 : BlkV w6.drew w1.heap.size 26 (seL (startS p q r) none 0 none 0) ∧ Below w.heap.size w w6.drew := ⟨HS6.out.2.1.on (Below.refl _ _).drew, HS6.out.1.drew⟩
        change wpAnyH _ _ _ _ _ _ _ _ w6.drew
        refine wpAnyH_take (i := 0) (v := .int .i64 0) rfl (by kernel_rfl) (by kernel_rfl) (by kernel_rfl) (fun _ _ _ h => h) (Or.inl ⟨rfl, fun _ _ => by first | (go_simp; done) | kernel_rfl⟩) hS0 ?_
        try simp only [Act.put, List.getElem_toArray, List.getElem_cons_zero, List.setIfInBounds_toArray, List.set_cons_zero, List.set_cons_succ]
        refine wpAnyH_take (i := 1) (v := .bool true) rfl (by kernel_rfl) (by kernel_rfl) (by kernel_rfl) (fun _ _ _ h => h) (Or.inl ⟨rfl, fun _ _ => by first | (go_simp; done) | kernel_rfl⟩) hS0 ?_
        try simp only [Act.put, List.getElem_toArray, List.getElem_cons_zero, List.getElem_cons_succ, List.setIfInBounds_toArray, List.set_cons_zero, List.set_cons_succ]
        refine wpAnyH_take (i := 2) (v := .bool true) rfl (by kernel_rfl) (by kernel_rfl) (by kernel_rfl) (fun _ _ _ h => h) (Or.inl ⟨rfl, fun _ _ => by first | (go_simp; done) | kernel_rfl⟩) hS0 ?_
        try simp only [Act.put, List.getElem_toArray, List.getElem_cons_zero, List.getElem_cons_succ, List.setIfInBounds_toArray, List.set_cons_zero, List.set_cons_succ]
        refine wpAnyH_take (i := 3) (v := .agg (seL (startS p q r) none 0 none 0).toArray) rfl (by kernel_rfl) (by kernel_rfl) (by kernel_rfl) (fun _ _ _ h => h) (yields_row (by rfl) _ _ rfl w1.heap.size rfl (fun _ h => h.1) Tryz.underlying26 rfl (by kernel_rfl)) hS0 ?_
        try simp only [Act.put, List.getElem_toArray, List.getElem_cons_zero, List.getElem_cons_succ, List.setIfInBounds_toArray, List.set_cons_zero, List.set_cons_succ]
        refine wpAnyH_take (i := 5) (v := .string p) rfl (by kernel_rfl) (by kernel_rfl) (by kernel_rfl) (fun _ _ _ h => h) (Or.inl ⟨rfl, fun _ _ => by first | (go_simp; done) | kernel_rfl⟩) hS0 ?_
        try simp only [Act.put, List.getElem_toArray, List.getElem_cons_zero, List.getElem_cons_succ, List.setIfInBounds_toArray, List.set_cons_zero, List.set_cons_succ]
        refine wpAnyH_take (i := 6) (v := .string q) rfl (by kernel_rfl) (by kernel_rfl) (by kernel_rfl) (fun _ _ _ h => h) (Or.inl ⟨rfl, fun _ _ => by first | (go_simp; done) | kernel_rfl⟩) hS0 ?_
        try simp only [Act.put, List.getElem_toArray, List.getElem_cons_zero, List.getElem_cons_succ, List.setIfInBounds_toArray, List.set_cons_zero, List.set_cons_succ]
        refine wpAnyH_take (i := 7) (v := .string r) rfl (by kernel_rfl) (by kernel_rfl) (by kernel_rfl) (fun _ _ _ h => h) (Or.inl ⟨rfl, fun _ _ => by first | (go_simp; done) | kernel_rfl⟩) hS0 ?_
        try simp only [Act.put, List.getElem_toArray, List.getElem_cons_zero, List.getElem_cons_succ, List.setIfInBounds_toArray, List.set_cons_zero, List.set_cons_succ]
        refine wpAnyH_all (rs := [4]) (by kernel_rfl) (by decide) (List.forall_mem_cons.2 ⟨?_, List.forall_mem_nil _⟩)
        refine callx_any (f := 16) (args := #[]) (by rfl) (by rfl) (by kernel_rfl) (numbers_all _) ?_
        rintro kv w7 ⟨hka, hb⟩
        have hS1 := And.intro (hS0.1.on hb) (hS0.2.trans (hb.mono hS0.2.size))
        refine ⟨hS1, ?_⟩
        try simp only [Act.put, List.getElem_toArray, List.getElem_cons_zero, List.getElem_cons_succ, List.setIfInBounds_toArray, List.set_cons_zero, List.set_cons_succ]
        refine wpAnyH_all (rs := [8]) (by kernel_rfl) (by decide) (List.forall_mem_cons.2 ⟨?_, List.forall_mem_nil _⟩)
        refine callv_any (f := 15) (args := #[kv, .string p, .string q, .string r]) (by rfl) (by rfl) (by kernel_rfl) (v := .agg (seL (startS p q r) none 0 none 0).toArray) (rStart_any kv p q r hp hq hr w7 hka) ?_
        intro w8 hb2
        have hS2 := And.intro (hS1.1.on hb2) (hS1.2.trans (hb2.mono hS1.2.size))
        refine ⟨hS2, ?_⟩
        try simp only [Act.put, List.getElem_toArray, List.getElem_cons_zero, List.getElem_cons_succ, List.setIfInBounds_toArray, List.set_cons_zero, List.set_cons_succ]
        refine wpAnyH_all (rs := [9]) (by kernel_rfl) (by decide) (List.forall_mem_cons.2 ⟨?_, List.forall_mem_nil _⟩)
        refine callv_any (f := 13) (args := #[.agg (seL (startS p q r) none 0 none 0).toArray, .agg (seL (startS p q r) none 0 none 0).toArray]) (by rfl) (by rfl) (by kernel_rfl) (v := .bool true) (hsame (startS p q r) rfl rfl w8) ?_
        intro w9 hb3
        have hS3 := And.intro (hS2.1.on hb3) (hS2.2.trans (hb3.mono hS2.2.size))
        refine ⟨hS3, ?_⟩
        try simp only [Act.put, List.getElem_toArray, List.getElem_cons_zero, List.getElem_cons_succ, List.setIfInBounds_toArray, List.set_cons_zero, List.set_cons_succ]
        refine wpAnyH_all (rs := [10]) (by kernel_rfl) (by decide) (List.forall_mem_cons.2 ⟨?_, List.forall_mem_nil _⟩)
        refine val_any (by rfl) (by rfl) (v := .bool true) (w' := w9) (by kernel_rfl) ?_
        refine ⟨hS3, ?_⟩
        try simp only [Act.put, List.getElem_toArray, List.getElem_cons_zero, List.getElem_cons_succ, List.setIfInBounds_toArray, List.set_cons_zero, List.set_cons_succ]
        refine wpAnyH_all (rs := [11]) (by kernel_rfl) (by decide) (List.forall_mem_cons.2 ⟨?_, List.forall_mem_nil _⟩)
        refine val_any (by rfl) (by rfl) (v := .bool true) (w' := w9) (by kernel_rfl) ?_
        refine ⟨hS3, ?_⟩
        refine wpAnyH_done (by kernel_rfl) ?_ _
        have HB9 := Lib.hid hS3.2
        clear hS0 hS1 hS2 hS3 hb hb2 hb3 hka HS6
        try simp only [Act.put, List.getElem_toArray, List.getElem_cons_zero, List.getElem_cons_succ, List.setIfInBounds_toArray, List.set_cons_zero, List.set_cons_succ]
        go_wp2_with fail
        go_ret
        exact ⟨rfl, HB9.out⟩
      · have hq : ¬ q.size = 32 := fun h => hn ⟨hp, h, hr⟩
        have nq := HNP.out.2.1
        rw [decide_eq_false hq] at nq
        have mp : ((p.size : Int) != 32) = false := by rw [hp]; rfl
        have mq : ((q.size : Int) != 32) = true := by rw [bne, nq]; rfl
        clear hn hq
        go_upto_region 10 with fail
        refine wp_region_lit ?_
        iterate 3 (refine wpList_step (fun K hK => ?_); go_simp; refine hK _ _ ?_; clear hK K)
        refine load_gY (by rfl) _ _ rfl w1.heap.size rfl HS6.out.2.1 Tryz.underlying26 rfl (by kernel_rfl) ?_
        iterate 1 (refine wpList_step (fun K hK => ?_); go_simp; refine hK _ _ ?_; clear hK K)
        go_wp2_with fail
        refine (hsame se0 rfl rfl _).mono ?_
        rintro e w7 ⟨rfl, hb⟩
        have HB7 := Lib.hid (HS6.out.1.trans (hb.mono HS6.out.1.size))
        clear hb HS6 HV
        go_wp2_with fail
        go_ret
        exact ⟨rfl, HB7.out⟩
    · have hS0 : S0 = se0 ∧ e0 = 2 := by
        rcases HS0.out with ⟨⟨h1, -, h3⟩, -, -⟩ | ⟨-, h1, h2⟩
        · exact absurd ⟨h1, h3⟩ hn
        · exact ⟨h1, h2⟩
      obtain ⟨rfl, rfl⟩ := hS0
      by_cases hp : p.size = 32
      · have hr : ¬ r.size = 32 := fun h => hn ⟨hp, h⟩
        have np := HNP.out.1; have nr := HNP.out.2.2
        rw [decide_eq_true hp] at np; rw [decide_eq_false hr] at nr
        have mp : ((p.size : Int) != 32) = false := by rw [bne, np]; rfl
        have mr : ((r.size : Int) != 32) = true := by rw [bne, nr]; rfl
        clear hn hr hp
        have c0 := HS5.out.2.2.cell 0 _ rfl
        have c1 := HS5.out.2.2.cell 1 _ rfl
        have c2 := HS5.out.2.2.cell 2 _ rfl
        have c3 := HS5.out.2.2.cell 3 _ rfl
        have c4 := HS5.out.2.2.cell 4 _ rfl
        have c5 := HS5.out.2.2.cell 5 _ rfl
        have c6 := HS5.out.2.2.cell 6 _ rfl
        have c7 := HS5.out.2.2.cell 7 _ rfl
        have c8 := HS5.out.2.2.cell 8 _ rfl
        have c9 := HS5.out.2.2.cell 9 _ rfl
        go_wp2_with fail
        refine (hsame se0 rfl rfl _).mono ?_
        rintro e w6 ⟨rfl, hb⟩
        clear c0 c1 c2 c3 c4 c5 c6 c7 c8 c9
        have HS6 := Lib.hid (And.intro (HS5.out.1.trans (hb.mono HS5.out.1.size)) (And.intro (HS5.out.2.1.on hb) (HS5.out.2.2.on hb)))
        clear hb HS5
        by_cases hq : q.size = 32
        · have nq := HNP.out.2.1
          rw [decide_eq_true hq] at nq
          have mq : ((q.size : Int) != 32) = false := by rw [bne, nq]; rfl
          clear hq
          go_upto_region 10 with fail
          refine wp_region_lit ?_
          iterate 3 (refine wpList_step (fun K hK => ?_); go_simp; refine hK _ _ ?_; clear hK K)
          refine load_gY (by rfl) _ _ rfl w1.heap.size rfl HS6.out.2.1 Tryz.underlying26 rfl (by kernel_rfl) ?_
          iterate 1 (refine wpList_step (fun K hK => ?_); go_simp; refine hK _ _ ?_; clear hK K)
          go_wp2_with fail
          refine (hsame se0 rfl rfl _).mono ?_
          rintro e w7 ⟨rfl, hb⟩
          have HB7 := Lib.hid (HS6.out.1.trans (hb.mono HS6.out.1.size))
          clear hb HS6 HV
          go_wp2_with fail
          go_ret
          exact ⟨rfl, HB7.out⟩
        · have nq := HNP.out.2.1
          rw [decide_eq_false hq] at nq
          have mq : ((q.size : Int) != 32) = true := by rw [bne, nq]; rfl
          clear hq
          go_upto_region 10 with fail
          refine wp_region_lit ?_
          iterate 3 (refine wpList_step (fun K hK => ?_); go_simp; refine hK _ _ ?_; clear hK K)
          refine load_gY (by rfl) _ _ rfl w1.heap.size rfl HS6.out.2.1 Tryz.underlying26 rfl (by kernel_rfl) ?_
          iterate 1 (refine wpList_step (fun K hK => ?_); go_simp; refine hK _ _ ?_; clear hK K)
          go_wp2_with fail
          refine (hsame se0 rfl rfl _).mono ?_
          rintro e w7 ⟨rfl, hb⟩
          have HB7 := Lib.hid (HS6.out.1.trans (hb.mono HS6.out.1.size))
          clear hb HS6 HV
          go_wp2_with fail
          go_ret
          exact ⟨rfl, HB7.out⟩
      · have np := HNP.out.1
        rw [decide_eq_false hp] at np
        have mp : ((p.size : Int) != 32) = true := by rw [bne, np]; rfl
        clear hn hp
        have c0 := HS5.out.2.2.cell 0 _ rfl
        have c1 := HS5.out.2.2.cell 1 _ rfl
        have c2 := HS5.out.2.2.cell 2 _ rfl
        have c3 := HS5.out.2.2.cell 3 _ rfl
        have c4 := HS5.out.2.2.cell 4 _ rfl
        have c5 := HS5.out.2.2.cell 5 _ rfl
        have c6 := HS5.out.2.2.cell 6 _ rfl
        have c7 := HS5.out.2.2.cell 7 _ rfl
        have c8 := HS5.out.2.2.cell 8 _ rfl
        have c9 := HS5.out.2.2.cell 9 _ rfl
        go_wp2_with fail
        refine (hsame se0 rfl rfl _).mono ?_
        rintro e w6 ⟨rfl, hb⟩
        clear c0 c1 c2 c3 c4 c5 c6 c7 c8 c9
        have HS6 := Lib.hid (And.intro (HS5.out.1.trans (hb.mono HS5.out.1.size)) (And.intro (HS5.out.2.1.on hb) (HS5.out.2.2.on hb)))
        clear hb HS5
        go_upto_region 10 with fail
        refine wp_region_lit ?_
        iterate 3 (refine wpList_step (fun K hK => ?_); go_simp; refine hK _ _ ?_; clear hK K)
        refine load_gY (by rfl) _ _ rfl w1.heap.size rfl HS6.out.2.1 Tryz.underlying26 rfl (by kernel_rfl) ?_
        iterate 1 (refine wpList_step (fun K hK => ?_); go_simp; refine hK _ _ ?_; clear hK K)
        go_wp2_with fail
        refine (hsame se0 rfl rfl _).mono ?_
        rintro e w7 ⟨rfl, hb⟩
        have HB7 := Lib.hid (HS6.out.1.trans (hb.mono HS6.out.1.size))
        clear hb HS6 HV
        go_wp2_with fail
        go_ret
        exact ⟨rfl, HB7.out⟩
end Go.Proofs.YthjlhcmdpeinpaaGreatDoor