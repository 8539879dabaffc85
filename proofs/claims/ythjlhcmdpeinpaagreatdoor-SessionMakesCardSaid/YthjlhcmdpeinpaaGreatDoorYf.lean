/- The package session's turned, step, Start, Accept. -/
import Derived.Test.YthjlhcmdpeinpaaGreatDoorBRg1
import Derived.Test.YthjlhcmdpeinpaaGreatDoorBg18
import Derived.Lib.QuietBelow
import Derived.BigQuiet
import Derived.Laws.ResultCell
namespace Go.Proofs.YthjlhcmdpeinpaaGreatDoor
open Go.RowKit Go.Sort
set_option maxRecDepth 100000
/-- the package variables that a session's calls read -/
structure Vr (w : World) : Prop where
  prime : PrimeAt w
  first : FirstAt w
  keys : KeysAt w
  fmt : FmtAt w
theorem Vr.on {w w' : World} (h : Vr w) (hb : Below w.heap.size w w') : Vr w' := ⟨h.prime.below hb h.prime.lt, h.first.on hb, h.keys.on hb, h.fmt.on hb⟩
theorem BlkV.low {w w' : World} {B n : Nat} {t : TypeId} {l : List Value} (h : BlkV w B t l) (hb : Below n w w') (hn : B < n) : BlkV w' B t l := by
  unfold BlkV
  rw [hb.block B hn]; exact h
/-- a row's cells and a number are what is told -/
theorem results_vt {P : Program} {fn : Func} {p u : Tmp} {T : TypeId} (h : fn.results = #[.cell p T, .tmp u]) (tmps : Array Value) (w : World) (B : Nat) {t : TypeId} {l : List Value} {d : TypeDesc}
    (hp : tmps.getD p undef = .pointer (some ⟨B, 0, none⟩)) (hb : BlkV w B t l) (hu : P.underlying T = some d) (hd : d.isRow = true) (hi : (P.info? T).map (·.size) = some l.length) :
    (results fn tmps).run P w = .ok (.tuple #[.agg l.toArray, tmps.getD u undef]) w := by
  rw [results_cell_tmp h, hp]
  show ((loadVar T ⟨B, 0, none⟩).run P w).andThen _ = _
  rw [run_loadVar_mid w B 0 T l d hb.range hu hd hi]
  rfl
theorem rootA_size (r s : ByteArray) : (rootA r s).size = 32 := by unfold rootA; exact spA_sizeY _ _
set_option maxHeartbeats 2000000 in
theorem turned_y (ow pe ro : ByteArray) (ho : ow.size = 32) (hp : pe.size = 32) (hr : ro.size = 32) (w0 : World) (hV : Vr w0) (B : Nat) (_hB : w0.heap.size ≤ B) (t : TypeId) (l : List Value) (l0 : l[0]? = some (.string ow)) (l1 : l[1]? = some (.string pe)) (l2 : l[2]? = some (.string ro)) (w : World) (hb0 : Below w0.heap.size w0 w) (hw : BlkV w B t l) :
    Calls Tryz.prog 25 #[.pointer (some ⟨B, 0, none⟩)] w fun e w' => e = .returned (.string (rootB ro (ptY ow pe))) ∧ Below B w w' ∧ BlkV w' B t (l.set 2 (.string (rootA ro (ptY ow pe)))) := by
  have d0 := hw.cell 0 _ l0
  have d1 := hw.cell 1 _ l1
  have hm := fun (d : Nat) (os : Array Obj) => mult_good ow pe ho hp (grow (redrawn w d) os) (hV.on (hb0.trans ((below_regrown w d os).mono hb0.size))).prime
  have hs := fun (d : Nat) (os : Array Obj) => (sure_ok (ptY ow pe) (grow (redrawn w d) os)).mono (R' := fun e w' => e = .returned (.string (ptY ow pe)) ∧ Below (grow (redrawn w d) os).heap.size (grow (redrawn w d) os) w') fun _ _ ⟨e, e2⟩ => ⟨e, by subst e2; exact Below.refl _ _⟩
  have hsz := ptY_size ow pe
  have hrt := fun W (hW : Below w.heap.size w W) => Root_good ro (ptY ow pe) hr hsz W (hV.on (hb0.trans (hW.mono hb0.size))).first (hV.on (hb0.trans (hW.mono hb0.size))).keys
  unfold StrOk at hm
  change ∀ (d : Nat) (os : Array Obj), Calls _ _ _ _ (fun e w' => e = .returned (.tuple #[.string (ptY ow pe), .int .i64 0]) ∧ _) at hm
  generalize ptY ow pe = S at *
  have q0 := cell_regrown d0; have q1 := cell_regrown d1
  have HW0 := Lib.hid hw.lt
  have HM := Lib.hid hm; have HS := Lib.hid hs; have HR := Lib.hid hrt; have HW := Lib.hid hw; have HL2 := Lib.hid l2
  clear hm hs hrt hw l2 l0 l1 hsz ho hp hr hb0 hV _hB
  go_enter Tryz.func25, Tryz.ntmps25
  go_upto_region 1 with fail
  clear d0 d1
  refine wp_region_quiet_below (by kernel_rfl) (by kernel_rfl) ?_
  iterate 15 (quiet_step (first | (go_at_call 51; with_reducible exact Calls.regrown_of (HM.out _ _)) | (go_at_call 50; with_reducible exact Calls.regrown_of (HS.out _ _))))
  refine wpQuiet_nil ?_
  intro _ hw'
  obtain ⟨⟨dq, osq⟩, hw''⟩ := hw'
  subst hw''
  have hb := below_regrown w dq osq
  have hw1 := HW.out.on hb
  have d2 := hw1.cell 2 _ HL2.out
  have HB := Lib.hid hb; have HW1 := Lib.hid hw1; have HR1 := Lib.hid (HR.out _ hb)
  clear q0 q1 HM HS HR hb hw1 HW
  generalize grow (redrawn w dq) osq = V at HB HW1 HR1 d2 ⊢
  rename_i K hK
  refine hK _ _ ?_
  clear hK K
  go_wp2_with fail
  refine HR1.out.mono ?_
  rintro e w1 ⟨rfl, hb⟩
  have HP := Lib.hid (surePair_ok (rootA ro S) (rootB ro S) w1)
  have hw2 := HW1.out.on hb
  have d3 := hw2.cell 2 _ HL2.out
  have z3 := hw2.frozen 2
  have hset := hw2.set 2 (.string (rootA ro S))
  have hbb := ((HB.out.trans (hb.mono HB.out.size)).mono (Nat.le_of_lt HW0.out)).setCell (p := ⟨B, 2, none⟩) (Nat.le_refl _) (.string (rootA ro S))
  have HF := Lib.hid (And.intro hbb hset)
  clear hb hw2 hset hbb HB HR1 d2 HW1 HL2 HW0
  go_wp2_with fail
  refine HP.out.mono ?_
  rintro e w2 ⟨rfl, rfl⟩
  clear HP
  go_wp2_with fail
  go_ret
  exact ⟨rfl, HF.out⟩
/-- a chain's step in a cell of a block -/
theorem step_y (c : ByteArray) (hc : c.size = 32) (w0 : World) (hV : Vr w0) (B i : Nat) (t : TypeId) (l : List Value) (l0 : l[i]? = some (.string c)) (w : World) (hb0 : Below w0.heap.size w0 w) (hw : BlkV w B t l) :
    Calls Tryz.prog 70 #[.pointer (some ⟨B, i, none⟩)] w fun e w' => e = .returned (.string (spB c stWord)) ∧ ∃ w1, Below w.heap.size w w1 ∧ w' = w1.setCell ⟨B, i, none⟩ (.string (spA c stWord)) := by
  have d0 := hw.cell i _ l0
  have hs := Step_good c hc w (hV.on hb0).first (hV.on hb0).keys
  have HS := Lib.hid hs; have HW := Lib.hid hw; have HL := Lib.hid l0
  clear hs hw l0 hc hV hb0
  go_enter Tryz.func70, Tryz.ntmps70
  go_wp2_with fail
  refine HS.out.mono ?_
  rintro e w1 ⟨rfl, hb⟩
  have HP := Lib.hid (surePair_ok (spA c stWord) (spB c stWord) w1)
  have hw2 := HW.out.on hb
  have d3 := hw2.cell i _ HL.out
  have z3 := hw2.frozen i
  have HF := Lib.hid hb
  clear hb hw2 HS HL HW d0
  go_wp2_with fail
  refine HP.out.mono ?_
  rintro e w2 ⟨rfl, rfl⟩
  clear HP
  go_wp2_with fail
  go_ret
  exact ⟨rfl, _, HF.out, rfl⟩
set_option maxHeartbeats 2000000 in
theorem Start_bad (s p f : ByteArray) (hn : ¬ (s.size = 32 ∧ p.size = 32 ∧ f.size = 32)) (w : World) :
    Calls Tryz.prog 8 #[.string s, .string p, .string f] w fun e w' => e = .returned (.tuple #[seV se0 none 0 none 0, .int .i64 2]) ∧ Below w.heap.size w w' := by
  have hS : BlkV (w.alloc (.cells (seL se0 none 0 none 0).toArray 26)) w.heap.size 26 (seL se0 none 0 none 0) := BlkV.fresh _ _ _ _ rfl _ rfl
  have hB : Below w.heap.size w (w.alloc (.cells (seL se0 none 0 none 0).toArray 26)) := (Below.refl _ _).alloc (Nat.le_refl _) _
  have h0 := isKeyY_any s; have h1 := isKeyY_any p; have h2 := isKeyY_any f
  obtain ⟨k0, e0⟩ : ∃ k, decide (s.size = 32) = k := ⟨_, rfl⟩
  obtain ⟨k1, e1⟩ : ∃ k, decide (p.size = 32) = k := ⟨_, rfl⟩
  obtain ⟨k2, e2⟩ : ∃ k, decide (f.size = 32) = k := ⟨_, rfl⟩
  have hk : ¬ (k0 = true ∧ k1 = true ∧ k2 = true) := by
    subst e0 e1 e2; simpa only [decide_eq_true_eq] using hn
  rw [e0] at h0; rw [e1] at h1; rw [e2] at h2
  have HS := Lib.hid hS; have HB := Lib.hid hB; have H0 := Lib.hid h0; have H1 := Lib.hid h1; have H2 := Lib.hid h2; have HK := Lib.hid hk
  clear hS hB h0 h1 h2 hk e0 e1 e2 hn
  go_enter Tryz.func8, Tryz.ntmps8
  go_upto_region 1 with fail
  go_wp2_with (first | (go_at_call_of 24 (Value.string s); refine (H0.out _).mono ?_; rintro e w1 ⟨rfl, rfl⟩) | (go_at_call_of 24 (Value.string p); refine (H1.out _).mono ?_; rintro e w1 ⟨rfl, rfl⟩) | (go_at_call_of 24 (Value.string f); refine (H2.out _).mono ?_; rintro e w1 ⟨rfl, rfl⟩))
  all_goals first
    | exact bodyPost_ret (results_vt (p := 6) (u := 7) (T := 26) (by kernel_rfl) _ _ w.heap.size rfl HS.out Tryz.underlying26 rfl (by kernel_rfl)) rfl ⟨rfl, HB.out⟩
    | (exfalso; have hk := HK.out; clear HK HS HB H0 H1 H2; simp_all)
set_option maxHeartbeats 2000000 in
theorem Start_good (s p f : ByteArray) (hs : s.size = 32) (hp : p.size = 32) (hf : f.size = 32) (w : World) (hV : Vr w) :
    Calls Tryz.prog 8 #[.string s, .string p, .string f] w fun e w' => e = .returned (.tuple #[seV (startS s p f) none 0 none 0, .int .i64 0]) ∧ Below w.heap.size w w' := by
  obtain ⟨V0, eV0⟩ : ∃ V0, w.alloc (.cells (seL se0 none 0 none 0).toArray 26) = V0 := ⟨_, rfl⟩
  obtain ⟨V1, eV1⟩ : ∃ V1, V0.alloc (.cells (seL (beginS s p f) none 0 none 0).toArray 70) = V1 := ⟨_, rfl⟩
  have hS : BlkV V1 w.heap.size 26 (seL se0 none 0 none 0) := by rw [← eV1, ← eV0]; exact (BlkV.fresh _ _ _ _ rfl _ rfl).alloc _
  have hT : BlkV V1 (w.heap.size + 1) 70 (seL (beginS s p f) none 0 none 0) := by rw [← eV1, ← eV0]; exact BlkV.fresh _ _ _ _ rfl _ (by simp)
  have hB0 : Below w.heap.size w V0 := by rw [← eV0]; exact (Below.refl _ _).alloc (Nat.le_refl _) _
  have hB : Below w.heap.size w V1 := by rw [← eV1]; exact hB0.alloc hB0.size _
  have ht := turned_y f p s hf hp hs w hV (w.heap.size + 1) (by omega) 70 (seL (beginS s p f) none 0 none 0) rfl rfl rfl V1 hB hT
  have h0 := isKeyY_any s; have h1 := isKeyY_any p; have h2 := isKeyY_any f
  rw [decide_eq_true hs] at h0; rw [decide_eq_true hp] at h1; rw [decide_eq_true hf] at h2
  have HS := Lib.hid hS; have HB := Lib.hid hB; have H0 := Lib.hid h0; have H1 := Lib.hid h1; have H2 := Lib.hid h2; have HT := Lib.hid ht
  clear hS hB h0 h1 h2 hs hp hf hT hB0 ht hV
  go_enter Tryz.func8, Tryz.ntmps8
  go_upto_region 4 with (first | (go_at_call_of 24 (Value.string s); refine (H0.out _).mono ?_; rintro e w1 ⟨rfl, rfl⟩) | (go_at_call_of 24 (Value.string p); refine (H1.out _).mono ?_; rintro e w1 ⟨rfl, rfl⟩) | (go_at_call_of 24 (Value.string f); refine (H2.out _).mono ?_; rintro e w1 ⟨rfl, rfl⟩))
  generalize hG : World.alloc (World.alloc w _) _ = G
  obtain rfl : V1 = G := by rw [← hG, ← eV1, ← eV0]; rfl
  clear hG eV0 eV1 H0 H1 H2
  go_wp2_with fail
  refine HT.out.mono ?_
  rintro e w1 ⟨rfl, hb, hw⟩
  have hS1 := HS.out.low hb (by omega)
  have d3 := hw.cell 3 _ rfl
  have z3 := hw.frozen 3
  have hw2 := hw.set 3 (.string (rootB s (ptY f p)))
  have hS2 := hS1.far ⟨w.heap.size + 1, 3, none⟩ (by simp) (.string (rootB s (ptY f p)))
  have hB2 := (HB.out.trans (hb.mono (by omega))).setCell (p := ⟨w.heap.size + 1, 3, none⟩) (by simp) (.string (rootB s (ptY f p)))
  have HW2 := Lib.hid hw2; have HS2 := Lib.hid hS2; have HB2 := Lib.hid hB2
  clear hb hw hS1 hw2 hS2 hB2 HS HB HT
  go_upto_region 5 with fail
  generalize World.setCell w1 _ _ = w2 at HW2 HS2 HB2 ⊢
  clear d3 z3
  refine wp_region_lit ?_
  iterate 1 (refine wpList_step (fun K hK => ?_); go_simp; refine hK _ _ ?_; clear hK K)
  refine load_v rfl _ _ rfl (w.heap.size + 1) rfl HW2.out Tryz.underlying26 rfl (by kernel_rfl) ?_
  refine store_v rfl rfl _ _ _ rfl w.heap.size rfl (l' := seL (startS s p f) none 0 none 0) rfl HS2.out rfl (seL_one _ _ _ _ _) (by kernel_rfl) ?_
  have hF := HS2.out.stored (seL (startS s p f) none 0 none 0) rfl
  have hBF := below_setCells (Nat.le_refl w.heap.size) (seL (startS s p f) none 0 none 0) 0 _ HB2.out
  generalize World.setCells w2 _ _ _ = W at hF hBF ⊢
  iterate 1 (refine wpList_step (fun K hK => ?_); go_simp; refine hK _ _ ?_; clear hK K)
  refine wpList_nil ?_
  rename_i K hK
  refine hK _ _ ?_
  refine wp_ret ?_
  exact bodyPost_ret (results_vt (p := 6) (u := 7) (T := 26) (by kernel_rfl) _ _ w.heap.size rfl hF Tryz.underlying26 rfl (by kernel_rfl)) rfl ⟨rfl, hBF⟩
def acceptS (secret own : ByteArray) : Se := ⟨own, ⟨#[]⟩, secret, ⟨#[]⟩, ⟨#[]⟩, 0, 0, 0, [], []⟩
set_option maxHeartbeats 2000000 in
theorem Accept_bad (s f : ByteArray) (hn : ¬ (s.size = 32 ∧ f.size = 32)) (w : World) :
    Calls Tryz.prog 9 #[.string s, .string f] w fun e w' => e = .returned (.tuple #[seV se0 none 0 none 0, .int .i64 2]) ∧ Below w.heap.size w w' := by
  have hS : BlkV (w.alloc (.cells (seL se0 none 0 none 0).toArray 26)) w.heap.size 26 (seL se0 none 0 none 0) := BlkV.fresh _ _ _ _ rfl _ rfl
  have hB : Below w.heap.size w (w.alloc (.cells (seL se0 none 0 none 0).toArray 26)) := (Below.refl _ _).alloc (Nat.le_refl _) _
  have h0 := isKeyY_any s; have h2 := isKeyY_any f
  obtain ⟨k0, e0⟩ : ∃ k, decide (s.size = 32) = k := ⟨_, rfl⟩
  obtain ⟨k2, e2⟩ : ∃ k, decide (f.size = 32) = k := ⟨_, rfl⟩
  have hk : ¬ (k0 = true ∧ k2 = true) := by
    subst e0 e2; simpa only [decide_eq_true_eq] using hn
  rw [e0] at h0; rw [e2] at h2
  have HS := Lib.hid hS; have HB := Lib.hid hB; have H0 := Lib.hid h0; have H2 := Lib.hid h2; have HK := Lib.hid hk
  clear hS hB h0 h2 hk e0 e2 hn
  go_enter Tryz.func9, Tryz.ntmps9
  go_upto_region 1 with fail
  go_wp2_with (first | (go_at_call_of 24 (Value.string s); refine (H0.out _).mono ?_; rintro e w1 ⟨rfl, rfl⟩) | (go_at_call_of 24 (Value.string f); refine (H2.out _).mono ?_; rintro e w1 ⟨rfl, rfl⟩))
  all_goals first
    | exact bodyPost_ret (results_vt (p := 4) (u := 5) (T := 26) (by kernel_rfl) _ _ w.heap.size rfl HS.out Tryz.underlying26 rfl (by kernel_rfl)) rfl ⟨rfl, HB.out⟩
    | (exfalso; have hk := HK.out; clear HK HS HB H0 H2; simp_all)
set_option maxHeartbeats 2000000 in
theorem Accept_good (s f : ByteArray) (hs : s.size = 32) (hf : f.size = 32) (w : World) :
    Calls Tryz.prog 9 #[.string s, .string f] w fun e w' => e = .returned (.tuple #[seV (acceptS s f) none 0 none 0, .int .i64 0]) ∧ Below w.heap.size w w' := by
  have hS : BlkV (w.alloc (.cells (seL se0 none 0 none 0).toArray 26)) w.heap.size 26 (seL se0 none 0 none 0) := BlkV.fresh _ _ _ _ rfl _ rfl
  have hB : Below w.heap.size w (w.alloc (.cells (seL se0 none 0 none 0).toArray 26)) := (Below.refl _ _).alloc (Nat.le_refl _) _
  obtain ⟨V, eV⟩ : ∃ V, w.alloc (.cells (seL se0 none 0 none 0).toArray 26) = V := ⟨_, rfl⟩
  rw [eV] at hS hB
  have h0 := isKeyY_any s; have h2 := isKeyY_any f
  rw [decide_eq_true hs] at h0; rw [decide_eq_true hf] at h2
  have HS := Lib.hid hS; have HB := Lib.hid hB; have H0 := Lib.hid h0; have H2 := Lib.hid h2
  clear hS hB h0 h2 hs hf
  go_enter Tryz.func9, Tryz.ntmps9
  go_upto_region 3 with (first | (go_at_call_of 24 (Value.string s); refine (H0.out _).mono ?_; rintro e w1 ⟨rfl, rfl⟩) | (go_at_call_of 24 (Value.string f); refine (H2.out _).mono ?_; rintro e w1 ⟨rfl, rfl⟩))
  generalize hG : World.alloc w _ = G
  obtain rfl : V = G := by rw [← hG, ← eV]; rfl
  clear hG eV H0 H2
  refine wp_region_lit ?_
  iterate 3 (refine wpList_step (fun K hK => ?_); go_simp; refine hK _ _ ?_; clear hK K)
  refine store_v rfl rfl _ _ _ rfl w.heap.size rfl (l' := seL (acceptS s f) none 0 none 0) rfl HS.out rfl (seL_one _ _ _ _ _) (by kernel_rfl) ?_
  have hF := HS.out.stored (seL (acceptS s f) none 0 none 0) rfl
  have hBF := below_setCells (Nat.le_refl w.heap.size) (seL (acceptS s f) none 0 none 0) 0 _ HB.out
  generalize World.setCells V _ _ _ = W at hF hBF ⊢
  iterate 1 (refine wpList_step (fun K hK => ?_); go_simp; refine hK _ _ ?_; clear hK K)
  refine wpList_nil ?_
  rename_i K hK
  refine hK _ _ ?_
  refine wp_ret ?_
  exact bodyPost_ret (results_vt (p := 4) (u := 5) (T := 26) (by kernel_rfl) _ _ w.heap.size rfl hF Tryz.underlying26 rfl (by kernel_rfl)) rfl ⟨rfl, hBF⟩
end Go.Proofs.YthjlhcmdpeinpaaGreatDoor