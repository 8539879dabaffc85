/- The contracts of lock's Keys, Lock, Again and Open. -/
import Derived.Test.YtikgefcbmoomjaaDoorZj
import Derived.Test.YtikgefcbmoomjaaDoorOc
import Derived.Test.YtikgefcbmoomjaaDoorFsame
namespace Go.Proofs.YtikgefcbmoomjaaDoor
open Go.RowKit Go.Sort
set_option maxRecDepth 100000
theorem Keys_bad (k : ByteArray) (hbad : ¬ k.size = 32) (w : World) :
    Calls Tryd.prog 7 #[.string k] w fun e w' => e = .returned (.tuple #[.string ⟨#[]⟩, .string ⟨#[]⟩, .string ⟨#[]⟩, .int .i64 2]) ∧ w = w' := by
  have h1 := isKey_any k
  rw [decide_eq_false hbad] at h1
  have H1 := Lib.hid h1
  clear h1 hbad
  go_enter Tryd.func7, Tryd.ntmps7
  go_wp2_with (go_at_call 18; with_reducible refine (H1.out _).mono ?_; rintro e w' ⟨rfl, rfl⟩)
  refine bodyPost_ret (v := .tuple #[.string ⟨#[]⟩, .string ⟨#[]⟩, .string ⟨#[]⟩, .int .i64 2]) (by simp [results, Tryd.results7, go_sem]) rfl ⟨rfl, rfl⟩
set_option maxHeartbeats 1000000 in
theorem Keys_good (k : ByteArray) (hk : k.size = 32) (w : World) (hF : FirstAt w) (hK : KeysAt w) :
    Calls Tryd.prog 7 #[.string k] w fun e w' => e = .returned (.tuple #[.string (strL (hideL (bl k))), .string (strL (tagkL (bl k))), .string (strL (nonL (bl k))), .int .i64 0]) ∧ Below w.heap.size w w' := by
  have h1 := isKey_any k
  rw [decide_eq_true hk] at h1
  have hko := keysOf_any k (by omega) w hF hK
  obtain ⟨A, eA⟩ : ∃ A, strL (hideL (bl k)) = A := ⟨_, rfl⟩
  obtain ⟨B, eB⟩ : ∃ B, strL (tagkL (bl k)) = B := ⟨_, rfl⟩
  obtain ⟨D, eD⟩ : ∃ D, strL (nonL (bl k)) = D := ⟨_, rfl⟩
  rw [eA, eB, eD] at hko ⊢
  have H1 := Lib.hid h1; have HKO := Lib.hid hko
  clear h1 hko eA eB eD hF hK hk
  go_enter Tryd.func7, Tryd.ntmps7
  go_wp2_with (go_at_call 18; with_reducible refine (H1.out _).mono ?_; rintro e w' ⟨rfl, rfl⟩)
  refine HKO.out.mono ?_
  rintro e w1 ⟨rfl, hb1⟩
  have hbb : Below w.heap.size w (w1.alloc (.cells #[.string A, .string B, .string D] 46)) := hb1.alloc hb1.size _
  have HBB := Lib.hid hbb
  clear hbb hb1 HKO H1
  go_upto_region 4 with fail
  go_quiet (fail)
  go_wp2_with fail
  refine bodyPost_ret (v := .tuple #[.string A, .string B, .string D, .int .i64 0]) (by simp [results, Tryd.results7, go_sem]) rfl ⟨rfl, below_drewN HBB.out _⟩

set_option maxHeartbeats 1000000 in
theorem turned_any (x y z s : ByteArray) (hx : x.size = 32) (hz : z.size = 12) (hs : s.size ≤ 4096) (w : World) :
    Calls Tryd.prog 22 #[.agg #[.string x, .string y, .string z], .string s] w fun e w' => e = .returned (.string (strL (xorC (bl x) (bl z) (bl s)))) ∧ Below w.heap.size w w' := by
  have hX := Xor_any x z s hx hz hs
  have hb0 : Below w.heap.size w (w.alloc (.cells #[.string x, .string y, .string z] 46)) := by go_grown
  have HX := Lib.hid hX; have HB0 := Lib.hid hb0
  clear hX hb0 hx hz hs
  go_enter Tryd.func22, Tryd.ntmps22
  go_wp2_with fail
  refine (HX.out _).mono ?_
  rintro e w1 ⟨rfl, hb1⟩
  have hbb := HB0.out.trans (hb1.mono HB0.out.size)
  clear HX HB0 hb1
  go_wp2_with fail
  go_ret
  exact ⟨rfl, hbb⟩
theorem Lock_bad (k h x : ByteArray) (hbad : ¬ (k.size = 32 ∧ h.size ≤ 1024 ∧ x.size ≤ 1024)) (w : World) :
    Calls Tryd.prog 8 #[.string k, .string h, .string x] w fun e w' => e = .returned (.tuple #[.string ⟨#[]⟩, .int .i64 2]) ∧ w = w' := by
  have h1 := isKey_any k; have h2 := isText_any h; have h3 := isText_any x
  by_cases a : k.size = 32
  · by_cases b : h.size ≤ 1024
    · have c : ¬ (x.size ≤ 1024) := fun c => hbad ⟨a, b, c⟩
      rw [decide_eq_true a] at h1
      rw [decide_eq_true b] at h2
      rw [decide_eq_false c] at h3
      have H1 := Lib.hid h1; have H2 := Lib.hid h2; have H3 := Lib.hid h3
      clear h1 h2 h3 a b c hbad
      go_enter Tryd.func8, Tryd.ntmps8
      go_wp2_with (first | (go_at_call 18; with_reducible refine (H1.out _).mono ?_; rintro e w' ⟨rfl, rfl⟩) | (go_at_call_of 20 (Value.string h); with_reducible refine (H2.out _).mono ?_; rintro e w' ⟨rfl, rfl⟩) | (go_at_call 20; with_reducible refine (H3.out _).mono ?_; rintro e w' ⟨rfl, rfl⟩))
      go_ret2
      exact ⟨rfl, rfl⟩
    · rw [decide_eq_true a] at h1
      rw [decide_eq_false b] at h2
      have H1 := Lib.hid h1; have H2 := Lib.hid h2; have H3 := Lib.hid h3
      clear h1 h2 h3 a b hbad
      go_enter Tryd.func8, Tryd.ntmps8
      go_wp2_with (first | (go_at_call 18; with_reducible refine (H1.out _).mono ?_; rintro e w' ⟨rfl, rfl⟩) | (go_at_call_of 20 (Value.string h); with_reducible refine (H2.out _).mono ?_; rintro e w' ⟨rfl, rfl⟩) | (go_at_call 20; with_reducible refine (H3.out _).mono ?_; rintro e w' ⟨rfl, rfl⟩))
      go_ret2
      exact ⟨rfl, rfl⟩
  · rw [decide_eq_false a] at h1
    have H1 := Lib.hid h1; have H2 := Lib.hid h2; have H3 := Lib.hid h3
    clear h1 h2 h3 a hbad
    go_enter Tryd.func8, Tryd.ntmps8
    go_wp2_with (first | (go_at_call 18; with_reducible refine (H1.out _).mono ?_; rintro e w' ⟨rfl, rfl⟩) | (go_at_call_of 20 (Value.string h); with_reducible refine (H2.out _).mono ?_; rintro e w' ⟨rfl, rfl⟩) | (go_at_call 20; with_reducible refine (H3.out _).mono ?_; rintro e w' ⟨rfl, rfl⟩))
    go_ret2
    exact ⟨rfl, rfl⟩
theorem Again_bad (k h x : ByteArray) (hbad : ¬ (k.size = 32 ∧ h.size ≤ 1024 ∧ x.size ≤ 1024)) (w : World) :
    Calls Tryd.prog 9 #[.string k, .string h, .string x] w fun e w' => e = .returned (.tuple #[.string ⟨#[]⟩, .int .i64 2]) ∧ w = w' := by
  have h1 := isKey_any k; have h2 := isText_any h; have h3 := isText_any x
  by_cases a : k.size = 32
  · by_cases b : h.size ≤ 1024
    · have c : ¬ (x.size ≤ 1024) := fun c => hbad ⟨a, b, c⟩
      rw [decide_eq_true a] at h1
      rw [decide_eq_true b] at h2
      rw [decide_eq_false c] at h3
      have H1 := Lib.hid h1; have H2 := Lib.hid h2; have H3 := Lib.hid h3
      clear h1 h2 h3 a b c hbad
      go_enter Tryd.func9, Tryd.ntmps9
      go_wp2_with (first | (go_at_call 18; with_reducible refine (H1.out _).mono ?_; rintro e w' ⟨rfl, rfl⟩) | (go_at_call_of 20 (Value.string h); with_reducible refine (H2.out _).mono ?_; rintro e w' ⟨rfl, rfl⟩) | (go_at_call 20; with_reducible refine (H3.out _).mono ?_; rintro e w' ⟨rfl, rfl⟩))
      go_ret2
      exact ⟨rfl, rfl⟩
    · rw [decide_eq_true a] at h1
      rw [decide_eq_false b] at h2
      have H1 := Lib.hid h1; have H2 := Lib.hid h2; have H3 := Lib.hid h3
      clear h1 h2 h3 a b hbad
      go_enter Tryd.func9, Tryd.ntmps9
      go_wp2_with (first | (go_at_call 18; with_reducible refine (H1.out _).mono ?_; rintro e w' ⟨rfl, rfl⟩) | (go_at_call_of 20 (Value.string h); with_reducible refine (H2.out _).mono ?_; rintro e w' ⟨rfl, rfl⟩) | (go_at_call 20; with_reducible refine (H3.out _).mono ?_; rintro e w' ⟨rfl, rfl⟩))
      go_ret2
      exact ⟨rfl, rfl⟩
  · rw [decide_eq_false a] at h1
    have H1 := Lib.hid h1; have H2 := Lib.hid h2; have H3 := Lib.hid h3
    clear h1 h2 h3 a hbad
    go_enter Tryd.func9, Tryd.ntmps9
    go_wp2_with (first | (go_at_call 18; with_reducible refine (H1.out _).mono ?_; rintro e w' ⟨rfl, rfl⟩) | (go_at_call_of 20 (Value.string h); with_reducible refine (H2.out _).mono ?_; rintro e w' ⟨rfl, rfl⟩) | (go_at_call 20; with_reducible refine (H3.out _).mono ?_; rintro e w' ⟨rfl, rfl⟩))
    go_ret2
    exact ⟨rfl, rfl⟩
theorem Open_bad (k h x : ByteArray) (hbad : ¬ (k.size = 32 ∧ h.size ≤ 1024 ∧ 32 ≤ x.size ∧ x.size ≤ 1056)) (w : World) :
    Calls Tryd.prog 16 #[.string k, .string h, .string x] w fun e w' => e = .returned (.tuple #[.string ⟨#[]⟩, .int .i64 2]) ∧ w = w' := by
  have h1 := isKey_any k; have h2 := isText_any h; have h3 := isLocked_any x
  by_cases a : k.size = 32
  · by_cases b : h.size ≤ 1024
    · have c : ¬ (32 ≤ x.size ∧ x.size ≤ 1056) := fun c => hbad ⟨a, b, c⟩
      rw [decide_eq_true a] at h1
      rw [decide_eq_true b] at h2
      rw [decide_eq_false c] at h3
      have H1 := Lib.hid h1; have H2 := Lib.hid h2; have H3 := Lib.hid h3
      clear h1 h2 h3 a b c hbad
      go_enter Tryd.func16, Tryd.ntmps16
      go_wp2_with (first | (go_at_call 18; with_reducible refine (H1.out _).mono ?_; rintro e w' ⟨rfl, rfl⟩) | (go_at_call_of 20 (Value.string h); with_reducible refine (H2.out _).mono ?_; rintro e w' ⟨rfl, rfl⟩) | (go_at_call 27; with_reducible refine (H3.out _).mono ?_; rintro e w' ⟨rfl, rfl⟩))
      go_ret2
      exact ⟨rfl, rfl⟩
    · rw [decide_eq_true a] at h1
      rw [decide_eq_false b] at h2
      have H1 := Lib.hid h1; have H2 := Lib.hid h2; have H3 := Lib.hid h3
      clear h1 h2 h3 a b hbad
      go_enter Tryd.func16, Tryd.ntmps16
      go_wp2_with (first | (go_at_call 18; with_reducible refine (H1.out _).mono ?_; rintro e w' ⟨rfl, rfl⟩) | (go_at_call_of 20 (Value.string h); with_reducible refine (H2.out _).mono ?_; rintro e w' ⟨rfl, rfl⟩) | (go_at_call 27; with_reducible refine (H3.out _).mono ?_; rintro e w' ⟨rfl, rfl⟩))
      go_ret2
      exact ⟨rfl, rfl⟩
  · rw [decide_eq_false a] at h1
    have H1 := Lib.hid h1; have H2 := Lib.hid h2; have H3 := Lib.hid h3
    clear h1 h2 h3 a hbad
    go_enter Tryd.func16, Tryd.ntmps16
    go_wp2_with (first | (go_at_call 18; with_reducible refine (H1.out _).mono ?_; rintro e w' ⟨rfl, rfl⟩) | (go_at_call_of 20 (Value.string h); with_reducible refine (H2.out _).mono ?_; rintro e w' ⟨rfl, rfl⟩) | (go_at_call 27; with_reducible refine (H3.out _).mono ?_; rintro e w' ⟨rfl, rfl⟩))
    go_ret2
    exact ⟨rfl, rfl⟩

/-- a text locked -/
def lockL (k h x : List UInt8) : List UInt8 := againL (tagkL k) h (xorC (hideL k) (nonL k) x)
set_option maxHeartbeats 1000000 in
theorem Again_good (k h x : ByteArray) (hk : k.size = 32) (hh : h.size ≤ 1024) (hx : x.size ≤ 1024) (w : World) (hF : FirstAt w) (hK : KeysAt w) :
    Calls Tryd.prog 9 #[.string k, .string h, .string x] w fun e w' => e = .returned (.tuple #[.string (strL (againL (bl k) (bl h) (bl x))), .int .i64 0]) ∧ Below w.heap.size w w' := by
  have h1 := isKey_any k; have h2 := isText_any h; have h3 := isText_any x
  rw [decide_eq_true hk] at h1
  rw [decide_eq_true hh] at h2
  rw [decide_eq_true hx] at h3
  have H1 := Lib.hid h1; have H2 := Lib.hid h2; have H3 := Lib.hid h3
  have hb0 : Below w.heap.size w (w.alloc (.cells #[.string ⟨#[]⟩, .string k, .string ⟨#[]⟩, .string h] 49)) := by go_grown
  have ht := tagged_any ⟨#[]⟩ k ⟨#[]⟩ h x (by omega) hh (by omega) _ (hF.on hb0) (hK.on hb0)
  have HT := Lib.hid ht; have HB0 := Lib.hid hb0
  clear h1 h2 h3 ht hb0 hF hK hk hh hx
  go_enter Tryd.func9, Tryd.ntmps9
  go_wp2_with (first | (go_at_call 18; with_reducible refine (H1.out _).mono ?_; rintro e w' ⟨rfl, rfl⟩) | (go_at_call_of 20 (Value.string h); with_reducible refine (H2.out _).mono ?_; rintro e w' ⟨rfl, rfl⟩) | (go_at_call 20; with_reducible refine (H3.out _).mono ?_; rintro e w' ⟨rfl, rfl⟩))
  refine HT.out.mono ?_
  rintro e w1 ⟨rfl, hb1⟩
  have hbb := HB0.out.trans (hb1.mono HB0.out.size)
  clear HT HB0 hb1
  go_wp2_with fail
  go_ret2
  exact ⟨rfl, hbb⟩

set_option maxHeartbeats 4000000 in
theorem Lock_good (k h x : ByteArray) (hk : k.size = 32) (hh : h.size ≤ 1024) (hx : x.size ≤ 1024) (w : World) (hF : FirstAt w) (hK : KeysAt w) :
    Calls Tryd.prog 8 #[.string k, .string h, .string x] w fun e w' => e = .returned (.tuple #[.string (strL (lockL (bl k) (bl h) (bl x))), .int .i64 0]) ∧ Below w.heap.size w w' := by
  have h1 := isKey_any k; have h2 := isText_any h; have h3 := isText_any x
  rw [decide_eq_true hk] at h1
  rw [decide_eq_true hh] at h2
  rw [decide_eq_true hx] at h3
  have H1 := Lib.hid h1; have H2 := Lib.hid h2; have H3 := Lib.hid h3
  obtain ⟨A, eA⟩ : ∃ A, strL (hideL (bl k)) = A := ⟨_, rfl⟩
  obtain ⟨B, eB⟩ : ∃ B, strL (tagkL (bl k)) = B := ⟨_, rfl⟩
  obtain ⟨D, eD⟩ : ∃ D, strL (nonL (bl k)) = D := ⟨_, rfl⟩
  have lA : A.size = 32 := by rw [← eA, strL_size, hideL_length]
  have lB : B.size = 32 := by rw [← eB, strL_size, tagkL_length]
  have lD : D.size = 12 := by rw [← eD, strL_size, nonL_length]
  have bA : hideL (bl k) = bl A := by rw [← eA, bl_strL]
  have bB : tagkL (bl k) = bl B := by rw [← eB, bl_strL]
  have bD : nonL (bl k) = bl D := by rw [← eD, bl_strL]
  have hko := keysOf_any k (by omega) w hF hK
  rw [eA, eB, eD] at hko
  obtain ⟨X, eX⟩ : ∃ X, strL (xorC (bl A) (bl D) (bl x)) = X := ⟨_, rfl⟩
  have hXs : X.size = x.size := by rw [← eX, strL_size, xorC_length]; rfl
  have hfin : strL (lockL (bl k) (bl h) (bl x)) = strL (againL (bl B) (bl h) (bl X)) := by unfold lockL; rw [bA, bB, bD, ← eX, bl_strL]
  have htu := fun W => turned_any A B D x lA lD (by omega) W
  rw [eX] at htu
  have htg := fun W p q => tagged_any A B D h X (by omega) hh (by omega) W p q
  rw [hfin]
  obtain ⟨S, eS⟩ : ∃ S, strL (againL (bl B) (bl h) (bl X)) = S := ⟨_, rfl⟩
  rw [eS] at htg ⊢
  have HKO := Lib.hid hko; have HTU := Lib.hid htu; have HTG := Lib.hid htg; have HF := Lib.hid hF; have HK := Lib.hid hK
  clear h1 h2 h3 hko htu htg hfin hF hK hk hh hx eA eB eD eX eS lA lB lD bA bB bD hXs
  go_enter Tryd.func8, Tryd.ntmps8
  go_wp2_with (first | (go_at_call 18; with_reducible refine (H1.out _).mono ?_; rintro e w' ⟨rfl, rfl⟩) | (go_at_call_of 20 (Value.string h); with_reducible refine (H2.out _).mono ?_; rintro e w' ⟨rfl, rfl⟩) | (go_at_call 20; with_reducible refine (H3.out _).mono ?_; rintro e w' ⟨rfl, rfl⟩))
  refine HKO.out.mono ?_
  rintro e w1 ⟨rfl, hb1⟩
  have hb2 : Below w.heap.size w (w1.alloc (.cells #[.string A, .string B, .string D, .string h] 49)) := hb1.alloc hb1.size _
  have hc : (w1.alloc (.cells #[.string A, .string B, .string D, .string h] 49)).heap[w1.heap.size]? = some (.cells #[.string A, .string B, .string D, .string h] 49) := heap_alloc_new _ _
  clear hb1 HKO H1 H2 H3
  go_upto_region 4 with fail
  generalize World.alloc w1 _ = W at hb2 hc ⊢
  have e0 : W.cell? ⟨w1.heap.size, 0, none⟩ = some (.string A) := by rw [cell_of_row _ _ _ _ _ _ hc]; rfl
  have e1 : W.cell? ⟨w1.heap.size, 1, none⟩ = some (.string B) := by rw [cell_of_row _ _ _ _ _ _ hc]; rfl
  have e2 : W.cell? ⟨w1.heap.size, 2, none⟩ = some (.string D) := by rw [cell_of_row _ _ _ _ _ _ hc]; rfl
  have e3 : W.cell? ⟨w1.heap.size, 3, none⟩ = some (.string h) := by rw [cell_of_row _ _ _ _ _ _ hc]; rfl
  have q0 := cell_regrown e0; have q1 := cell_regrown e1; have q2 := cell_regrown e2; have q3 := cell_regrown e3
  have hFW := HF.out.on hb2; have hKW := HK.out.on hb2
  have htg2 := fun (d : Nat) (os : Array Obj) => HTG.out (grow (redrawn W d) os) (hFW.on (below_regrown W d os)) (hKW.on (below_regrown W d os))
  have HTG2 := Lib.hid htg2; have HB2 := Lib.hid hb2
  clear e0 e1 e2 e3 hc htg2 hFW hKW HTG hb2 HF HK
  refine wp_region_quiet_below (by kernel_rfl) (by kernel_rfl) ?_
  iterate 8 (quiet_step (first | (go_at_call 22; exact Calls.regrown_of (HTU.out _)) | (go_at_call 21; exact Calls.regrown_of (HTG2.out _ _))))
  refine wpQuiet_nil ?_
  intro _ hw'
  obtain ⟨⟨dq, osq⟩, hw''⟩ := hw'
  subst hw''
  have hb := below_regrown W dq osq
  have hbb := HB2.out.trans (hb.mono HB2.out.size)
  clear q0 q1 q2 q3 hb HTG2 HTU HB2
  generalize grow (redrawn W dq) osq = W1 at hbb ⊢
  go_wp2_with fail
  go_ret2
  exact ⟨rfl, hbb⟩
end Go.Proofs.YtikgefcbmoomjaaDoor