/- The texts Vc, Vf, Xa, Xb, Xc, Xd, Xe, one behind the other. -/
import Derived.Test.YthjlhcmdpeinpaaGreatDoorBg18
import Derived.Test.YthjlhcmdpeinpaaGreatDoorGg1
import Derived.Test.YthjlhcmdpeinpaaGreatDoorBg11
import Derived.Test.YthjlhcmdpeinpaaGreatDoorBg12
import Derived.Test.YthjlhcmdpeinpaaGreatDoorBg1
import Derived.Test.YthjlhcmdpeinpaaGreatDoorRows
import Derived.Deep.Onto
import Derived.BigQuiet
/- chain's Root and Step. -/
namespace Go.Proofs.YthjlhcmdpeinpaaGreatDoor
open Go.RowKit
set_option maxRecDepth 100000
set_option maxHeartbeats 1000000 in
theorem Step_good (c : ByteArray) (hc : c.size = 32) (w : World) (hF : FirstAt w) (hK : KeysAt w) :
    Calls Tryz.prog 112 #[.string c] w fun e w' => e = .returned (.tuple #[.string (spA c stWord), .string (spB c stWord), .int .i64 0]) ∧ Below w.heap.size w w' := by
  have h1 := isKeyC_any c
  rw [decide_eq_true hc] at h1
  have hs := splitC_any c stWord (by omega) (by decide) w hF hK
  generalize spA c stWord = A at hs ⊢
  generalize spB c stWord = B at hs ⊢
  unfold stWord at hs
  have H1 := Lib.hid h1; have HS := Lib.hid hs
  clear h1 hc hs hF hK
  go_enter Tryz.func112, Tryz.ntmps112
  go_wp2_with fail
  refine (H1.out _).mono ?_
  rintro e w1 ⟨rfl, rfl⟩
  go_wp2_with fail
  refine HS.out.mono ?_
  rintro e w1 ⟨rfl, hb⟩
  have HB := Lib.hid hb
  clear hb H1 HS
  go_wp2_with fail
  go_ret3
  exact ⟨rfl, HB.out⟩

/-- a root's step, with a shared point: the next root -/
def rootA (r s : ByteArray) : ByteArray := spA (strL (tagL (bl r) (bl s))) rtWord
/-- a chain -/
def rootB (r s : ByteArray) : ByteArray := spB (strL (tagL (bl r) (bl s))) rtWord
set_option maxHeartbeats 1000000 in
theorem Root_good (r s : ByteArray) (hr : r.size = 32) (hs : s.size = 32) (w : World) (hF : FirstAt w) (hK : KeysAt w) :
    Calls Tryz.prog 53 #[.string r, .string s] w fun e w' => e = .returned (.tuple #[.string (rootA r s), .string (rootB r s), .int .i64 0]) ∧ Below w.heap.size w w' := by
  have h1 := isKeyC_any r
  have h2 := isKeyC_any s
  rw [decide_eq_true hr] at h1
  rw [decide_eq_true hs] at h2
  have he := extract_any r s (by omega) (by omega) w hF hK
  obtain ⟨T, eT⟩ : ∃ T, strL (tagL (bl r) (bl s)) = T := ⟨_, rfl⟩
  have hT : T.size = 32 := by rw [← eT, strL_size]; exact ofL_length _
  have hsp := splitC_any T rtWord (by omega) (by decide)
  unfold rootA rootB
  rw [eT] at he ⊢
  generalize spA T rtWord = A at hsp ⊢
  generalize spB T rtWord = B at hsp ⊢
  unfold rtWord at hsp
  have H1 := Lib.hid h1; have H2 := Lib.hid h2; have HE := Lib.hid he; have HS := Lib.hid hsp; have HFK := Lib.hid (And.intro hF hK)
  clear h1 h2 he hsp hr hs hT eT hF hK
  go_enter Tryz.func53, Tryz.ntmps53
  go_wp2_with fail
  refine (H1.out _).mono ?_
  rintro e w1 ⟨rfl, rfl⟩
  go_wp2_with fail
  refine (H2.out _).mono ?_
  rintro e w1 ⟨rfl, rfl⟩
  go_wp2_with fail
  refine HE.out.mono ?_
  rintro e w1 ⟨rfl, hb⟩
  have HS1 := Lib.hid (HS.out w1 (HFK.out.1.on hb) (HFK.out.2.on hb)); have HB := Lib.hid hb
  clear hb H1 H2 HE HS HFK
  go_wp2_with fail
  refine HS1.out.mono ?_
  rintro e w2 ⟨rfl, hb⟩
  have HB2 := Lib.hid (HB.out.trans (hb.mono HB.out.size))
  clear hb HS1 HB
  go_wp2_with fail
  go_ret3
  exact ⟨rfl, HB2.out⟩
end Go.Proofs.YthjlhcmdpeinpaaGreatDoor

/- The reference 10: a chain's step, a root's. -/
namespace Go.Proofs.YthjlhcmdpeinpaaGreatDoor
open Go.RowKit Go.Sort
set_option maxRecDepth 100000
set_option maxHeartbeats 4000000 in
theorem refstepC_any (kv : Value) (k : ByteArray) (hk0 : k.size ≤ 1000000) (w : World) (hk : KAt w kv) :
    Calls Tryz.prog 42 #[kv, .string k] w fun e w' => e = .returned (.agg #[.string (spA k stWord), .string (spB k stWord)]) ∧ Below w.heap.size w w' := by
  have hKA := id hk
  obtain ⟨k0, k1, rfl, hK0, hK1⟩ := hk
  obtain ⟨g0, o0, c0, rfl, hg0, -⟩ := hK0
  obtain ⟨g1, o1, c1, rfl, hg1, -⟩ := hK1
  simp only [S8.l_length, keysL_length] at hKA ⊢
  have hb0 : Below w.heap.size w ((w.alloc (.cells #[.slice (some ⟨g0, o0, none⟩) 64 c0, .slice (some ⟨g1, o1, none⟩) 8 c1] 39)).alloc (.cells #[.string ⟨#[]⟩, .string ⟨#[]⟩] 84)) := by go_grown
  have hc0 : ((w.alloc (.cells #[.slice (some ⟨g0, o0, none⟩) 64 c0, .slice (some ⟨g1, o1, none⟩) 8 c1] 39)).alloc (.cells #[.string ⟨#[]⟩, .string ⟨#[]⟩] 84)).heap[w.heap.size]? = some (.cells #[.slice (some ⟨g0, o0, none⟩) 64 c0, .slice (some ⟨g1, o1, none⟩) 8 c1] 39) := heap_alloc2_old _ _ _
  have hr0 : ((w.alloc (.cells #[.slice (some ⟨g0, o0, none⟩) 64 c0, .slice (some ⟨g1, o1, none⟩) 8 c1] 39)).alloc (.cells #[.string ⟨#[]⟩, .string ⟨#[]⟩] 84)).heap[w.heap.size + 1]? = some (.cells #[.string ⟨#[]⟩, .string ⟨#[]⟩] 84) := heap_alloc2_new _ _ _
  have hKA0 := hKA.on hb0
  obtain ⟨W, hW⟩ : ∃ W, (w.alloc (.cells #[.slice (some ⟨g0, o0, none⟩) 64 c0, .slice (some ⟨g1, o1, none⟩) 8 c1] 39)).alloc (.cells #[.string ⟨#[]⟩, .string ⟨#[]⟩] 84) = W := ⟨_, rfl⟩
  rw [hW] at hb0 hc0 hr0 hKA0
  have hs := refsplit_any _ k stWord 2 hk0 (by decide) (by omega) W hKA0
  rw [row2] at hs
  generalize spA k stWord = A at hs ⊢
  generalize spB k stWord = B at hs ⊢
  unfold stWord at hs
  have e0 : W.cell? ⟨w.heap.size, 0, none⟩ = some (.slice (some ⟨g0, o0, none⟩) 64 c0) := by rw [cell_of_row _ _ _ _ _ _ hc0]; rfl
  have e1 : W.cell? ⟨w.heap.size, 1, none⟩ = some (.slice (some ⟨g1, o1, none⟩) 8 c1) := by rw [cell_of_row _ _ _ _ _ _ hc0]; rfl
  have HS := Lib.hid hs; have HB0 := Lib.hid hb0; have HR0 := Lib.hid hr0; have HW := Lib.hid hW
  clear hs hb0 hr0 hc0 hKA hKA0 hW hk0
  go_enter Tryz.func42, Tryz.ntmps42
  go_upto_region 1 with fail
  rw [HW.out]
  have hlW : w.heap.size + 1 < W.heap.size := (Array.getElem?_eq_some_iff.1 HR0.out).1
  clear HW
  go_wp2_with fail
  refine HS.out.mono ?_
  rintro e w1 ⟨g, cap, rfl, hl, hb1⟩
  have hBw := HB0.out.trans (hb1.mono HB0.out.size)
  have hr1 : w1.heap[w.heap.size + 1]? = some (.cells #[.string ⟨#[]⟩, .string ⟨#[]⟩] 84) := by rw [hb1.block _ hlW]; exact HR0.out
  obtain ⟨b, o, c, ee, hlt, hcl⟩ := hl
  obtain ⟨⟨rfl, rfl⟩, rfl⟩ : (g = b ∧ 0 = o) ∧ cap = c := by simpa using ee
  have c0 : w1.cell? ⟨g, 0, none⟩ = some (.string A) := hcl 0 (by simp)
  have c1 : w1.cell? ⟨g, 1, none⟩ = some (.string B) := hcl 1 (by simp)
  have q0 := cell_regrown c0; have q1 := cell_regrown c1
  have HR1 := Lib.hid hr1; have HBW := Lib.hid hBw
  clear HS HB0 HR0 hb1 hBw hr1 ee hcl c0 c1 e0 e1 hlW
  go_upto_region 2 with fail
  refine wp_region_last_below 7 _ (by kernel_rfl) rfl rfl rfl rfl (by kernel_rfl) (by kernel_rfl) ?_
  simp only [List.take_succ_cons, List.take_zero]
  iterate 7 (quiet_step (fail))
  refine wpQuiet_nil ?_
  intro _ hw'
  obtain ⟨⟨dq, osq⟩, hw''⟩ := hw'
  subst hw''
  have hb := below_regrown w1 dq osq
  have hR : w.heap.size + 1 < w1.heap.size := (Array.getElem?_eq_some_iff.1 HR1.out).1
  have hBW := HBW.out.trans (hb.mono HBW.out.size)
  have hr2 : (grow (redrawn w1 dq) osq).heap[w.heap.size + 1]? = some (.cells #[.string ⟨#[]⟩, .string ⟨#[]⟩] 84) := by rw [hb.block _ hR]; exact HR1.out
  clear q0 q1 hb hR HR1 HBW hlt
  generalize grow (redrawn w1 dq) osq = W1 at hBW hr2 ⊢
  have r0 : W1.cell? ⟨w.heap.size + 1, 0, none⟩ = some (.string ⟨#[]⟩) := by rw [cell_of_row _ _ _ _ _ _ hr2]; rfl
  have r1 : W1.cell? ⟨w.heap.size + 1, 1, none⟩ = some (.string ⟨#[]⟩) := by rw [cell_of_row _ _ _ _ _ _ hr2]; rfl
  have f0 := frozen_of_row W1 (w.heap.size + 1) 0 _ _ hr2
  have f1 := frozen_of_row W1 (w.heap.size + 1) 1 _ _ hr2
  have HSS := Lib.hid (store2 hr2 (.string A) (.string B)); have HBS := Lib.hid (below2 hBW (Nat.le_succ _) (.string A) (.string B))
  clear hr2 hBW
  go_wp2_with fail
  clear r0 r1 f0 f1
  generalize World.setCell (World.setCell W1 _ _) _ _ = V at HSS HBS ⊢
  have s0 : V.cell? ⟨w.heap.size + 1, 0, none⟩ = some (.string A) := by rw [cell_of_row _ _ _ _ _ _ HSS.out]; rfl
  have s1 : V.cell? ⟨w.heap.size + 1, 1, none⟩ = some (.string B) := by rw [cell_of_row _ _ _ _ _ _ HSS.out]; rfl
  refine bodyPost_ret (v := .agg #[.string A, .string B]) (by simp [results, Tryz.results42, go_sem, s0, s1]) rfl ⟨rfl, HBS.out⟩
set_option maxHeartbeats 4000000 in
theorem refrootC_any (kv : Value) (r s : ByteArray) (hr : r.size ≤ 1000000) (hsz : s.size ≤ 80000) (w : World) (hk : KAt w kv) :
    Calls Tryz.prog 60 #[kv, .string r, .string s] w fun e w' => e = .returned (.agg #[.string (rootA r s), .string (rootB r s)]) ∧ Below w.heap.size w w' := by
  have hKA := id hk
  obtain ⟨k0, k1, rfl, hK0, hK1⟩ := hk
  obtain ⟨g0, o0, c0, rfl, hg0, -⟩ := hK0
  obtain ⟨g1, o1, c1, rfl, hg1, -⟩ := hK1
  simp only [S8.l_length, keysL_length] at hKA ⊢
  have hb0 : Below w.heap.size w ((w.alloc (.cells #[.slice (some ⟨g0, o0, none⟩) 64 c0, .slice (some ⟨g1, o1, none⟩) 8 c1] 39)).alloc (.cells #[.string ⟨#[]⟩, .string ⟨#[]⟩] 84)) := by go_grown
  have hc0 : ((w.alloc (.cells #[.slice (some ⟨g0, o0, none⟩) 64 c0, .slice (some ⟨g1, o1, none⟩) 8 c1] 39)).alloc (.cells #[.string ⟨#[]⟩, .string ⟨#[]⟩] 84)).heap[w.heap.size]? = some (.cells #[.slice (some ⟨g0, o0, none⟩) 64 c0, .slice (some ⟨g1, o1, none⟩) 8 c1] 39) := heap_alloc2_old _ _ _
  have hr0 : ((w.alloc (.cells #[.slice (some ⟨g0, o0, none⟩) 64 c0, .slice (some ⟨g1, o1, none⟩) 8 c1] 39)).alloc (.cells #[.string ⟨#[]⟩, .string ⟨#[]⟩] 84)).heap[w.heap.size + 1]? = some (.cells #[.string ⟨#[]⟩, .string ⟨#[]⟩] 84) := heap_alloc2_new _ _ _
  have hKA0 := hKA.on hb0
  obtain ⟨W, hW⟩ : ∃ W, (w.alloc (.cells #[.slice (some ⟨g0, o0, none⟩) 64 c0, .slice (some ⟨g1, o1, none⟩) 8 c1] 39)).alloc (.cells #[.string ⟨#[]⟩, .string ⟨#[]⟩] 84) = W := ⟨_, rfl⟩
  rw [hW] at hb0 hc0 hr0 hKA0
  obtain ⟨kk, ekk⟩ : ∃ kk, Value.agg #[.slice (some ⟨g0, o0, none⟩) 64 c0, .slice (some ⟨g1, o1, none⟩) 8 c1] = kk := ⟨_, rfl⟩
  have ht := fun (V : World) (h : KAt V kk) => reftag_any kk r s hr hsz V h
  obtain ⟨T, eT⟩ : ∃ T, strL (tagL (bl r) (bl s)) = T := ⟨_, rfl⟩
  have hT : T.size = 32 := by rw [← eT, strL_size]; exact ofL_length _
  have hs := fun (V : World) (h : KAt V kk) => refsplit_any kk T rtWord 2 (by omega) (by decide) (by omega) V h
  unfold rootA rootB
  rw [eT] at ht ⊢
  rw [row2] at hs
  generalize spA T rtWord = A at hs ⊢
  generalize spB T rtWord = B at hs ⊢
  unfold rtWord at hs
  rw [ekk] at hKA0
  subst ekk
  have e0 : W.cell? ⟨w.heap.size, 0, none⟩ = some (.slice (some ⟨g0, o0, none⟩) 64 c0) := by rw [cell_of_row _ _ _ _ _ _ hc0]; rfl
  have e1 : W.cell? ⟨w.heap.size, 1, none⟩ = some (.slice (some ⟨g1, o1, none⟩) 8 c1) := by rw [cell_of_row _ _ _ _ _ _ hc0]; rfl
  have HT := Lib.hid ht; have HS := Lib.hid hs; have HKA := Lib.hid hKA0; have HB0 := Lib.hid hb0; have HR0 := Lib.hid hr0; have HW := Lib.hid hW
  clear ht hs hb0 hr0 hc0 hKA hKA0 hW hr hsz eT hT
  go_enter Tryz.func60, Tryz.ntmps60
  go_upto_region 1 with fail
  rw [HW.out]
  have hlW : w.heap.size + 1 < W.heap.size := (Array.getElem?_eq_some_iff.1 HR0.out).1
  clear HW
  have HC2 := Lib.hid (And.intro e0 e1)
  have bel_of2 : ∀ w' : World, ((w'.cell? ⟨w.heap.size, 0, none⟩ = some (.slice (some ⟨g0, o0, none⟩) 64 c0) ∧ w'.cell? ⟨w.heap.size, 1, none⟩ = some (.slice (some ⟨g1, o1, none⟩) 8 c1)) ∧ Bel W w') → Bel W w' := fun w' h => h.2
  have HB2 := Lib.hid bel_of2
  clear bel_of2
  have hS : (fun w' : World => (w'.cell? ⟨w.heap.size, 0, none⟩ = some (.slice (some ⟨g0, o0, none⟩) 64 c0) ∧ w'.cell? ⟨w.heap.size, 1, none⟩ = some (.slice (some ⟨g1, o1, none⟩) 8 c1)) ∧ Bel W w') W := ⟨HC2.out, Bel.refl W⟩
  go_region_held3 (fun w' : World => (w'.cell? ⟨w.heap.size, 0, none⟩ = some (.slice (some ⟨g0, o0, none⟩) 64 c0) ∧ w'.cell? ⟨w.heap.size, 1, none⟩ = some (.slice (some ⟨g1, o1, none⟩) 8 c1)) ∧ Bel W w')
    (first | with_reducible assumption | (refine bel_two HC2.out ?_; first | exact (HB2.out _ (by with_reducible assumption)) | ((with_reducible refine Bel.drew ?_); exact (HB2.out _ (by with_reducible assumption))) | ((with_reducible refine Bel.drew ?_); exact Bel.refl _) | ((with_reducible refine Bel.on ?_ hb); first | exact (HB2.out _ (by with_reducible assumption)) | exact Bel.drew (HB2.out _ (by with_reducible assumption)) | exact Bel.drew (Bel.refl _))))
    (first
      | (go_at_call 92; refine (HT.out _ (HKA.out.bel (by first | exact (HB2.out _ (by with_reducible assumption)) | exact Bel.drew (Bel.refl _)))).mono ?_; rintro e w' ⟨rfl, hb⟩)
      | (go_at_call 74; refine (HS.out _ (HKA.out.bel (by first | exact (HB2.out _ (by with_reducible assumption)) | exact Bel.drew (Bel.refl _)))).mono ?_; rintro e w' ⟨g, cap, rfl, hl, hb⟩))
  have hb1 := (HB2.out w' (by with_reducible assumption)).b
  obtain ⟨w1, ew1⟩ : ∃ w1 : World, w1 = w' := ⟨_, rfl⟩
  subst ew1
  have hBw := HB0.out.trans (hb1.mono HB0.out.size)
  have hr1 : w1.heap[w.heap.size + 1]? = some (.cells #[.string ⟨#[]⟩, .string ⟨#[]⟩] 84) := by rw [hb1.block _ hlW]; exact HR0.out
  obtain ⟨b, o, c, ee, hlt, hcl⟩ := hl
  obtain ⟨⟨rfl, rfl⟩, rfl⟩ : (g = b ∧ 0 = o) ∧ cap = c := by simpa using ee
  have c0 : w1.cell? ⟨g, 0, none⟩ = some (.string A) := hcl 0 (by simp)
  have c1 : w1.cell? ⟨g, 1, none⟩ = some (.string B) := hcl 1 (by simp)
  have q0 := cell_regrown c0; have q1 := cell_regrown c1
  have HR1 := Lib.hid hr1; have HBW := Lib.hid hBw
  clear HT HS HB0 HR0 HB2 HC2 HKA hS hb1 hBw hr1 ee hcl c0 c1 e0 e1 hlW
  go_upto_region 2 with fail
  refine wp_region_last_below 7 _ (by kernel_rfl) rfl rfl rfl rfl (by kernel_rfl) (by kernel_rfl) ?_
  simp only [List.take_succ_cons, List.take_zero]
  iterate 7 (quiet_step (fail))
  refine wpQuiet_nil ?_
  intro _ hw'
  obtain ⟨⟨dq, osq⟩, hw''⟩ := hw'
  subst hw''
  have hb := below_regrown w1 dq osq
  have hR : w.heap.size + 1 < w1.heap.size := (Array.getElem?_eq_some_iff.1 HR1.out).1
  have hBW := HBW.out.trans (hb.mono HBW.out.size)
  have hr2 : (grow (redrawn w1 dq) osq).heap[w.heap.size + 1]? = some (.cells #[.string ⟨#[]⟩, .string ⟨#[]⟩] 84) := by rw [hb.block _ hR]; exact HR1.out
  clear q0 q1 hb hR HR1 HBW hlt
  generalize grow (redrawn w1 dq) osq = W1 at hBW hr2 ⊢
  have r0 : W1.cell? ⟨w.heap.size + 1, 0, none⟩ = some (.string ⟨#[]⟩) := by rw [cell_of_row _ _ _ _ _ _ hr2]; rfl
  have r1 : W1.cell? ⟨w.heap.size + 1, 1, none⟩ = some (.string ⟨#[]⟩) := by rw [cell_of_row _ _ _ _ _ _ hr2]; rfl
  have f0 := frozen_of_row W1 (w.heap.size + 1) 0 _ _ hr2
  have f1 := frozen_of_row W1 (w.heap.size + 1) 1 _ _ hr2
  have HSS := Lib.hid (store2 hr2 (.string A) (.string B)); have HBS := Lib.hid (below2 hBW (Nat.le_succ _) (.string A) (.string B))
  clear hr2 hBW
  go_wp2_with fail
  clear r0 r1 f0 f1
  generalize World.setCell (World.setCell W1 _ _) _ _ = V at HSS HBS ⊢
  have s0 : V.cell? ⟨w.heap.size + 1, 0, none⟩ = some (.string A) := by rw [cell_of_row _ _ _ _ _ _ HSS.out]; rfl
  have s1 : V.cell? ⟨w.heap.size + 1, 1, none⟩ = some (.string B) := by rw [cell_of_row _ _ _ _ _ _ HSS.out]; rfl
  refine bodyPost_ret (v := .agg #[.string A, .string B]) (by simp [results, Tryz.results60, go_sem, s0, s1]) rfl ⟨rfl, HBS.out⟩
end Go.Proofs.YthjlhcmdpeinpaaGreatDoor

/- Tables of kept keys in plain mathematics: what may be, a key put, found, taken away. -/
namespace Go.Proofs.YthjlhcmdpeinpaaGreatDoor
open Go.RowKit
set_option maxRecDepth 100000
/-- a kept key -/
structure Kk where
  r : ByteArray
  n : Nat
  k : ByteArray
  deriving DecidableEq
def sizedK (x : Kk) : Prop := x.r.size = 32 ∧ x.k.size = 32
instance (x : Kk) : Decidable (sizedK x) := inferInstanceAs (Decidable (_ ∧ _))
/-- is it that ratchet's, of that number? -/
def isK (r : ByteArray) (n : Nat) (x : Kk) : Bool := decide (x.r = r ∧ x.n = n)
/-- the place of a ratchet's number -/
def atK (l : List Kk) (r : ByteArray) (n : Nat) : Option Nat := l.findIdx? (isK r n)
/-- no two of the same ratchet and number -/
def aloneK : List Kk → Prop
  | [] => True
  | x :: l => (∀ y ∈ l, ¬ (x.r = y.r ∧ x.n = y.n)) ∧ aloneK l
structure rightK (l : List Kk) : Prop where
  few : l.length ≤ 20
  sized : ∀ x ∈ l, sizedK x
  alone : aloneK l
theorem atK_none {l : List Kk} {r : ByteArray} {n : Nat} : atK l r n = none ↔ ∀ x ∈ l, ¬ (x.r = r ∧ x.n = n) := by
  unfold atK
  rw [List.findIdx?_eq_none_iff]
  constructor
  · intro h x hx e
    have := h x hx
    simp [isK, e] at this
  · intro h x hx
    have := h x hx
    simp only [isK, decide_eq_false_iff_not]
    exact this
theorem aloneK_append {l m : List Kk} : aloneK (l ++ m) ↔ aloneK l ∧ aloneK m ∧ ∀ x ∈ l, ∀ y ∈ m, ¬ (x.r = y.r ∧ x.n = y.n) := by
  induction l with
  | nil => simp [aloneK]
  | cons a l ih =>
    rw [List.cons_append, aloneK, aloneK, ih]
    constructor
    · rintro ⟨h1, h2, h3, h4⟩
      refine ⟨⟨fun y hy => h1 y (List.mem_append_left _ hy), h2⟩, h3, fun x hx y hy => ?_⟩
      rcases List.mem_cons.1 hx with rfl | hx
      · exact h1 y (List.mem_append_right _ hy)
      · exact h4 x hx y hy
    · rintro ⟨⟨h1, h2⟩, h3, h4⟩
      refine ⟨fun y hy => ?_, h2, h3, fun x hx y hy => h4 x (List.mem_cons_of_mem _ hx) y hy⟩
      rcases List.mem_append.1 hy with hy | hy
      · exact h1 y hy
      · exact h4 a List.mem_cons_self y hy
end Go.Proofs.YthjlhcmdpeinpaaGreatDoor

/- Kept keys in memory: slices that can be read, slices of the call's own, appends. -/
namespace Go.Proofs.YthjlhcmdpeinpaaGreatDoor
open Go.RowKit Go.Sort
set_option maxRecDepth 100000
def k00 : Kk := ⟨⟨#[]⟩, 0, ⟨#[]⟩⟩
def kkv (p : Kk) : Value := .agg #[.string p.r, .int .u64 (p.n : Int), .string p.k]
/-- three cells that are a kept key -/
structure KkAt (w : World) (b o : Nat) (p : Kk) : Prop where
  c0 : w.cell? ⟨b, o, none⟩ = some (.string p.r)
  c1 : w.cell? ⟨b, o + 1, none⟩ = some (.int .u64 (p.n : Int))
  c2 : w.cell? ⟨b, o + 2, none⟩ = some (.string p.k)
theorem KkAt.on {w w' : World} {b o : Nat} {p : Kk} (h : KkAt w b o p) (hb : Below w.heap.size w w') : KkAt w' b o p := by
  have hlt := World.block_lt_of_cell? w _ h.c0
  exact ⟨by rw [hb.cell (p := ⟨b, o, none⟩) hlt]; exact h.c0, by rw [hb.cell (p := ⟨b, o + 1, none⟩) hlt]; exact h.c1, by rw [hb.cell (p := ⟨b, o + 2, none⟩) hlt]; exact h.c2⟩
theorem KkAt.below {w w' : World} {n b o : Nat} {p : Kk} (h : KkAt w b o p) (hb : Below n w w') (hB : b < n) : KkAt w' b o p :=
  ⟨by rw [hb.cell (p := ⟨b, o, none⟩) hB]; exact h.c0, by rw [hb.cell (p := ⟨b, o + 1, none⟩) hB]; exact h.c1, by rw [hb.cell (p := ⟨b, o + 2, none⟩) hB]; exact h.c2⟩
theorem KkAt.fresh (w : World) (p : Kk) (t : TypeId) : KkAt (w.alloc (.cells #[.string p.r, .int .u64 (p.n : Int), .string p.k] t)) w.heap.size 0 p := by
  have hH := heap_alloc_new w (.cells #[.string p.r, .int .u64 (p.n : Int), .string p.k] t)
  exact ⟨by rw [cell_of_row _ _ _ _ _ _ hH]; rfl, by rw [cell_of_row _ _ _ _ _ _ hH]; rfl, by rw [cell_of_row _ _ _ _ _ _ hH]; rfl⟩
/-- a slice of kept keys, nil or not, that reads as l -/
def KSl (w : World) (a : Option Addr) (l : List Kk) : Prop :=
  0 < l.length → ∃ b off : Nat, a = some ⟨b, off, none⟩ ∧ b < w.heap.size ∧ ∀ i, i < l.length → KkAt w b (off + i * 3) (l.getD i k00)
theorem KSl.on {w w' : World} {a : Option Addr} {l : List Kk} (h : KSl w a l) (hb : Below w.heap.size w w') : KSl w' a l := by
  intro h0
  obtain ⟨b, off, ha, hlt, hc⟩ := h h0
  exact ⟨b, off, ha, Nat.lt_of_lt_of_le hlt hb.size, fun i hi => (hc i hi).on hb⟩
theorem KSl.nil (w : World) (a : Option Addr) : KSl w a [] := fun h => absurd h (Nat.lt_irrefl 0)
theorem KSl.take {w : World} {a : Option Addr} {l : List Kk} (h : KSl w a l) (k : Nat) : KSl w a (l.take k) := by
  intro h0
  rw [List.length_take] at h0
  obtain ⟨b, off, ha, hlt, hc⟩ := h (by omega)
  refine ⟨b, off, ha, hlt, fun i hi => ?_⟩
  rw [List.length_take] at hi
  have e : (l.take k).getD i k00 = l.getD i k00 := by
    rw [List.getD_eq_getElem?_getD, List.getD_eq_getElem?_getD, List.getElem?_take, if_pos (by omega)]
  rw [e]; exact hc i (by omega)

def kcs (p : Kk) : List Value := [.string p.r, .int .u64 (p.n : Int), .string p.k]
def Kc (l : List Kk) : List Value := l.flatMap kcs
theorem Kc_cons (p : Kk) (l : List Kk) : Kc (p :: l) = kcs p ++ Kc l := by unfold Kc; rw [List.flatMap_cons]
theorem Kc_append (a b : List Kk) : Kc (a ++ b) = Kc a ++ Kc b := List.flatMap_append
theorem Kc_length (l : List Kk) : (Kc l).length = l.length * 3 := by
  induction l with
  | nil => rfl
  | cons p l ih => rw [Kc_cons, List.length_append, ih, List.length_cons]; simp [kcs]; omega
theorem Kc_get (l : List Kk) (i : Nat) (h : i < l.length) : (Kc l)[i * 3]? = some (.string (l.getD i k00).r) ∧ (Kc l)[i * 3 + 1]? = some (.int .u64 ((l.getD i k00).n : Int)) ∧ (Kc l)[i * 3 + 2]? = some (.string (l.getD i k00).k) := by
  induction l generalizing i with
  | nil => simp at h
  | cons p l ih =>
    rw [Kc_cons]
    rcases i with _ | i
    · simp [kcs]
    · have e : (i + 1) * 3 = (kcs p).length + i * 3 := by simp [kcs]; omega
      have := ih i (by simpa using h)
      rw [e]
      refine ⟨?_, ?_, ?_⟩
      · rw [List.getElem?_append_right (by omega), Nat.add_sub_cancel_left]; simpa using this.1
      · rw [show (kcs p).length + i * 3 + 1 = (kcs p).length + (i * 3 + 1) by omega, List.getElem?_append_right (by omega), Nat.add_sub_cancel_left]; simpa using this.2.1
      · rw [show (kcs p).length + i * 3 + 2 = (kcs p).length + (i * 3 + 2) by omega, List.getElem?_append_right (by omega), Nat.add_sub_cancel_left]; simpa using this.2.2
theorem Kc_one (l : List Kk) : ∀ u ∈ Kc l, u.oneCell' = true := by
  intro u hu
  unfold Kc at hu
  rw [List.mem_flatMap] at hu
  obtain ⟨p, -, hp⟩ := hu
  simp only [kcs, List.mem_cons, List.mem_nil_iff, or_false] at hp
  rcases hp with rfl | rfl | rfl <;> rfl
theorem Kc_at {w : World} {b off : Nat} {l : List Kk} (h : ∀ i, i < l.length → KkAt w b (off + i * 3) (l.getD i k00)) (j : Nat) (u : Value) (hu : (Kc l)[j]? = some u) : w.cell? ⟨b, off + j, none⟩ = some u := by
  have hj : j < l.length * 3 := by
    rw [← Kc_length]
    exact (List.getElem?_eq_some_iff.1 hu).1
  have hi : j / 3 < l.length := by omega
  obtain ⟨g0, g1, g2⟩ := Kc_get l (j / 3) hi
  have hp := h (j / 3) hi
  have h3 : j % 3 = 0 ∨ j % 3 = 1 ∨ j % 3 = 2 := by omega
  rcases h3 with h3 | h3 | h3
  · have e : j = j / 3 * 3 := by omega
    rw [e] at hu
    rw [g0] at hu
    cases hu
    have := hp.c0
    rw [← e] at this
    exact this
  · have e : j = j / 3 * 3 + 1 := by omega
    rw [e, g1] at hu
    cases hu
    have := hp.c1
    rw [Nat.add_assoc, ← e] at this
    exact this
  · have e : j = j / 3 * 3 + 2 := by omega
    rw [e, g2] at hu
    cases hu
    have := hp.c2
    rw [Nat.add_assoc, ← e] at this
    exact this
theorem infoKk : (Tryz.prog.info? 102).map (fun i => (i.zero, i.size, i.bytes)) = some (some (.agg #[.string ⟨#[]⟩, .int .u64 0, .string ⟨#[]⟩]), 3, 40) := by kernel_rfl
/-- a slice of kept keys of the call's own (blocks from base on) that reads as l -/
def OwnK (w : World) (base : Nat) (v : Value) (l : List Kk) : Prop := w.ownsRow base 102 3 v l.length (Kc l)
theorem OwnK.nil (w : World) (base : Nat) : OwnK w base (.slice none 0 0) [] := ⟨rfl, .inl ⟨rfl, rfl⟩⟩
theorem OwnK.alloc {w : World} {base : Nat} {v : Value} {l : List Kk} (h : OwnK w base v l) (o : Obj) : OwnK (w.alloc o) base v l := World.ownsRow.alloc h o
theorem OwnK.on {w w' : World} {base : Nat} {v : Value} {l : List Kk} (h : OwnK w base v l) (hb : Below w.heap.size w w') : OwnK w' base v l := by
  refine ⟨h.1, ?_⟩
  rcases h.2 with h2 | ⟨g, cap, cur, e, hg, hc, h3⟩
  · exact Or.inl h2
  · exact Or.inr ⟨g, cap, cur, e, hg, by rw [hb.block g (Array.getElem?_eq_some_iff.1 hc).1]; exact hc, h3⟩
theorem OwnK.empty (w : World) (base : Nat) (hb : base ≤ w.heap.size) : OwnK (w.alloc (.cells #[] 102)) base (.slice (some ⟨w.heap.size, 0, none⟩) 0 0) [] :=
  ⟨rfl, .inr ⟨w.heap.size, 0, #[], rfl, hb, heap_alloc_new w _, Nat.le_refl _, by unfold maxLen; omega, rfl, rfl⟩⟩
/-- it is a slice that can be read -/
theorem OwnK.ksl {w : World} {base : Nat} {v : Value} {l : List Kk} (h : OwnK w base v l) : ∃ (a : Option Addr) (c : Nat), v = .slice a l.length c ∧ l.length ≤ c ∧ KSl w a l := by
  rcases h.2 with ⟨rfl, h0⟩ | ⟨g, cap, cur, rfl, hg, hc, hcap, -⟩
  · refine ⟨none, 0, by rw [h0], by omega, fun hp => ?_⟩
    omega
  · refine ⟨some ⟨g, 0, none⟩, cap, rfl, hcap, fun _ => ⟨g, 0, rfl, (Array.getElem?_eq_some_iff.1 hc).1, fun i hi => ?_⟩⟩
    obtain ⟨g0, g1, g2⟩ := Kc_get l i hi
    have hcs := World.ownsRow.cells h (g := g) rfl
    have c0 := hcs _ _ g0
    have c1 := hcs _ _ g1
    have c2 := hcs _ _ g2
    rw [Addr.add_mid] at c0 c1 c2
    exact ⟨c0, by rw [Nat.add_assoc]; exact c1, by rw [Nat.add_assoc]; exact c2⟩
theorem OwnK.below {w w0 w' : World} {base : Nat} {v : Value} {l : List Kk} (h : OwnK w base v l) (hB : Below base w0 w) (hb : base ≤ w.heap.size) (hg : w.grownBy w' v.ownBlock) : Below base w0 w' :=
  hB.grown hg hb fun k hk => (World.ownsRow.lt h k hk).1
/-- what is no row of kept keys stands as it was -/
theorem OwnK.keeps {w w' : World} {base : Nat} {v : Value} {l : List Kk} (h : OwnK w base v l) (hg : w.grownBy w' v.ownBlock) (k : Nat) (cs : Array Value) (t : TypeId) (fr : Nat × Nat) (h1 : w.heap[k]? = some (.cells cs t fr)) (h2 : t ≠ 102) : w'.heap[k]? = some (.cells cs t fr) := by
  rw [hg.block k (Array.getElem?_eq_some_iff.1 h1).1 ?_]
  · exact h1
  · intro e
    rcases h.2 with ⟨rfl, -⟩ | ⟨g, cap, cur, rfl, -, hc, -⟩
    · cases e
    · cases e
      rw [h1] at hc
      cases hc
      exact h2 rfl
/-- append(own, keys...), whether those are none, or nil, or some -/
theorem run_append_ks (w : World) (ty : TypeId) (base : Nat) (v : Value) (l : List Kk) (b : Option Addr) (c : Nat) (m : List Kk) (hown : OwnK w base v l) (hq : KSl w b m) (hl : l.length + m.length ≤ 100000) (hbase : base ≤ w.heap.size) :
    ∃ v' w', (Builtin.append_ #[23, 23] ty #[v, .slice b m.length c]).run Tryz.prog w = .ok v' w' ∧ OwnK w' base v' (l ++ m) ∧ w.grownBy w' v.ownBlock := by
  obtain ⟨i0, hi, hz0, hz1, hz2⟩ := info_parts infoKk
  have hall : ∀ (ad : Addr) (news : List Value), b = some ad → news = Kc m → (∀ j u, news[j]? = some u → w.cell? (ad.add j) = some u) →
      ∃ v' w', (Builtin.append_ #[23, 23] ty #[v, .slice b m.length c]).run Tryz.prog w = .ok v' w' ∧ OwnK w' base v' (l ++ m) ∧ w.grownBy w' v.ownBlock := by
    rintro ad news rfl rfl hnews
    obtain ⟨v', w', hr, h2, h3, -⟩ := run_append_own (P := Tryz.prog) w base 23 ty 102 i0 (.agg #[.string ⟨#[]⟩, .int .u64 0, .string ⟨#[]⟩]) 3 40 Tryz.underlying23 hi hz0 hz1 hz2 rfl (by decide) v l.length (Kc l) hown ad m.length c (Kc m) (Kc_length m) hnews (Kc_one m) (by unfold maxLen; omega) (by omega) hbase
    refine ⟨v', w', hr, ?_, h3⟩
    unfold OwnK
    rw [List.length_append, Kc_append]
    exact h2
  by_cases h0 : 0 < m.length
  · obtain ⟨g, off, rfl, hlt, hc⟩ := hq h0
    exact hall _ _ rfl rfl fun j u hu => by rw [Addr.add_mid]; exact Kc_at hc j u hu
  · obtain rfl : m = [] := List.eq_nil_of_length_eq_zero (by omega)
    cases b with
    | some ad => exact hall ad [] rfl rfl (fun j u hu => by simp at hu)
    | none =>
      refine ⟨v, w, ?_, by rw [List.append_nil]; exact hown, ⟨rfl, rfl, rfl, Nat.le_refl _, fun _ _ _ => rfl⟩⟩
      rcases hown.2 with ⟨rfl, h0⟩ | ⟨g, cap, cur, rfl, hg, hc, hcap, -⟩
      · simp [Builtin.append_, run_underlying Tryz.underlying23, sizeOf, typeInfo, hi, Builtin.lenOf, Builtin.firstCells]
      · simp [Builtin.append_, run_underlying Tryz.underlying23, sizeOf, typeInfo, hi, Builtin.lenOf, Builtin.firstCells, loadCells, hcap, storeCells]
theorem append_ks {ops : Array Oper} {rest : List Oper} {o : Oper} {a : Act} {Q : Exit → Act → World → Prop} {w : World} (hgd : o.guard = none) (s x : Operand)
    (ho : o.op = .call { callee := .builtin .append, args := #[s, x], argTypes := #[23, 23] })
    (base : Nat) (v : Value) (l : List Kk) (b : Option Addr) (n c : Nat) (m : List Kk) (hn : n = m.length) (hs : a.eval s = v) (hx : a.eval x = .slice b n c) (hown : OwnK w base v l) (hq : KSl w b m) (hl : l.length + m.length ≤ 100000) (hbase : base ≤ w.heap.size)
    (h : ∀ v' w', OwnK w' base v' (l ++ m) → w.grownBy w' v.ownBlock → wpList Tryz.prog ops Q rest (a.put o.dst v') w') :
    wpList Tryz.prog ops Q (o :: rest) a w := by
  subst hn
  obtain ⟨v', w', hr, h2, h3⟩ := run_append_ks w o.type base v l b c m hown hq hl hbase
  refine wpList_plain hgd fun K hK => ?_
  unfold Oper.wp execOp
  simp only [ho, resolve, invoke, builtin, Sem.run_bind, Sem.run_pure, Result.andThen_ok, List.map_toArray, List.map_cons, List.map_nil, hs, hx, hr]
  exact hK _ _ (h v' w' h2 h3)
/-- one part that was laid alone -/
theorem KSl.one {w : World} {B : Nat} {p : Kk} (h : KkAt w B 0 p) : KSl w (some ⟨B, 0, none⟩) [p] := fun _ =>
  ⟨B, 0, rfl, World.block_lt_of_cell? w _ h.c0, fun i hi => by
    obtain rfl : i = 0 := by simpa using hi
    exact h⟩
theorem KSl.drop {w : World} {b off : Nat} {l : List Kk} (h : KSl w (some ⟨b, off, none⟩) l) (n : Nat) : KSl w (some ⟨b, off + n * 3, none⟩) (l.drop n) := by
  intro h0
  rw [List.length_drop] at h0
  obtain ⟨b', off', ha, hlt, hc⟩ := h (by omega)
  simp only [Option.some.injEq, Addr.mk.injEq, and_true] at ha
  obtain ⟨rfl, rfl⟩ := ha
  refine ⟨b, off + n * 3, rfl, hlt, fun i hi => ?_⟩
  rw [List.length_drop] at hi
  have e : (l.drop n).getD i k00 = l.getD (n + i) k00 := by simp [List.getD, List.getElem?_drop]
  rw [e, show off + n * 3 + i * 3 = off + (n + i) * 3 by omega]
  exact hc (n + i) (by omega)
end Go.Proofs.YthjlhcmdpeinpaaGreatDoor

/- Tables of kept keys: the place of a ratchet's number as a number, whether a table may be as a bool, and both element by element. -/
namespace Go.Proofs.YthjlhcmdpeinpaaGreatDoor
open Go.RowKit
set_option maxRecDepth 100000
/-- the place of a ratchet's number; -1: there is none -/
def atI (l : List Kk) (r : ByteArray) (n : Nat) : Int := match atK l r n with
  | some i => (i : Int)
  | none => -1
theorem atI_found (l : List Kk) (r : ByteArray) (n k : Nat) (hk : k < l.length) (h0 : ∀ j, j < k → isK r n (l.getD j k00) = false) (h1 : isK r n (l.getD k k00) = true) : atI l r n = (k : Int) := by
  have e : atK l r n = some k := by
    unfold atK
    rw [List.findIdx?_eq_some_iff_getElem]
    refine ⟨hk, by simpa [List.getD, hk] using h1, fun j hj => ?_⟩
    have := h0 j hj
    simpa [List.getD, show j < l.length by omega] using this
  unfold atI
  rw [e]
theorem atI_none (l : List Kk) (r : ByteArray) (n : Nat) (h0 : ∀ j, j < l.length → isK r n (l.getD j k00) = false) : atI l r n = -1 := by
  have e : atK l r n = none := by
    unfold atK
    rw [List.findIdx?_eq_none_iff]
    intro x hx
    obtain ⟨j, hj, rfl⟩ := List.getElem_of_mem hx
    have := h0 j hj
    simpa [List.getD, hj] using this
  unfold atI
  rw [e]
theorem atI_neg (l : List Kk) (r : ByteArray) (n : Nat) : 0 ≤ atI l r n ↔ atK l r n ≠ none := by
  unfold atI
  cases atK l r n <;> simp
/-- may a table be? -/
def goodAt (l : List Kk) (i : Nat) : Prop := sizedK (l.getD i k00) ∧ atK (l.take i) (l.getD i k00).r (l.getD i k00).n = none
instance (l : List Kk) (i : Nat) : Decidable (goodAt l i) := inferInstanceAs (Decidable (_ ∧ _))
theorem rightK_iff (l : List Kk) : rightK l ↔ l.length ≤ 20 ∧ ∀ i, i < l.length → goodAt l i := by
  have key : ∀ m : List Kk, (aloneK m ↔ ∀ i, i < m.length → atK (m.take i) (m.getD i k00).r (m.getD i k00).n = none) := by
    intro m
    have hsn : ∀ (n : Nat) (m : List Kk), m.length = n → (aloneK m ↔ ∀ i, i < m.length → atK (m.take i) (m.getD i k00).r (m.getD i k00).n = none) := by
      intro n
      induction n with
      | zero => intro m hm; obtain rfl := List.eq_nil_of_length_eq_zero hm; simp [aloneK]
      | succ n ih =>
        intro m hm
        have hne : m ≠ [] := by intro e; subst e; cases hm
        obtain ⟨m0, x, rfl⟩ : ∃ m0 x, m = m0 ++ [x] := ⟨m.dropLast, m.getLast hne, (List.dropLast_concat_getLast hne).symm⟩
        have hl0 : m0.length = n := by rw [List.length_append, List.length_singleton] at hm; omega
        rw [aloneK_append, ih m0 hl0]
        constructor
        · rintro ⟨h1, -, h3⟩ i hi
          rw [List.length_append, List.length_singleton] at hi
          by_cases hin : i < m0.length
          · have := h1 i hin
            rw [List.take_append_of_le_length (by omega)]
            simpa [List.getD, List.getElem?_append_left hin] using this
          · obtain rfl : i = m0.length := by omega
            rw [List.take_left' rfl]
            have e : (m0 ++ [x]).getD m0.length k00 = x := by simp [List.getD]
            rw [e, atK_none]
            exact fun y hy => fun ⟨e1, e2⟩ => h3 y hy x (List.mem_singleton.2 rfl) ⟨e1, e2⟩
        · intro h
          refine ⟨fun i hi => ?_, ⟨fun y hy => absurd hy List.not_mem_nil, trivial⟩, fun y hy z hz => ?_⟩
          · have := h i (by rw [List.length_append]; omega)
            rw [List.take_append_of_le_length (by omega)] at this
            simpa [List.getD, List.getElem?_append_left hi] using this
          · rw [List.mem_singleton.1 hz]
            have := h m0.length (by rw [List.length_append, List.length_singleton]; omega)
            rw [List.take_left' rfl] at this
            have e : (m0 ++ [x]).getD m0.length k00 = x := by simp [List.getD]
            rw [e, atK_none] at this
            exact this y hy
    exact hsn m.length m rfl
  constructor
  · rintro ⟨h1, h2, h3⟩
    refine ⟨h1, fun i hi => ⟨h2 _ ?_, (key l).1 h3 i hi⟩⟩
    have e : l.getD i k00 = l[i] := by simp [List.getD, hi]
    rw [e]; exact List.getElem_mem hi
  · rintro ⟨h1, h2⟩
    refine ⟨h1, fun x hx => ?_, (key l).2 fun i hi => (h2 i hi).2⟩
    obtain ⟨i, hi, rfl⟩ := List.getElem_of_mem hx
    have := (h2 i hi).1
    have e : l.getD i k00 = l[i] := by simp [List.getD, hi]
    rw [e] at this; exact this
instance (l : List Kk) : Decidable (rightK l) := decidable_of_iff _ (rightK_iff l).symm
end Go.Proofs.YthjlhcmdpeinpaaGreatDoor

/- Tables of kept keys in plain mathematics: a table filled, of a chain. -/
namespace Go.Proofs.YthjlhcmdpeinpaaGreatDoor
open Go.RowKit
set_option maxRecDepth 100000
/-- none of a ratchet's numbers is there -/
def freeK (l : List Kk) (r : ByteArray) (f m : Nat) : Prop := ∀ i, i < m → atK l r (f + i) = none
end Go.Proofs.YthjlhcmdpeinpaaGreatDoor

/- The reference 12: Sized, At, Same; the law's few. -/
namespace Go.Proofs.YthjlhcmdpeinpaaGreatDoor
open Go.RowKit
set_option maxRecDepth 100000
theorem str_eqK (s t : ByteArray) : (s.toList == t.toList) = decide (s = t) := by
  rw [Lib.toList_data, Lib.toList_data]
  by_cases h : s = t
  · subst h; simp
  · rw [decide_eq_false h, beq_eq_false_iff_ne]
    exact fun e => h (bl_inj e)
theorem nat_eqK (n m : Nat) : ((n : Int) == (m : Int)) = decide (n = m) := by
  by_cases h : n = m
  · subst h; simp
  · rw [decide_eq_false h, beq_eq_false_iff_ne]; omega
theorem below_dnK {w wr : World} (h : Below w.heap.size w wr) (o : Obj) : Below w.heap.size w (wr.alloc o) := h.alloc h.size o
set_option maxHeartbeats 400000 in
theorem sizedR_any (p : Kk) (w : World) :
    Calls Tryz.prog 57 #[kkv p] w fun e w' => e = .returned (.bool (decide (sizedK p))) ∧ Below w.heap.size w w' := by
  obtain ⟨r, n, k⟩ := p
  have hb : Below w.heap.size w (w.alloc (.cells #[.string r, .int .u64 (n : Int), .string k] 102)) := (Below.refl _ _).alloc (Nat.le_refl _) _
  have HB := Lib.hid hb
  clear hb
  unfold kkv
  simp only
  by_cases hr : r.size = 32
  · have q1 : ((r.size : Int) == 32) = true := by rw [hr]; rfl
    by_cases hk : k.size = 32
    · have q2 : ((k.size : Int) == 32) = true := by rw [hk]; rfl
      rw [show decide (sizedK ⟨r, n, k⟩) = true from decide_eq_true ⟨hr, hk⟩]
      clear hr hk
      go_enter Tryz.func57, Tryz.ntmps57
      go_wp2_with fail
      go_ret
      exact ⟨rfl, HB.out⟩
    · have q2 : ((k.size : Int) == 32) = false := by rw [beq_eq_false_iff_ne]; omega
      rw [show decide (sizedK ⟨r, n, k⟩) = false from decide_eq_false fun h => hk h.2]
      clear hr hk
      go_enter Tryz.func57, Tryz.ntmps57
      go_wp2_with fail
      go_ret
      exact ⟨rfl, HB.out⟩
  · have q1 : ((r.size : Int) == 32) = false := by rw [beq_eq_false_iff_ne]; omega
    rw [show decide (sizedK ⟨r, n, k⟩) = false from decide_eq_false fun h => hr h.1]
    clear hr
    go_enter Tryz.func57, Tryz.ntmps57
    go_wp2_with fail
    go_ret
    exact ⟨rfl, HB.out⟩
def AtRel (w : World) (l : List Kk) (r : ByteArray) (n : Nat) (i : Value) (wr : World) : Prop :=
  ∃ k : Nat, k ≤ l.length ∧ i = .int .i64 (k : Int) ∧ (∀ j, j < k → isK r n (l.getD j k00) = false) ∧ Below w.heap.size w wr
set_option maxHeartbeats 2000000 in
theorem atR_any (a : Option Addr) (c : Nat) (l : List Kk) (r : ByteArray) (n : Nat) (hl : l.length ≤ 1000) (w : World) (hp : KSl w a l) :
    Calls Tryz.prog 58 #[.slice a l.length c, .string r, .int .u64 (n : Int)] w fun e w' => e = .returned (.int .i64 (atI l r n)) ∧ Below w.heap.size w w' := by
  have HP := Lib.hid hp; have HL := Lib.hid hl
  clear hp hl
  go_enter Tryz.func58, Tryz.ntmps58
  go_wp2_with fail
  go_loopw [11] (fun i wr => AtRel w l r n i wr) (fun i _ => l.length - (intOf i).toNat)
  case atStart => exact ⟨0, Nat.zero_le _, rfl, fun j hj => absurd hj (Nat.not_lt_zero j), Below.refl _ _⟩
  case round =>
    obtain ⟨k, hk, rfl, hno, hB⟩ := hrel
    by_cases hlt : k < l.length
    · have h1 : (k : Int) < (l.length : Int) := by omega
      have h1k : (k : Int) < 1000 := by have := HL.out; omega
      obtain ⟨g, off, rfl, hbl, hc⟩ := HP.out (by omega)
      have hpt := (hc k hlt).below hB hbl
      have hf := fun h => atI_found l r n k hlt hno h
      have hn2 : isK r n (l.getD k k00) = false → ∀ j, j < k + 1 → isK r n (l.getD j k00) = false := fun h j hj => by
        by_cases e : j = k
        · subst e; exact h
        · exact hno j (by omega)
      obtain ⟨p, ep⟩ : ∃ p, l.getD k k00 = p := ⟨_, rfl⟩
      rw [ep] at hpt hf hn2
      obtain ⟨x, m, y⟩ := p
      obtain ⟨c0, c1, c2⟩ := hpt
      simp only at c0 c1 c2
      have q1 := str_eqK x r
      have q2 := nat_eqK m n
      have hB2 := below_dnK hB (.cells #[.string x, .int .u64 (m : Int), .string y] 102)
      have HB := Lib.hid hB2; have HF := Lib.hid hf; have HN := Lib.hid hn2
      clear hB hB2 hc hno ep hbl hf hn2
      by_cases e1 : x = r
      · rw [decide_eq_true e1] at q1
        by_cases e2 : m = n
        · rw [decide_eq_true e2] at q2
          have hh : isK r n ⟨x, m, y⟩ = true := by simp [isK, e1, e2]
          have HA := Lib.hid (HF.out hh)
          clear e1 e2 hh HN HF
          go_wp2_with fail
          go_ret
          exact ⟨by rw [HA.out]; rfl, HB.out⟩
        · rw [decide_eq_false e2] at q2
          have hh : isK r n ⟨x, m, y⟩ = false := by simp [isK, e2]
          have HA := Lib.hid (HN.out hh)
          clear e1 e2 hh HN HF
          go_wp2_with fail
          exact ⟨⟨k + 1, by omega, by simp, HA.out, HB.out⟩, by simp [intOf]; omega⟩
      · rw [decide_eq_false e1] at q1
        have hh : isK r n ⟨x, m, y⟩ = false := by simp [isK, e1]
        have HA := Lib.hid (HN.out hh)
        clear e1 hh HN HF
        go_wp2_with fail
        exact ⟨⟨k + 1, by omega, by simp, HA.out, HB.out⟩, by simp [intOf]; omega⟩
    · obtain rfl : k = l.length := by omega
      have hn : ¬ (l.length : Int) < (l.length : Int) := by omega
      have HA := Lib.hid (atI_none l r n hno); have HB := Lib.hid hB
      clear hB hno
      go_wp2_with fail
      go_ret
      exact ⟨by rw [HA.out]; rfl, HB.out⟩
end Go.Proofs.YthjlhcmdpeinpaaGreatDoor
