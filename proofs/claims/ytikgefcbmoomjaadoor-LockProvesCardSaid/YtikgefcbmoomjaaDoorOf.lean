/- The contract of lock's Open. -/
import Derived.Test.YtikgefcbmoomjaaDoorOd
namespace Go.Proofs.YtikgefcbmoomjaaDoor
open Go.RowKit Go.Sort
set_option maxRecDepth 100000
theorem slice_to (x b : ByteArray) (n : Nat) (hn : n ≤ x.size) (hb : x.extract 0 n = b) (W : World) : (Instr.slice 9 (.string x) none (some (.int .i64 (n : Int))) none).run Tryd.prog W = .ok (.string b) W := by
  have l1 : (n : Int) ≤ (x.size : Int) := by omega
  rw [← hb]
  clear hb hn
  go_simp
theorem slice_from (x g : ByteArray) (n : Nat) (hn : n ≤ x.size) (hg : x.extract n x.size = g) (W : World) : (Instr.slice 9 (.string x) (some (.int .i64 (n : Int))) none none).run Tryd.prog W = .ok (.string g) W := by
  have l1 : (n : Int) ≤ (x.size : Int) := by omega
  rw [← hg]
  clear hg hn
  go_simp

set_option maxHeartbeats 4000000 in
theorem Open_good (k h x : ByteArray) (hk : k.size = 32) (hh : h.size ≤ 1024) (hx : 32 ≤ x.size ∧ x.size ≤ 1056) (hc : tagOfL (tagkL (bl k)) (bl h) ((bl x).take (x.size - 32)) = (bl x).drop (x.size - 32)) (w : World) (hF : FirstAt w) (hK : KeysAt w) :
    Calls Tryd.prog 16 #[.string k, .string h, .string x] w fun e w' => e = .returned (.tuple #[.string (strL (xorC (hideL (bl k)) (nonL (bl k)) ((bl x).take (x.size - 32)))), .int .i64 0]) ∧ Below w.heap.size w w' := by
  have h1 := isKey_any k; have h2 := isText_any h; have h3 := isLocked_any x
  rw [decide_eq_true hk] at h1
  rw [decide_eq_true hh] at h2
  rw [decide_eq_true hx] at h3
  have H1 := Lib.hid h1; have H2 := Lib.hid h2; have H3 := Lib.hid h3
  obtain ⟨A, eA⟩ : ∃ A, strL (hideL (bl k)) = A := ⟨_, rfl⟩
  obtain ⟨B, eB⟩ : ∃ B, strL (tagkL (bl k)) = B := ⟨_, rfl⟩
  obtain ⟨D, eD⟩ : ∃ D, strL (nonL (bl k)) = D := ⟨_, rfl⟩
  have lA : A.size = 32 := by rw [← eA, strL_size, hideL_length]
  have lB : B.size = 32 := by rw [← eB, strL_size, tagkL_length]
  have lD : D.size = 12 := by rw [← eD, strL_size, nonL_length]
  have bA : hideL (bl k) = bl A := by rw [← eA, bl_strL]
  have bB : tagkL (bl k) = bl B := by rw [← eB, bl_strL]
  have bD : nonL (bl k) = bl D := by rw [← eD, bl_strL]
  have hko := keysOf_any k (by omega) w hF hK
  rw [eA, eB, eD] at hko
  obtain ⟨n, hn⟩ : ∃ n, x.size - 32 = n := ⟨_, rfl⟩
  have hn1 : (x.size : Int) - 32 = (n : Int) := by omega
  have hwn : IntKind.i64.wrap ((x.size : Int) - 32) = (n : Int) := by rw [hn1]; exact IntWalk.i64_in _ (by omega)
  obtain ⟨b, eb⟩ : ∃ b, x.extract 0 n = b := ⟨_, rfl⟩
  obtain ⟨g, eg⟩ : ∃ g, x.extract n x.size = g := ⟨_, rfl⟩
  have hbb : bl b = (bl x).take n := by rw [← eb, bl_extract, List.drop_zero]
  have hbg : bl g = (bl x).drop n := by rw [← eg, bl_extract, List.take_of_length_le (by rw [bl_length]; exact Nat.le_refl _)]
  have hbs : b.size = n := by rw [← bl_length, hbb, List.length_take, bl_length]; omega
  have hgs : g.size = 32 := by rw [← bl_length, hbg, List.length_drop, bl_length]; omega
  rw [hn, bB, ← hbb, ← hbg] at hc
  rw [bA, bD, hn, ← hbb]
  have hsl1 : ∀ W : World, (Instr.slice 9 (.string x) none (some (.int .i64 (n : Int))) none).run Tryd.prog W = .ok (.string b) W := slice_to x b n (by omega) eb
  have hsl2 : ∀ W : World, (Instr.slice 9 (.string x) (some (.int .i64 (n : Int))) none none).run Tryd.prog W = .ok (.string g) W := slice_from x g n (by omega) eg
  have htu := fun W => turned_any A B D b lA lD (by omega) W
  have htg := fun W p q => tagOf_any A B D h b (by omega) hh (by omega) W p q
  obtain ⟨S, eS⟩ : ∃ S, strL (tagOfL (bl B) (bl h) (bl b)) = S := ⟨_, rfl⟩
  have hSs : S.size = 32 := by rw [← eS, strL_size, tagOfL_length]
  rw [eS] at htg
  have hsm := samed_any g S (by unfold maxLen; omega) (by unfold maxLen; omega)
  have hd : decide (g = S) = true := decide_eq_true (bl_inj (by rw [← eS, bl_strL, hc]))
  rw [hd] at hsm
  obtain ⟨X, eX⟩ : ∃ X, strL (xorC (bl A) (bl D) (bl b)) = X := ⟨_, rfl⟩
  rw [eX] at htu ⊢
  have HKO := Lib.hid hko; have HTU := Lib.hid htu; have HTG := Lib.hid htg; have HF := Lib.hid hF; have HK := Lib.hid hK; have HSM := Lib.hid hsm
  clear h1 h2 h3 hko htu htg hsm hF hK hk hh hx eA eB eD eX eS lA lB lD bA bB bD hc hn hn1 eb eg hbb hbg hbs hgs hSs hd
  go_enter Tryd.func16, Tryd.ntmps16
  go_upto_region 3 with (first | (go_at_call 18; with_reducible refine (H1.out _).mono ?_; rintro e w' ⟨rfl, rfl⟩) | (go_at_call_of 20 (Value.string h); with_reducible refine (H2.out _).mono ?_; rintro e w' ⟨rfl, rfl⟩) | (go_at_call 27; with_reducible refine (H3.out _).mono ?_; rintro e w' ⟨rfl, rfl⟩))
  go_upto_region 5 with (go_at_call 19; refine HKO.out.mono ?_; rintro e w1 ⟨rfl, hb1⟩)
  have hb2 : Below w.heap.size w (w1.alloc (.cells #[.string A, .string B, .string D, .string h] 49)) := hb1.alloc hb1.size _
  have hcc : (w1.alloc (.cells #[.string A, .string B, .string D, .string h] 49)).heap[w1.heap.size]? = some (.cells #[.string A, .string B, .string D, .string h] 49) := heap_alloc_new _ _
  clear hb1 HKO H1 H2 H3
  generalize World.alloc w1 _ = W at hb2 hcc ⊢
  refine wp_region_quiet_below (by kernel_rfl) (by kernel_rfl) ?_
  iterate 8 (quiet_step (fail))
  refine wpQuiet_nil ?_
  intro _ hw'
  obtain ⟨⟨dq, osq⟩, hw''⟩ := hw'
  subst hw''
  have hb := below_regrown W dq osq
  have hbW := hb2.trans (hb.mono hb2.size)
  have hlt : w1.heap.size < W.heap.size := (Array.getElem?_eq_some_iff.1 hcc).1
  have hcV : (grow (redrawn W dq) osq).heap[w1.heap.size]? = some (.cells #[.string A, .string B, .string D, .string h] 49) := by rw [hb.block _ hlt]; exact hcc
  clear hb hlt hcc hb2 hsl1 hsl2 hwn
  generalize grow (redrawn W dq) osq = V at hbW hcV ⊢
  have e0 : V.cell? ⟨w1.heap.size, 0, none⟩ = some (.string A) := by rw [cell_of_row _ _ _ _ _ _ hcV]; rfl
  have e1 : V.cell? ⟨w1.heap.size, 1, none⟩ = some (.string B) := by rw [cell_of_row _ _ _ _ _ _ hcV]; rfl
  have e2 : V.cell? ⟨w1.heap.size, 2, none⟩ = some (.string D) := by rw [cell_of_row _ _ _ _ _ _ hcV]; rfl
  have e3 : V.cell? ⟨w1.heap.size, 3, none⟩ = some (.string h) := by rw [cell_of_row _ _ _ _ _ _ hcV]; rfl
  have htg2 := HTG.out V (HF.out.on hbW) (HK.out.on hbW)
  have HTG2 := Lib.hid htg2; have HBW := Lib.hid hbW; have HCV := Lib.hid hcV
  clear htg2 hbW hcV HTG HF HK
  go_wp2_with fail
  refine HTG2.out.mono ?_
  rintro e v2 ⟨rfl, hb3⟩
  have hbw2 := HBW.out.trans (hb3.mono HBW.out.size)
  have hlt : w1.heap.size < V.heap.size := (Array.getElem?_eq_some_iff.1 HCV.out).1
  have hcV2 : v2.heap[w1.heap.size]? = some (.cells #[.string A, .string B, .string D, .string h] 49) := by rw [hb3.block _ hlt]; exact HCV.out
  clear e0 e1 e2 e3 hb3 HBW HCV hlt HTG2
  have e0 : v2.cell? ⟨w1.heap.size, 0, none⟩ = some (.string A) := by rw [cell_of_row _ _ _ _ _ _ hcV2]; rfl
  have e1 : v2.cell? ⟨w1.heap.size, 1, none⟩ = some (.string B) := by rw [cell_of_row _ _ _ _ _ _ hcV2]; rfl
  have e2 : v2.cell? ⟨w1.heap.size, 2, none⟩ = some (.string D) := by rw [cell_of_row _ _ _ _ _ _ hcV2]; rfl
  clear hcV2
  have HBW := Lib.hid hbw2
  clear hbw2
  go_wp2_with fail
  refine (HSM.out _).mono ?_
  rintro e v3 ⟨rfl, rfl⟩
  go_wp2_with fail
  refine (HTU.out _).mono ?_
  rintro e v4 ⟨rfl, hb5⟩
  have hend := HBW.out.trans (hb5.mono HBW.out.size)
  clear e0 e1 e2 hb5 HBW HTU HSM
  go_wp2_with fail
  go_ret2
  exact ⟨rfl, hend⟩

set_option maxHeartbeats 4000000 in
theorem Open_not (k h x : ByteArray) (hk : k.size = 32) (hh : h.size ≤ 1024) (hx : 32 ≤ x.size ∧ x.size ≤ 1056) (hc : ¬ tagOfL (tagkL (bl k)) (bl h) ((bl x).take (x.size - 32)) = (bl x).drop (x.size - 32)) (w : World) (hF : FirstAt w) (hK : KeysAt w) :
    Calls Tryd.prog 16 #[.string k, .string h, .string x] w fun e w' => e = .returned (.tuple #[.string ⟨#[]⟩, .int .i64 3]) ∧ Below w.heap.size w w' := by
  have h1 := isKey_any k; have h2 := isText_any h; have h3 := isLocked_any x
  rw [decide_eq_true hk] at h1
  rw [decide_eq_true hh] at h2
  rw [decide_eq_true hx] at h3
  have H1 := Lib.hid h1; have H2 := Lib.hid h2; have H3 := Lib.hid h3
  obtain ⟨A, eA⟩ : ∃ A, strL (hideL (bl k)) = A := ⟨_, rfl⟩
  obtain ⟨B, eB⟩ : ∃ B, strL (tagkL (bl k)) = B := ⟨_, rfl⟩
  obtain ⟨D, eD⟩ : ∃ D, strL (nonL (bl k)) = D := ⟨_, rfl⟩
  have lA : A.size = 32 := by rw [← eA, strL_size, hideL_length]
  have lB : B.size = 32 := by rw [← eB, strL_size, tagkL_length]
  have lD : D.size = 12 := by rw [← eD, strL_size, nonL_length]
  have bA : hideL (bl k) = bl A := by rw [← eA, bl_strL]
  have bB : tagkL (bl k) = bl B := by rw [← eB, bl_strL]
  have bD : nonL (bl k) = bl D := by rw [← eD, bl_strL]
  have hko := keysOf_any k (by omega) w hF hK
  rw [eA, eB, eD] at hko
  obtain ⟨n, hn⟩ : ∃ n, x.size - 32 = n := ⟨_, rfl⟩
  have hn1 : (x.size : Int) - 32 = (n : Int) := by omega
  have hwn : IntKind.i64.wrap ((x.size : Int) - 32) = (n : Int) := by rw [hn1]; exact IntWalk.i64_in _ (by omega)
  obtain ⟨b, eb⟩ : ∃ b, x.extract 0 n = b := ⟨_, rfl⟩
  obtain ⟨g, eg⟩ : ∃ g, x.extract n x.size = g := ⟨_, rfl⟩
  have hbb : bl b = (bl x).take n := by rw [← eb, bl_extract, List.drop_zero]
  have hbg : bl g = (bl x).drop n := by rw [← eg, bl_extract, List.take_of_length_le (by rw [bl_length]; exact Nat.le_refl _)]
  have hbs : b.size = n := by rw [← bl_length, hbb, List.length_take, bl_length]; omega
  have hgs : g.size = 32 := by rw [← bl_length, hbg, List.length_drop, bl_length]; omega
  rw [hn, bB, ← hbb, ← hbg] at hc
  have hsl1 : ∀ W : World, (Instr.slice 9 (.string x) none (some (.int .i64 (n : Int))) none).run Tryd.prog W = .ok (.string b) W := slice_to x b n (by omega) eb
  have hsl2 : ∀ W : World, (Instr.slice 9 (.string x) (some (.int .i64 (n : Int))) none none).run Tryd.prog W = .ok (.string g) W := slice_from x g n (by omega) eg
  have htu := fun W => turned_any A B D b lA lD (by omega) W
  have htg := fun W p q => tagOf_any A B D h b (by omega) hh (by omega) W p q
  obtain ⟨S, eS⟩ : ∃ S, strL (tagOfL (bl B) (bl h) (bl b)) = S := ⟨_, rfl⟩
  have hSs : S.size = 32 := by rw [← eS, strL_size, tagOfL_length]
  rw [eS] at htg
  have hsm := samed_any g S (by unfold maxLen; omega) (by unfold maxLen; omega)
  have hd : decide (g = S) = false := decide_eq_false (fun e => hc (by rw [e, ← eS, bl_strL]))
  rw [hd] at hsm
  obtain ⟨X, eX⟩ : ∃ X, strL (xorC (bl A) (bl D) (bl b)) = X := ⟨_, rfl⟩
  rw [eX] at htu
  have HKO := Lib.hid hko; have HTU := Lib.hid htu; have HTG := Lib.hid htg; have HF := Lib.hid hF; have HK := Lib.hid hK; have HSM := Lib.hid hsm
  clear h1 h2 h3 hko htu htg hsm hF hK hk hh hx eA eB eD eX eS lA lB lD bA bB bD hc hn hn1 eb eg hbb hbg hbs hgs hSs hd
  go_enter Tryd.func16, Tryd.ntmps16
  go_upto_region 3 with (first | (go_at_call 18; with_reducible refine (H1.out _).mono ?_; rintro e w' ⟨rfl, rfl⟩) | (go_at_call_of 20 (Value.string h); with_reducible refine (H2.out _).mono ?_; rintro e w' ⟨rfl, rfl⟩) | (go_at_call 27; with_reducible refine (H3.out _).mono ?_; rintro e w' ⟨rfl, rfl⟩))
  go_upto_region 5 with (go_at_call 19; refine HKO.out.mono ?_; rintro e w1 ⟨rfl, hb1⟩)
  have hb2 : Below w.heap.size w (w1.alloc (.cells #[.string A, .string B, .string D, .string h] 49)) := hb1.alloc hb1.size _
  have hcc : (w1.alloc (.cells #[.string A, .string B, .string D, .string h] 49)).heap[w1.heap.size]? = some (.cells #[.string A, .string B, .string D, .string h] 49) := heap_alloc_new _ _
  clear hb1 HKO H1 H2 H3
  generalize World.alloc w1 _ = W at hb2 hcc ⊢
  refine wp_region_quiet_below (by kernel_rfl) (by kernel_rfl) ?_
  iterate 8 (quiet_step (fail))
  refine wpQuiet_nil ?_
  intro _ hw'
  obtain ⟨⟨dq, osq⟩, hw''⟩ := hw'
  subst hw''
  have hb := below_regrown W dq osq
  have hbW := hb2.trans (hb.mono hb2.size)
  have hlt : w1.heap.size < W.heap.size := (Array.getElem?_eq_some_iff.1 hcc).1
  have hcV : (grow (redrawn W dq) osq).heap[w1.heap.size]? = some (.cells #[.string A, .string B, .string D, .string h] 49) := by rw [hb.block _ hlt]; exact hcc
  clear hb hlt hcc hb2 hsl1 hsl2 hwn
  generalize grow (redrawn W dq) osq = V at hbW hcV ⊢
  have e0 : V.cell? ⟨w1.heap.size, 0, none⟩ = some (.string A) := by rw [cell_of_row _ _ _ _ _ _ hcV]; rfl
  have e1 : V.cell? ⟨w1.heap.size, 1, none⟩ = some (.string B) := by rw [cell_of_row _ _ _ _ _ _ hcV]; rfl
  have e2 : V.cell? ⟨w1.heap.size, 2, none⟩ = some (.string D) := by rw [cell_of_row _ _ _ _ _ _ hcV]; rfl
  have e3 : V.cell? ⟨w1.heap.size, 3, none⟩ = some (.string h) := by rw [cell_of_row _ _ _ _ _ _ hcV]; rfl
  have htg2 := HTG.out V (HF.out.on hbW) (HK.out.on hbW)
  have HTG2 := Lib.hid htg2; have HBW := Lib.hid hbW; have HCV := Lib.hid hcV
  clear htg2 hbW hcV HTG HF HK
  go_wp2_with fail
  refine HTG2.out.mono ?_
  rintro e v2 ⟨rfl, hb3⟩
  have hbw2 := HBW.out.trans (hb3.mono HBW.out.size)
  have hlt : w1.heap.size < V.heap.size := (Array.getElem?_eq_some_iff.1 HCV.out).1
  have hcV2 : v2.heap[w1.heap.size]? = some (.cells #[.string A, .string B, .string D, .string h] 49) := by rw [hb3.block _ hlt]; exact HCV.out
  clear e0 e1 e2 e3 hb3 HBW HCV hlt HTG2
  have e0 : v2.cell? ⟨w1.heap.size, 0, none⟩ = some (.string A) := by rw [cell_of_row _ _ _ _ _ _ hcV2]; rfl
  have e1 : v2.cell? ⟨w1.heap.size, 1, none⟩ = some (.string B) := by rw [cell_of_row _ _ _ _ _ _ hcV2]; rfl
  have e2 : v2.cell? ⟨w1.heap.size, 2, none⟩ = some (.string D) := by rw [cell_of_row _ _ _ _ _ _ hcV2]; rfl
  clear hcV2
  have HBW := Lib.hid hbw2
  clear hbw2
  go_wp2_with fail
  refine (HSM.out _).mono ?_
  rintro e v3 ⟨rfl, rfl⟩
  go_wp2_with fail
  go_ret2
  exact ⟨rfl, HBW.out⟩
end Go.Proofs.YtikgefcbmoomjaaDoor