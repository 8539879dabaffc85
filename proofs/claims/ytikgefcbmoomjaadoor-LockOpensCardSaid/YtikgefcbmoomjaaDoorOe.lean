/- The reference 06: whether a key, a head and so many bytes may be; a message's keys; bytes and their tag. -/
import Derived.Test.YtikgefcbmoomjaaDoorZj
import Derived.Test.YtikgefcbmoomjaaDoorOc
import Derived.Test.YtikgefcbmoomjaaDoorFrefe
namespace Go.Proofs.YtikgefcbmoomjaaDoor
open Go.RowKit Go.Sort
set_option maxRecDepth 100000
theorem May_any (k h : ByteArray) (n : Int) (w : World) :
    Calls Tryd.prog 11 #[.string k, .string h, .int .i64 n] w fun e w' => e = .returned (.bool (decide (k.size = 32 ∧ h.size ≤ 1024 ∧ 0 ≤ n ∧ n ≤ 1024))) ∧ w = w' := by
  by_cases a : k.size = 32
  · have b0 : ((k.size : Int) == 32) = true := by rw [a]; rfl
    by_cases b : h.size ≤ 1024
    · have b1 : (h.size : Int) ≤ 1024 := by omega
      by_cases c : 0 ≤ n
      · by_cases d : n ≤ 1024
        · rw [decide_eq_true ⟨a, b, c, d⟩]
          go_enter Tryd.func11, Tryd.ntmps11
          go_wp2
          go_ret
          exact ⟨rfl, rfl⟩
        · rw [decide_eq_false (fun h => d h.2.2.2)]
          go_enter Tryd.func11, Tryd.ntmps11
          go_wp2
          go_ret
          exact ⟨rfl, rfl⟩
      · rw [decide_eq_false (fun h => c h.2.2.1)]
        go_enter Tryd.func11, Tryd.ntmps11
        go_wp2
        go_ret
        exact ⟨rfl, rfl⟩
    · have b1 : ¬ (h.size : Int) ≤ 1024 := by omega
      rw [decide_eq_false (fun h => b h.2.1)]
      go_enter Tryd.func11, Tryd.ntmps11
      go_wp2
      go_ret
      exact ⟨rfl, rfl⟩
  · have b0 : ((k.size : Int) == 32) = false := by
      rw [Bool.eq_false_iff]; intro h; rw [beq_iff_eq] at h; omega
    rw [decide_eq_false (fun h => a h.1)]
    go_enter Tryd.func11, Tryd.ntmps11
    go_wp2
    go_ret
    exact ⟨rfl, rfl⟩

set_option maxHeartbeats 4000000 in
theorem refkeys_any (kv : Value) (k : ByteArray) (hk0 : k.size ≤ 1000000) (w : World) (hk : KAt w kv) :
    Calls Tryd.prog 12 #[kv, .string k] w fun e w' => e = .returned (.agg #[.string (strL (hideL (bl k))), .string (strL (tagkL (bl k))), .string (strL (nonL (bl k)))]) ∧ Below w.heap.size w w' := by
  have hKA := id hk
  obtain ⟨k0, k1, rfl, hK0, hK1⟩ := hk
  obtain ⟨g0, o0, c0, rfl, hg0, -⟩ := hK0
  obtain ⟨g1, o1, c1, rfl, hg1, -⟩ := hK1
  simp only [S8.l_length, keysL_length] at hKA ⊢
  have hb0 : Below w.heap.size w ((w.alloc (.cells #[.slice (some ⟨g0, o0, none⟩) 64 c0, .slice (some ⟨g1, o1, none⟩) 8 c1] 30)).alloc (.cells #[.string ⟨#[]⟩, .string ⟨#[]⟩, .string ⟨#[]⟩] 34)) := by go_grown
  have hc0 : ((w.alloc (.cells #[.slice (some ⟨g0, o0, none⟩) 64 c0, .slice (some ⟨g1, o1, none⟩) 8 c1] 30)).alloc (.cells #[.string ⟨#[]⟩, .string ⟨#[]⟩, .string ⟨#[]⟩] 34)).heap[w.heap.size]? = some (.cells #[.slice (some ⟨g0, o0, none⟩) 64 c0, .slice (some ⟨g1, o1, none⟩) 8 c1] 30) := heap_alloc2_old _ _ _
  have hr0 : ((w.alloc (.cells #[.slice (some ⟨g0, o0, none⟩) 64 c0, .slice (some ⟨g1, o1, none⟩) 8 c1] 30)).alloc (.cells #[.string ⟨#[]⟩, .string ⟨#[]⟩, .string ⟨#[]⟩] 34)).heap[w.heap.size + 1]? = some (.cells #[.string ⟨#[]⟩, .string ⟨#[]⟩, .string ⟨#[]⟩] 34) := heap_alloc2_new _ _ _
  have hKA0 := hKA.on hb0
  obtain ⟨W, hW⟩ : ∃ W, (w.alloc (.cells #[.slice (some ⟨g0, o0, none⟩) 64 c0, .slice (some ⟨g1, o1, none⟩) 8 c1] 30)).alloc (.cells #[.string ⟨#[]⟩, .string ⟨#[]⟩, .string ⟨#[]⟩] 34) = W := ⟨_, rfl⟩
  rw [hW] at hb0 hc0 hr0 hKA0
  have hs : Calls Tryd.prog 24 #[.agg #[.slice (some ⟨g0, o0, none⟩) 64 c0, .slice (some ⟨g1, o1, none⟩) 8 c1], .string k, .string ⟨#[108, 111, 99, 107]⟩, .int .i64 3] W fun e w' => ∃ g cap, e = .returned (.slice (some ⟨g, 0, none⟩) 3 cap) ∧ StrsAt w' (.slice (some ⟨g, 0, none⟩) 3 cap) (rowT (bl k) (bl lockW) 3) ∧ Below W.heap.size W w' :=
    refsplit_any _ k lockW 3 hk0 (by decide) (by omega) W hKA0
  have e0 : W.cell? ⟨w.heap.size, 0, none⟩ = some (.slice (some ⟨g0, o0, none⟩) 64 c0) := by rw [cell_of_row _ _ _ _ _ _ hc0]; rfl
  have e1 : W.cell? ⟨w.heap.size, 1, none⟩ = some (.slice (some ⟨g1, o1, none⟩) 8 c1) := by rw [cell_of_row _ _ _ _ _ _ hc0]; rfl
  have HS := Lib.hid hs; have HB0 := Lib.hid hb0; have HR0 := Lib.hid hr0; have HW := Lib.hid hW
  clear hs hb0 hr0 hc0 hKA hKA0 hW hk0
  go_enter Tryd.func12, Tryd.ntmps12
  go_upto_region 1 with fail
  rw [HW.out]
  have hlW : w.heap.size + 1 < W.heap.size := (Array.getElem?_eq_some_iff.1 HR0.out).1
  clear HW
  go_wp2_with fail
  refine HS.out.mono ?_
  rintro e w1 ⟨g, cap, rfl, hl, hb1⟩
  have hBw := HB0.out.trans (hb1.mono HB0.out.size)
  have hr1 : w1.heap[w.heap.size + 1]? = some (.cells #[.string ⟨#[]⟩, .string ⟨#[]⟩, .string ⟨#[]⟩] 34) := by rw [hb1.block _ hlW]; exact HR0.out
  obtain ⟨b, o, c, ee, hlt, hcl⟩ := hl
  obtain ⟨⟨rfl, rfl⟩, rfl⟩ : (g = b ∧ 0 = o) ∧ cap = c := by simpa [rowT] using ee
  have c0 := hcl 0 (by rw [rowT_length]; decide); have c1 := hcl 1 (by rw [rowT_length]; decide); have c2 := hcl 2 (by rw [rowT_length]; decide)
  obtain ⟨A, eA⟩ : ∃ A, strL (lastT (bl k) (bl lockW) 1) = A := ⟨_, rfl⟩
  obtain ⟨B, eB⟩ : ∃ B, strL (lastT (bl k) (bl lockW) 2) = B := ⟨_, rfl⟩
  obtain ⟨C, eC⟩ : ∃ C, strL (lastT (bl k) (bl lockW) 3) = C := ⟨_, rfl⟩
  have hrow : rowT (bl k) (bl lockW) 3 = [A, B, C] := by rw [← eA, ← eB, ← eC]; rfl
  rw [hrow] at c0 c1 c2
  replace c0 : w1.cell? ⟨g, 0, none⟩ = some (.string A) := c0
  replace c1 : w1.cell? ⟨g, 1, none⟩ = some (.string B) := c1
  replace c2 : w1.cell? ⟨g, 2, none⟩ = some (.string C) := c2
  have hCs : C.size = 32 := by rw [← eC, strL_size]; exact ofL_length _
  obtain ⟨D, eD⟩ : ∃ D, C.extract 0 12 = D := ⟨_, rfl⟩
  have hD : strL (nonL (bl k)) = D := bl_inj (by rw [← eD, bl_extract, List.drop_zero, ← eC, bl_strL, bl_strL]; rfl)
  have hsl := cut12 C D hCs eD
  have q0 := cell_regrown c0; have q1 := cell_regrown c1; have q2 := cell_regrown c2
  have HR1 := Lib.hid hr1; have HBW := Lib.hid hBw; have HD := Lib.hid hD; have HA := Lib.hid eA; have HBB := Lib.hid eB
  clear HS HB0 HR0 hb1 hBw hr1 ee hcl hrow eA eB eC eD hD c0 c1 c2 hCs e0 e1 hlW
  go_upto_region 2 with fail
  refine wp_region_last_below 11 _ (by kernel_rfl) rfl rfl rfl rfl (by kernel_rfl) (by kernel_rfl) ?_
  simp only [List.take_succ_cons, List.take_zero]
  iterate 11 (quiet_step (fail))
  refine wpQuiet_nil ?_
  intro _ hw'
  obtain ⟨⟨dq, osq⟩, hw''⟩ := hw'
  subst hw''
  have hb := below_regrown w1 dq osq
  have hR : w.heap.size + 1 < w1.heap.size := (Array.getElem?_eq_some_iff.1 HR1.out).1
  have hBW := HBW.out.trans (hb.mono HBW.out.size)
  have hr2 : (grow (redrawn w1 dq) osq).heap[w.heap.size + 1]? = some (.cells #[.string ⟨#[]⟩, .string ⟨#[]⟩, .string ⟨#[]⟩] 34) := by rw [hb.block _ hR]; exact HR1.out
  clear q0 q1 q2 hb hR HR1 HBW hsl hlt
  generalize grow (redrawn w1 dq) osq = W1 at hBW hr2 ⊢
  have r0 : W1.cell? ⟨w.heap.size + 1, 0, none⟩ = some (.string ⟨#[]⟩) := by rw [cell_of_row _ _ _ _ _ _ hr2]; rfl
  have r1 : W1.cell? ⟨w.heap.size + 1, 1, none⟩ = some (.string ⟨#[]⟩) := by rw [cell_of_row _ _ _ _ _ _ hr2]; rfl
  have r2 : W1.cell? ⟨w.heap.size + 1, 2, none⟩ = some (.string ⟨#[]⟩) := by rw [cell_of_row _ _ _ _ _ _ hr2]; rfl
  have f0 := frozen_of_row W1 (w.heap.size + 1) 0 _ _ hr2
  have f1 := frozen_of_row W1 (w.heap.size + 1) 1 _ _ hr2
  have f2 := frozen_of_row W1 (w.heap.size + 1) 2 _ _ hr2
  have hS := set3 ⟨r0, r1, r2⟩ (.string A) (.string B) (.string D)
  have hBS := below3 hBW (Nat.le_succ _) (.string A) (.string B) (.string D)
  have HSS := Lib.hid hS; have HBS := Lib.hid hBS
  clear hS hBS hr2 hBW
  go_wp2_with fail
  clear r0 r1 r2 f0 f1 f2
  generalize World.setCell (World.setCell (World.setCell W1 _ _) _ _) _ _ = V at HSS HBS ⊢
  obtain ⟨s0, s1, s2⟩ := HSS.out
  refine bodyPost_ret (v := .agg #[.string A, .string B, .string D]) (by simp [results, Tryd.results12, go_sem, s0, s1, s2]) rfl ⟨?_, HBS.out⟩
  unfold hideL tagkL
  rw [HA.out, HBB.out, HD.out]

set_option maxHeartbeats 4000000 in
theorem refagain_any (kv : Value) (k h b : ByteArray) (hk0 : k.size ≤ 1000000) (hh : h.size ≤ 1024) (hb : b.size ≤ 1100) (w : World) (hk : KAt w kv) :
    Calls Tryd.prog 15 #[kv, .string k, .string h, .string b] w fun e w' => e = .returned (.string (strL (againL (bl k) (bl h) (bl b)))) ∧ Below w.heap.size w w' := by
  have hKA := id hk
  obtain ⟨k0, k1, rfl, hK0, hK1⟩ := hk
  obtain ⟨g0, o0, c0, rfl, hg0, -⟩ := hK0
  obtain ⟨g1, o1, c1, rfl, hg1, -⟩ := hK1
  simp only [S8.l_length, keysL_length] at hKA ⊢
  have hb0 : Below w.heap.size w (w.alloc (.cells #[.slice (some ⟨g0, o0, none⟩) 64 c0, .slice (some ⟨g1, o1, none⟩) 8 c1] 30)) := by go_grown
  have hc0 : (w.alloc (.cells #[.slice (some ⟨g0, o0, none⟩) 64 c0, .slice (some ⟨g1, o1, none⟩) 8 c1] 30)).heap[w.heap.size]? = some (.cells #[.slice (some ⟨g0, o0, none⟩) 64 c0, .slice (some ⟨g1, o1, none⟩) 8 c1] 30) := heap_alloc_new _ _
  have hKA0 := hKA.on hb0
  obtain ⟨W, hW⟩ : ∃ W, w.alloc (.cells #[.slice (some ⟨g0, o0, none⟩) 64 c0, .slice (some ⟨g1, o1, none⟩) 8 c1] 30) = W := ⟨_, rfl⟩
  rw [hW] at hb0 hc0 hKA0
  obtain ⟨s, es⟩ : ∃ s, strL (sizeL h.size) = s := ⟨_, rfl⟩
  have h2t := two_text (UInt8.ofNat (h.size / 256)) (UInt8.ofNat h.size) _ _ (size_hi h.size hh) (size_lo h.size) W
  have h2t' : strL [UInt8.ofNat (h.size / 256), UInt8.ofNat h.size] = s := es
  rw [h2t'] at h2t
  have hss : s.size = 2 := by rw [← es, strL_size]; rfl
  have hsb : bl s = sizeL (bl h).length := by rw [← es, bl_strL, bl_length]
  obtain ⟨p, t, hcat1, hcat2, hns1, hns2, -, -, hps, hts, htb⟩ := cat_ex s h b (by omega)
  have hb1 : Below W.heap.size W (W.alloc (.cells #[.int .u8 ((h.size : Int) / 256), .int .u8 ((h.size : Int) % 256)] 5)) := by go_grown
  have ht := reftag_any (.agg #[.slice (some ⟨g0, o0, none⟩) 64 c0, .slice (some ⟨g1, o1, none⟩) 8 c1]) k t hk0 (by omega) _ (hKA0.on hb1)
  obtain ⟨S, eS⟩ : ∃ S, strL (tagL (bl k) (bl t)) = S := ⟨_, rfl⟩
  have hSs : S.size = 32 := by rw [← eS, strL_size]; exact ofL_length _
  have hfin : b ++ S = strL (againL (bl k) (bl h) (bl b)) := bl_inj (by rw [bl_append, bl_strL, ← eS, bl_strL, htb, hsb]; rfl)
  rw [eS] at ht
  have hns : (9223372036854775807 < b.size + S.size) = False := by simp; omega
  have hcat : ∀ W : World, (Op.stringOp .add b S).run Tryd.prog W = .ok (.string (b ++ S)) W := fun W => by rw [run_string_add_sum W _ _ (by omega)]
  have e0 : W.cell? ⟨w.heap.size, 0, none⟩ = some (.slice (some ⟨g0, o0, none⟩) 64 c0) := by rw [cell_of_row _ _ _ _ _ _ hc0]; rfl
  have e1 : W.cell? ⟨w.heap.size, 1, none⟩ = some (.slice (some ⟨g1, o1, none⟩) 8 c1) := by rw [cell_of_row _ _ _ _ _ _ hc0]; rfl
  have hbw := hb0.trans (hb1.mono hb0.size)
  have hwq : IntKind.i64.wrap ((h.size : Int).tdiv 256) = (h.size : Int) / 256 := by rw [Int.tdiv_eq_ediv_of_nonneg (by omega)]; exact IntWalk.i64_in _ (by omega)
  have hwm : IntKind.i64.wrap ((h.size : Int).tmod 256) = (h.size : Int) % 256 := by rw [Int.tmod_eq_emod_of_nonneg (by omega)]; exact IntWalk.i64_in _ (by omega)
  have HT := Lib.hid ht; have HFIN := Lib.hid hfin; have HBW := Lib.hid hbw; have HW := Lib.hid hW
  clear ht hfin hbw hW eS hSs hss hsb h2t' es hps hts htb hKA hKA0 hb0 hb1 hc0 hk0
  go_enter Tryd.func15, Tryd.ntmps15
  go_upto_region 1 with fail
  rw [HW.out]
  clear HW
  go_wp2_with fail
  refine HT.out.mono ?_
  rintro e w1 ⟨rfl, hb2⟩
  have hbb := HBW.out.trans (hb2.mono HBW.out.size)
  clear HT HBW hb2 h2t e0 e1
  go_wp2_with fail
  go_ret
  exact ⟨by rw [← HFIN.out]; rfl, hbb⟩
end Go.Proofs.YtikgefcbmoomjaaDoor