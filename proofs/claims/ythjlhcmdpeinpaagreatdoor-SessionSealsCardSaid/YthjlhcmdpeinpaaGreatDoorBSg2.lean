/- The texts Jf, Oe, Og, one behind the other. -/
import Derived.Test.YthjlhcmdpeinpaaGreatDoorBSg1
import Derived.Test.YthjlhcmdpeinpaaGreatDoorGg9
import Derived.Test.YthjlhcmdpeinpaaGreatDoorBg13
import Derived.Test.YthjlhcmdpeinpaaGreatDoorBg11
/- The contracts of the reference's Stream and Xor. -/
namespace Go.Proofs.YthjlhcmdpeinpaaGreatDoor
open Go.RowKit
set_option maxRecDepth 100000
def StR (w : World) (k nc : List UInt8) (b : Nat) (v i : Value) (wr : World) : Prop :=
  ∃ j : Nat, j ≤ b ∧ i = .int .u32 ((j : Int) + 1) ∧ v = .string (strL (blocksC k nc j)) ∧ Below w.heap.size w wr
set_option maxHeartbeats 1000000 in
theorem Stream5_any (k nc : ByteArray) (hk : k.size = 32) (hn : nc.size = 12) (m : Nat) (hm : m ≤ 4096) (w : World) :
    Calls Tryz.prog 114 #[.string k, .string nc, .int .i64 (m : Int)] w fun e w' => e = .returned (.string (strL (streamC (bl k) (bl nc) m))) ∧ Below w.heap.size w w' := by
  obtain ⟨b, hb⟩ : ∃ b, (m + 63) / 64 = b := ⟨_, rfl⟩
  go_enter Tryz.func114, Tryz.ntmps114
  go_wp2_with fail
  go_loopw [7, 8] (StR w (bl k) (bl nc) b) (fun _ i _ => 200 - (intOf i).toNat)
  case atStart => exact ⟨0, by omega, rfl, rfl, Below.refl _ _⟩
  case round =>
    obtain ⟨j, hj, rfl, rfl, hB⟩ := hrel
    obtain ⟨S, eS⟩ : ∃ S, strL (blocksC (bl k) (bl nc) j) = S := ⟨_, rfl⟩
    have hSs : S.size = 64 * j := by rw [← eS, strL_size, blocksC_length]
    by_cases hlt : 64 * j < m
    · have h1 : (S.size : Int) < (m : Int) := by omega
      have hBk := Block5_any k nc (BitVec.ofNat 32 (j + 1)) hk hn
      have hcv : ((BitVec.ofNat 32 (j + 1)).toNat : Int) = (j : Int) + 1 := by rw [BitVec.toNat_ofNat]; omega
      rw [hcv] at hBk
      obtain ⟨R, eR⟩ : ∃ R, strL (blockC (bl k) (BitVec.ofNat 32 (j + 1)) (bl nc)) = R := ⟨_, rfl⟩
      have hRs : R.size = 64 := by rw [← eR, strL_size, blockC_length]
      rw [eR] at hBk
      obtain ⟨T, eT⟩ : ∃ T, S ++ R = T := ⟨_, rfl⟩
      have hT : strL (blocksC (bl k) (bl nc) (j + 1)) = T := by rw [← eT, ← eS, ← eR, strL_append]; rfl
      have hcat : ∀ W : World, (Op.stringOp .add S R).run Tryz.prog W = .ok (.string T) W := fun W => by rw [run_string_add_sum W _ _ (by omega), eT]
      have HBK := Lib.hid hBk; have HT := Lib.hid hT; have HB := Lib.hid hB
      rw [eS]
      clear hBk hT hB eS eR eT hRs hcv
      go_wp2_with fail
      refine (HBK.out _).mono ?_
      rintro e w1 ⟨rfl, hb1⟩
      have hB := HB.out.trans (hb1.mono HB.out.size)
      have HB1 := Lib.hid hB
      clear hb1 hB HB HBK
      go_wp2_with fail
      refine ⟨⟨j + 1, by omega, by simp, by rw [HT.out], HB1.out⟩, by simp [intOf]; omega⟩
    · have h1 : ¬ (S.size : Int) < (m : Int) := by omega
      have hjb : j = b := by omega
      have hfin : S.extract 0 m = strL (streamC (bl k) (bl nc) m) := bl_inj (by rw [bl_extract, List.drop_zero, ← eS, bl_strL, bl_strL]; exact streamC_of _ _ m j (by omega))
      have hsl : ∀ W : World, (Instr.slice 9 (.string S) none (some (.int .i64 (m : Int))) none).run Tryz.prog W = .ok (.string (strL (streamC (bl k) (bl nc) m))) W := by
        have l1 : (m : Int) ≤ (S.size : Int) := by omega
        clear h1 hSs eS
        intro W; rw [← hfin]; go_simp
      have HB := Lib.hid hB
      rw [eS]
      clear hB hfin eS
      go_wp2_with fail
      go_ret
      exact ⟨rfl, HB.out⟩

/-- the first k bytes of one, xor another's -/
theorem xorB_next (s t : List UInt8) (k : Nat) (hk : k < s.length) (hl : s.length = t.length) : (xorB s t).take (k + 1) = (xorB s t).take k ++ [s.getD k 0 ^^^ t.getD k 0] := by
  have hx : (xorB s t).length = s.length := xorB_length s t (by omega)
  rw [List.take_succ_eq_append_getElem (show k < (xorB s t).length by omega)]
  congr 2
  unfold xorB
  rw [List.getElem_zipWith]
  simp [List.getD, hk, show k < t.length by omega]
def schXor : List (Nat × Nat) := [(0, 0), (1, 0), (2, 0), (3, 0), (4, 0), (5, 0), (6, 0), (7, 0), (8, 2), (9, 2), (10, 2)]
def noOp5 : Oper := { dst := none, op := .move (.tmp 0), type := 0, pos := "", after := #[], guard := none }
theorem agg_u32_5 (w : World) : (isAgg 112).run Tryz.prog w = .ok false w := run_isAgg_plain Tryz.underlying112 rfl w
def X5R (w : World) (y : List UInt8) (m : Nat) (v i : Value) (wr : World) : Prop :=
  ∃ k g cap : Nat, k ≤ m ∧ i = .int .i64 (k : Int) ∧ v = .slice (some ⟨g, 0, none⟩) k cap ∧ Own wr w.heap.size v (y.take k) ∧ Below w.heap.size w wr
set_option maxHeartbeats 1000000 in
theorem Xor5_any (k5 nc x : ByteArray) (hk : k5.size = 32) (hn : nc.size = 12) (hx : x.size ≤ 4096) (w : World) :
    Calls Tryz.prog 77 #[.string k5, .string nc, .string x] w fun e w' => e = .returned (.string (strL (xorC (bl k5) (bl nc) (bl x)))) ∧ Below w.heap.size w w' := by
  have hS := Stream5_any k5 nc hk hn x.size hx
  obtain ⟨t, et⟩ : ∃ t, streamC (bl k5) (bl nc) x.size = t := ⟨_, rfl⟩
  have hlt : t.length = x.size := by rw [← et]; exact streamC_length _ _ _
  have hxor : xorC (bl k5) (bl nc) (bl x) = xorB (bl x) t := by rw [← et]; rfl
  obtain ⟨T, eT⟩ : ∃ T, strL t = T := ⟨_, rfl⟩
  have hTs : T.size = x.size := by rw [← eT, strL_size, hlt]
  have hbT : bl T = t := by rw [← eT, bl_strL]
  rw [et, eT] at hS
  rw [hxor]
  obtain ⟨y, ey⟩ : ∃ y, xorB (bl x) t = y := ⟨_, rfl⟩
  have hnx : ∀ k, k < x.size → y.take (k + 1) = y.take k ++ [(bl x).getD k 0 ^^^ (bl T).getD k 0] := by
    intro k hk
    rw [← ey, hbT]
    exact xorB_next _ _ k hk (by rw [hlt]; rfl)
  have hyl : y.length = x.size := by rw [← ey, xorB_length _ _ (by rw [hlt]; exact Nat.le_refl _)]; rfl
  rw [ey]
  have HS := Lib.hid hS; have HNX := Lib.hid hnx; have HYL := Lib.hid hyl; have HTS := Lib.hid hTs
  clear hS hnx hyl hTs hbT eT hxor hlt et ey
  go_enter Tryz.func77, Tryz.ntmps77
  go_wp2_with fail
  refine (HS.out _).mono ?_
  rintro e w1 ⟨rfl, hb1⟩
  have hE := Own.empty w1 w.heap.size hb1.size
  have hB := hb1.alloc hb1.size (.cells #[] 5)
  have HE := Lib.hid hE; have HB := Lib.hid hB
  clear hE hB hb1 HS
  go_wp2_with fail
  go_loopw [8, 9] (X5R w y x.size) (fun _ i _ => x.size - (intOf i).toNat)
  case atStart => exact ⟨0, _, _, by omega, rfl, rfl, by simpa using HE.out, HB.out⟩
  case round =>
    clear HE HB
    obtain ⟨k, g, cap, hkx, rfl, rfl, hO, hB⟩ := hrel
    have hsz := hB.size
    by_cases hlt : k < x.size
    · have h1 : (k : Int) < (x.size : Int) := by omega
      have h2 : k < T.size := by rw [HTS.out]; exact hlt
      have hix := str_index x (k : Int) k rfl hlt
      have hiT := str_index T (k : Int) k rfl h2
      have hst := HNX.out k hlt
      rw [bl_get x k hlt, bl_get T k h2] at hst
      obtain ⟨a, ea⟩ : ∃ a, x[k] = a := ⟨_, rfl⟩
      obtain ⟨b, eb⟩ : ∃ b, T[k] = b := ⟨_, rfl⟩
      simp only [ea] at hix hst
      simp only [eb] at hiT hst
      have hx8 := bits_xor8 a b
      obtain ⟨z, hz⟩ : ∃ z, a ^^^ b = z := ⟨_, rfl⟩
      rw [hz] at hst hx8
      have hlen : (y.take k).length = k := by rw [List.length_take, HYL.out]; omega
      obtain ⟨l, hl⟩ : ∃ l, y.take k = l := ⟨_, rfl⟩
      rw [hl] at hO hst hlen
      have HO := Lib.hid hO; have HST := Lib.hid hst; have HLEN := Lib.hid hlen; have HB := Lib.hid hB
      clear hO hst hlen hl ea eb hz hB
      go_wp2_with fail
      refine wp_region_sch 112 schXor noOp5 (by kernel_rfl) agg_u32_5 (by kernel_rfl) (by kernel_rfl) (by kernel_rfl) (by kernel_rfl) ?_
      simp only [pickS, schXor, List.map_cons, List.map_nil, List.getD_cons_succ, List.getD_cons_zero]
      iterate 8 (refine wpS_step (fun K hK => ?_); simp only [schStep]; go_simp; refine hK _ _ ?_; clear hK K)
      have hO : Own wr.drew w.heap.size (.slice (some ⟨g, 0, none⟩) k cap) l := HO.out
      have hB := HB.out.drew
      have hsz' : w.heap.size ≤ wr.drew.heap.size := hsz
      clear HO HB hix hiT hx8 hsz
      generalize wr.drew = W at hO hB hsz' ⊢
      have HO := Lib.hid hO; have HB := Lib.hid hB
      clear hO hB
      refine wpS_step (fun K hK => ?_)
      simp only [schStep]
      go_simp
      refine hK _ _ ?_
      clear hK K
      refine wpS_one #[] rfl ?_
      refine append_bytes rfl _ _ rfl w.heap.size (.slice (some ⟨g, 0, none⟩) k cap) l [z] W.heap.size rfl (by exact Own.alloc HO.out _) 1 rfl rfl (by omega) (lit_bytes W [z] _ _ rfl) (by rw [HLEN.out]; omega) (by simp; omega) ?_
      intro g' cap' w' hY hg
      have hB' := (show Own W w.heap.size (.slice (some ⟨g, 0, none⟩) k cap) l from HO.out).below HB.out hsz' hg
      rw [← HST.out, HLEN.out] at hY
      rw [HLEN.out]
      have HY := Lib.hid hY; have HB' := Lib.hid hB'
      clear hY hB' hg HO HB
      refine wpList_nil ⟨rfl, ?_⟩
      refine wpS_step (fun K hK => ?_)
      simp only [schStep]
      go_simp
      refine hK _ _ ?_
      clear hK K
      refine ⟨rfl, ?_⟩
      go_wp2_with fail
      exact ⟨⟨k + 1, g', cap', by omega, by simp, rfl, HY.out, HB'.out⟩, by simp [intOf]; omega⟩
    · obtain rfl : k = x.size := by omega
      rw [List.take_of_length_le (by rw [HYL.out]; exact Nat.le_refl _)] at hO
      have ht := hO.text HYL.out.symm
      have HB := Lib.hid hB
      clear hO hB
      go_wp2_with fail
      go_ret
      exact ⟨rfl, HB.out⟩
end Go.Proofs.YthjlhcmdpeinpaaGreatDoor

/- The reference 06: whether a key, a head and so many bytes may be; a message's keys; bytes and their tag. -/
namespace Go.Proofs.YthjlhcmdpeinpaaGreatDoor
open Go.RowKit Go.Sort
set_option maxRecDepth 100000
set_option maxHeartbeats 4000000 in
theorem refkeys_any (kv : Value) (k : ByteArray) (hk0 : k.size ≤ 1000000) (w : World) (hk : KAt w kv) :
    Calls Tryz.prog 75 #[kv, .string k] w fun e w' => e = .returned (.agg #[.string (strL (hideL (bl k))), .string (strL (tagkL (bl k))), .string (strL (nonL (bl k)))]) ∧ Below w.heap.size w w' := by
  have hKA := id hk
  obtain ⟨k0, k1, rfl, hK0, hK1⟩ := hk
  obtain ⟨g0, o0, c0, rfl, hg0, -⟩ := hK0
  obtain ⟨g1, o1, c1, rfl, hg1, -⟩ := hK1
  simp only [S8.l_length, keysL_length] at hKA ⊢
  have hb0 : Below w.heap.size w ((w.alloc (.cells #[.slice (some ⟨g0, o0, none⟩) 64 c0, .slice (some ⟨g1, o1, none⟩) 8 c1] 39)).alloc (.cells #[.string ⟨#[]⟩, .string ⟨#[]⟩, .string ⟨#[]⟩] 124)) := by go_grown
  have hc0 : ((w.alloc (.cells #[.slice (some ⟨g0, o0, none⟩) 64 c0, .slice (some ⟨g1, o1, none⟩) 8 c1] 39)).alloc (.cells #[.string ⟨#[]⟩, .string ⟨#[]⟩, .string ⟨#[]⟩] 124)).heap[w.heap.size]? = some (.cells #[.slice (some ⟨g0, o0, none⟩) 64 c0, .slice (some ⟨g1, o1, none⟩) 8 c1] 39) := heap_alloc2_old _ _ _
  have hr0 : ((w.alloc (.cells #[.slice (some ⟨g0, o0, none⟩) 64 c0, .slice (some ⟨g1, o1, none⟩) 8 c1] 39)).alloc (.cells #[.string ⟨#[]⟩, .string ⟨#[]⟩, .string ⟨#[]⟩] 124)).heap[w.heap.size + 1]? = some (.cells #[.string ⟨#[]⟩, .string ⟨#[]⟩, .string ⟨#[]⟩] 124) := heap_alloc2_new _ _ _
  have hKA0 := hKA.on hb0
  obtain ⟨W, hW⟩ : ∃ W, (w.alloc (.cells #[.slice (some ⟨g0, o0, none⟩) 64 c0, .slice (some ⟨g1, o1, none⟩) 8 c1] 39)).alloc (.cells #[.string ⟨#[]⟩, .string ⟨#[]⟩, .string ⟨#[]⟩] 124) = W := ⟨_, rfl⟩
  rw [hW] at hb0 hc0 hr0 hKA0
  have hs : Calls Tryz.prog 74 #[.agg #[.slice (some ⟨g0, o0, none⟩) 64 c0, .slice (some ⟨g1, o1, none⟩) 8 c1], .string k, .string ⟨#[108, 111, 99, 107]⟩, .int .i64 3] W fun e w' => ∃ g cap, e = .returned (.slice (some ⟨g, 0, none⟩) 3 cap) ∧ StrsAt w' (.slice (some ⟨g, 0, none⟩) 3 cap) (rowT (bl k) (bl lockW) 3) ∧ Below W.heap.size W w' :=
    refsplit_any _ k lockW 3 hk0 (by decide) (by omega) W hKA0
  have e0 : W.cell? ⟨w.heap.size, 0, none⟩ = some (.slice (some ⟨g0, o0, none⟩) 64 c0) := by rw [cell_of_row _ _ _ _ _ _ hc0]; rfl
  have e1 : W.cell? ⟨w.heap.size, 1, none⟩ = some (.slice (some ⟨g1, o1, none⟩) 8 c1) := by rw [cell_of_row _ _ _ _ _ _ hc0]; rfl
  have HS := Lib.hid hs; have HB0 := Lib.hid hb0; have HR0 := Lib.hid hr0; have HW := Lib.hid hW
  clear hs hb0 hr0 hc0 hKA hKA0 hW hk0
  go_enter Tryz.func75, Tryz.ntmps75
  go_upto_region 1 with fail
  rw [HW.out]
  have hlW : w.heap.size + 1 < W.heap.size := (Array.getElem?_eq_some_iff.1 HR0.out).1
  clear HW
  go_wp2_with fail
  refine HS.out.mono ?_
  rintro e w1 ⟨g, cap, rfl, hl, hb1⟩
  have hBw := HB0.out.trans (hb1.mono HB0.out.size)
  have hr1 : w1.heap[w.heap.size + 1]? = some (.cells #[.string ⟨#[]⟩, .string ⟨#[]⟩, .string ⟨#[]⟩] 124) := by rw [hb1.block _ hlW]; exact HR0.out
  obtain ⟨b, o, c, ee, hlt, hcl⟩ := hl
  obtain ⟨⟨rfl, rfl⟩, rfl⟩ : (g = b ∧ 0 = o) ∧ cap = c := by simpa [rowT] using ee
  have c0 := hcl 0 (by rw [rowT_length]; decide); have c1 := hcl 1 (by rw [rowT_length]; decide); have c2 := hcl 2 (by rw [rowT_length]; decide)
  obtain ⟨A, eA⟩ : ∃ A, strL (lastT (bl k) (bl lockW) 1) = A := ⟨_, rfl⟩
  obtain ⟨B, eB⟩ : ∃ B, strL (lastT (bl k) (bl lockW) 2) = B := ⟨_, rfl⟩
  obtain ⟨C, eC⟩ : ∃ C, strL (lastT (bl k) (bl lockW) 3) = C := ⟨_, rfl⟩
  have hrow : rowT (bl k) (bl lockW) 3 = [A, B, C] := by rw [← eA, ← eB, ← eC]; rfl
  rw [hrow] at c0 c1 c2
  replace c0 : w1.cell? ⟨g, 0, none⟩ = some (.string A) := c0
  replace c1 : w1.cell? ⟨g, 1, none⟩ = some (.string B) := c1
  replace c2 : w1.cell? ⟨g, 2, none⟩ = some (.string C) := c2
  have hCs : C.size = 32 := by rw [← eC, strL_size]; exact ofL_length _
  obtain ⟨D, eD⟩ : ∃ D, C.extract 0 12 = D := ⟨_, rfl⟩
  have hD : strL (nonL (bl k)) = D := bl_inj (by rw [← eD, bl_extract, List.drop_zero, ← eC, bl_strL, bl_strL]; rfl)
  have hsl := cut12 C D hCs eD
  have q0 := cell_regrown c0; have q1 := cell_regrown c1; have q2 := cell_regrown c2
  have HR1 := Lib.hid hr1; have HBW := Lib.hid hBw; have HD := Lib.hid hD; have HA := Lib.hid eA; have HBB := Lib.hid eB
  clear HS HB0 HR0 hb1 hBw hr1 ee hcl hrow eA eB eC eD hD c0 c1 c2 hCs e0 e1 hlW
  go_upto_region 2 with fail
  refine wp_region_last_below 11 _ (by kernel_rfl) rfl rfl rfl rfl (by kernel_rfl) (by kernel_rfl) ?_
  simp only [List.take_succ_cons, List.take_zero]
  iterate 11 (quiet_step (fail))
  refine wpQuiet_nil ?_
  intro _ hw'
  obtain ⟨⟨dq, osq⟩, hw''⟩ := hw'
  subst hw''
  have hb := below_regrown w1 dq osq
  have hR : w.heap.size + 1 < w1.heap.size := (Array.getElem?_eq_some_iff.1 HR1.out).1
  have hBW := HBW.out.trans (hb.mono HBW.out.size)
  have hr2 : (grow (redrawn w1 dq) osq).heap[w.heap.size + 1]? = some (.cells #[.string ⟨#[]⟩, .string ⟨#[]⟩, .string ⟨#[]⟩] 124) := by rw [hb.block _ hR]; exact HR1.out
  clear q0 q1 q2 hb hR HR1 HBW hsl hlt
  generalize grow (redrawn w1 dq) osq = W1 at hBW hr2 ⊢
  have r0 : W1.cell? ⟨w.heap.size + 1, 0, none⟩ = some (.string ⟨#[]⟩) := by rw [cell_of_row _ _ _ _ _ _ hr2]; rfl
  have r1 : W1.cell? ⟨w.heap.size + 1, 1, none⟩ = some (.string ⟨#[]⟩) := by rw [cell_of_row _ _ _ _ _ _ hr2]; rfl
  have r2 : W1.cell? ⟨w.heap.size + 1, 2, none⟩ = some (.string ⟨#[]⟩) := by rw [cell_of_row _ _ _ _ _ _ hr2]; rfl
  have f0 := frozen_of_row W1 (w.heap.size + 1) 0 _ _ hr2
  have f1 := frozen_of_row W1 (w.heap.size + 1) 1 _ _ hr2
  have f2 := frozen_of_row W1 (w.heap.size + 1) 2 _ _ hr2
  have hS := set3 ⟨r0, r1, r2⟩ (.string A) (.string B) (.string D)
  have hBS := below3 hBW (Nat.le_succ _) (.string A) (.string B) (.string D)
  have HSS := Lib.hid hS; have HBS := Lib.hid hBS
  clear hS hBS hr2 hBW
  go_wp2_with fail
  clear r0 r1 r2 f0 f1 f2
  generalize World.setCell (World.setCell (World.setCell W1 _ _) _ _) _ _ = V at HSS HBS ⊢
  obtain ⟨s0, s1, s2⟩ := HSS.out
  refine bodyPost_ret (v := .agg #[.string A, .string B, .string D]) (by simp [results, Tryz.results75, go_sem, s0, s1, s2]) rfl ⟨?_, HBS.out⟩
  unfold hideL tagkL
  rw [HA.out, HBB.out, HD.out]

set_option maxHeartbeats 4000000 in
theorem refagain_any (kv : Value) (k h b : ByteArray) (hk0 : k.size ≤ 1000000) (hh : h.size ≤ 1024) (hb : b.size ≤ 1100) (w : World) (hk : KAt w kv) :
    Calls Tryz.prog 76 #[kv, .string k, .string h, .string b] w fun e w' => e = .returned (.string (strL (againL (bl k) (bl h) (bl b)))) ∧ Below w.heap.size w w' := by
  have hKA := id hk
  obtain ⟨k0, k1, rfl, hK0, hK1⟩ := hk
  obtain ⟨g0, o0, c0, rfl, hg0, -⟩ := hK0
  obtain ⟨g1, o1, c1, rfl, hg1, -⟩ := hK1
  simp only [S8.l_length, keysL_length] at hKA ⊢
  have hb0 : Below w.heap.size w (w.alloc (.cells #[.slice (some ⟨g0, o0, none⟩) 64 c0, .slice (some ⟨g1, o1, none⟩) 8 c1] 39)) := by go_grown
  have hc0 : (w.alloc (.cells #[.slice (some ⟨g0, o0, none⟩) 64 c0, .slice (some ⟨g1, o1, none⟩) 8 c1] 39)).heap[w.heap.size]? = some (.cells #[.slice (some ⟨g0, o0, none⟩) 64 c0, .slice (some ⟨g1, o1, none⟩) 8 c1] 39) := heap_alloc_new _ _
  have hKA0 := hKA.on hb0
  obtain ⟨W, hW⟩ : ∃ W, w.alloc (.cells #[.slice (some ⟨g0, o0, none⟩) 64 c0, .slice (some ⟨g1, o1, none⟩) 8 c1] 39) = W := ⟨_, rfl⟩
  rw [hW] at hb0 hc0 hKA0
  obtain ⟨s, es⟩ : ∃ s, strL (sizeL h.size) = s := ⟨_, rfl⟩
  have h2t := two_text (UInt8.ofNat (h.size / 256)) (UInt8.ofNat h.size) _ _ (size_hi h.size hh) (size_lo h.size) W
  have h2t' : strL [UInt8.ofNat (h.size / 256), UInt8.ofNat h.size] = s := es
  rw [h2t'] at h2t
  have hss : s.size = 2 := by rw [← es, strL_size]; rfl
  have hsb : bl s = sizeL (bl h).length := by rw [← es, bl_strL, bl_length]
  obtain ⟨p, t, hcat1, hcat2, hns1, hns2, -, -, hps, hts, htb⟩ := cat_ex s h b (by omega)
  have hb1 : Below W.heap.size W (W.alloc (.cells #[.int .u8 ((h.size : Int) / 256), .int .u8 ((h.size : Int) % 256)] 5)) := by go_grown
  have ht := reftag_any (.agg #[.slice (some ⟨g0, o0, none⟩) 64 c0, .slice (some ⟨g1, o1, none⟩) 8 c1]) k t hk0 (by omega) _ (hKA0.on hb1)
  obtain ⟨S, eS⟩ : ∃ S, strL (tagL (bl k) (bl t)) = S := ⟨_, rfl⟩
  have hSs : S.size = 32 := by rw [← eS, strL_size]; exact ofL_length _
  have hfin : b ++ S = strL (againL (bl k) (bl h) (bl b)) := bl_inj (by rw [bl_append, bl_strL, ← eS, bl_strL, htb, hsb]; rfl)
  rw [eS] at ht
  have hns : (9223372036854775807 < b.size + S.size) = False := by simp; omega
  have hcat : ∀ W : World, (Op.stringOp .add b S).run Tryz.prog W = .ok (.string (b ++ S)) W := fun W => by rw [run_string_add_sum W _ _ (by omega)]
  have e0 : W.cell? ⟨w.heap.size, 0, none⟩ = some (.slice (some ⟨g0, o0, none⟩) 64 c0) := by rw [cell_of_row _ _ _ _ _ _ hc0]; rfl
  have e1 : W.cell? ⟨w.heap.size, 1, none⟩ = some (.slice (some ⟨g1, o1, none⟩) 8 c1) := by rw [cell_of_row _ _ _ _ _ _ hc0]; rfl
  have hbw := hb0.trans (hb1.mono hb0.size)
  have hwq : IntKind.i64.wrap ((h.size : Int).tdiv 256) = (h.size : Int) / 256 := by rw [Int.tdiv_eq_ediv_of_nonneg (by omega)]; exact IntWalk.i64_in _ (by omega)
  have hwm : IntKind.i64.wrap ((h.size : Int).tmod 256) = (h.size : Int) % 256 := by rw [Int.tmod_eq_emod_of_nonneg (by omega)]; exact IntWalk.i64_in _ (by omega)
  have HT := Lib.hid ht; have HFIN := Lib.hid hfin; have HBW := Lib.hid hbw; have HW := Lib.hid hW
  clear ht hfin hbw hW eS hSs hss hsb h2t' es hps hts htb hKA hKA0 hb0 hb1 hc0 hk0
  go_enter Tryz.func76, Tryz.ntmps76
  go_upto_region 1 with fail
  rw [HW.out]
  clear HW
  go_wp2_with fail
  refine HT.out.mono ?_
  rintro e w1 ⟨rfl, hb2⟩
  have hbb := HBW.out.trans (hb2.mono HBW.out.size)
  clear HT HBW hb2 h2t e0 e1
  go_wp2_with fail
  go_ret
  exact ⟨by rw [← HFIN.out]; rfl, hbb⟩
end Go.Proofs.YthjlhcmdpeinpaaGreatDoor

/- The reference 06's Lock and Open. -/
namespace Go.Proofs.YthjlhcmdpeinpaaGreatDoor
open Go.RowKit Go.Sort
set_option maxRecDepth 100000
set_option maxHeartbeats 4000000 in
theorem reflock_any (kv : Value) (k h x : ByteArray) (hks : k.size = 32) (hh : h.size ≤ 1024) (hx : x.size ≤ 1024) (w : World) (hk : KAt w kv) :
    Calls Tryz.prog 43 #[kv, .string k, .string h, .string x] w fun e w' => e = .returned (.string (strL (lockL (bl k) (bl h) (bl x)))) ∧ Below w.heap.size w w' := by
  have hKA := id hk
  obtain ⟨k0, k1, rfl, hK0, hK1⟩ := hk
  obtain ⟨g0, o0, c0, rfl, hg0, -⟩ := hK0
  obtain ⟨g1, o1, c1, rfl, hg1, -⟩ := hK1
  simp only [S8.l_length, keysL_length] at hKA ⊢
  have hb0 : Below w.heap.size w (w.alloc (.cells #[.slice (some ⟨g0, o0, none⟩) 64 c0, .slice (some ⟨g1, o1, none⟩) 8 c1] 39)) := by go_grown
  have hc0 : (w.alloc (.cells #[.slice (some ⟨g0, o0, none⟩) 64 c0, .slice (some ⟨g1, o1, none⟩) 8 c1] 39)).heap[w.heap.size]? = some (.cells #[.slice (some ⟨g0, o0, none⟩) 64 c0, .slice (some ⟨g1, o1, none⟩) 8 c1] 39) := heap_alloc_new _ _
  have hKA0 := hKA.on hb0
  obtain ⟨W, hW⟩ : ∃ W, w.alloc (.cells #[.slice (some ⟨g0, o0, none⟩) 64 c0, .slice (some ⟨g1, o1, none⟩) 8 c1] 39) = W := ⟨_, rfl⟩
  rw [hW] at hb0 hc0 hKA0
  obtain ⟨A, eA⟩ : ∃ A, strL (hideL (bl k)) = A := ⟨_, rfl⟩
  obtain ⟨B, eB⟩ : ∃ B, strL (tagkL (bl k)) = B := ⟨_, rfl⟩
  obtain ⟨D, eD⟩ : ∃ D, strL (nonL (bl k)) = D := ⟨_, rfl⟩
  have lA : A.size = 32 := by rw [← eA, strL_size, hideL_length]
  have lB : B.size = 32 := by rw [← eB, strL_size, tagkL_length]
  have lD : D.size = 12 := by rw [← eD, strL_size, nonL_length]
  have bA : hideL (bl k) = bl A := by rw [← eA, bl_strL]
  have bB : tagkL (bl k) = bl B := by rw [← eB, bl_strL]
  have bD : nonL (bl k) = bl D := by rw [← eD, bl_strL]
  have hko := refkeys_any _ k (by omega) W hKA0
  rw [eA, eB, eD] at hko
  obtain ⟨X, eX⟩ : ∃ X, strL (xorC (bl A) (bl D) (bl x)) = X := ⟨_, rfl⟩
  have hXs : X.size = x.size := by rw [← eX, strL_size, xorC_length]; rfl
  have hfin : strL (lockL (bl k) (bl h) (bl x)) = strL (againL (bl B) (bl h) (bl X)) := by unfold lockL; rw [bA, bB, bD, ← eX, bl_strL]
  have htu := fun W => Xor5_any A D x lA lD (by omega) W
  rw [eX] at htu
  have htg := fun W p => refagain_any (.agg #[.slice (some ⟨g0, o0, none⟩) 64 c0, .slice (some ⟨g1, o1, none⟩) 8 c1]) B h X (by omega) hh (by omega) W p
  rw [hfin]
  obtain ⟨S, eS⟩ : ∃ S, strL (againL (bl B) (bl h) (bl X)) = S := ⟨_, rfl⟩
  rw [eS] at htg ⊢
  have e0 : W.cell? ⟨w.heap.size, 0, none⟩ = some (.slice (some ⟨g0, o0, none⟩) 64 c0) := by rw [cell_of_row _ _ _ _ _ _ hc0]; rfl
  have e1 : W.cell? ⟨w.heap.size, 1, none⟩ = some (.slice (some ⟨g1, o1, none⟩) 8 c1) := by rw [cell_of_row _ _ _ _ _ _ hc0]; rfl
  have HKO := Lib.hid hko; have HTU := Lib.hid htu; have HTG := Lib.hid htg; have HB0 := Lib.hid hb0; have HKA := Lib.hid hKA0; have HW := Lib.hid hW; have HC := Lib.hid hc0
  clear hko htu htg hfin hb0 hKA0 hKA hW hc0 eA eB eD eX eS lA lB lD bA bB bD hXs hks hh hx
  go_enter Tryz.func43, Tryz.ntmps43
  go_upto_region 1 with fail
  rw [HW.out]
  have hlW : w.heap.size < W.heap.size := (Array.getElem?_eq_some_iff.1 HC.out).1
  clear HW
  go_upto_region 2 with (go_at_call 75; refine HKO.out.mono ?_; rintro e w1 ⟨rfl, hb1⟩)
  have hTW : (w1.alloc (.cells #[.string A, .string B, .string D] 124)).heap[w1.heap.size]? = some (.cells #[.string A, .string B, .string D] 124) := heap_alloc_new _ _
  have hb2 : Below W.heap.size W (w1.alloc (.cells #[.string A, .string B, .string D] 124)) := hb1.alloc hb1.size _
  obtain ⟨R, hR⟩ : ∃ R, w1.heap.size = R := ⟨_, rfl⟩
  rw [hR] at hTW ⊢
  clear e0 e1 hb1
  generalize World.alloc w1 _ = V at hb2 hTW ⊢
  have hcV : V.heap[w.heap.size]? = some (.cells #[.slice (some ⟨g0, o0, none⟩) 64 c0, .slice (some ⟨g1, o1, none⟩) 8 c1] 39) := by rw [hb2.block _ hlW]; exact HC.out
  have e0 : V.cell? ⟨w.heap.size, 0, none⟩ = some (.slice (some ⟨g0, o0, none⟩) 64 c0) := by rw [cell_of_row _ _ _ _ _ _ hcV]; rfl
  have e1 : V.cell? ⟨w.heap.size, 1, none⟩ = some (.slice (some ⟨g1, o1, none⟩) 8 c1) := by rw [cell_of_row _ _ _ _ _ _ hcV]; rfl
  have r0 : V.cell? ⟨R, 0, none⟩ = some (.string A) := by rw [cell_of_row _ _ _ _ _ _ hTW]; rfl
  have r1 : V.cell? ⟨R, 1, none⟩ = some (.string B) := by rw [cell_of_row _ _ _ _ _ _ hTW]; rfl
  have r2 : V.cell? ⟨R, 2, none⟩ = some (.string D) := by rw [cell_of_row _ _ _ _ _ _ hTW]; rfl
  have hKA2 := HKA.out.on hb2
  have hbV := HB0.out.trans (hb2.mono HB0.out.size)
  have htg2 := fun (d : Nat) (os : Array Obj) => HTG.out (grow (redrawn V d) os) (hKA2.on (below_regrown V d os))
  have p0 := cell_regrown e0; have p1 := cell_regrown e1
  have q0 := cell_regrown r0; have q1 := cell_regrown r1; have q2 := cell_regrown r2
  have HTG2 := Lib.hid htg2; have HBV := Lib.hid hbV
  clear e0 e1 r0 r1 r2 htg2 hbV hKA2 hcV hTW hb2 HKA HB0 HTG HC HKO
  refine wp_region_quiet_below (by kernel_rfl) (by kernel_rfl) ?_
  iterate 12 (quiet_step (first | (go_at_call 77; exact Calls.regrown_of (HTU.out _)) | (go_at_call 76; exact Calls.regrown_of (HTG2.out _ _))))
  refine wpQuiet_nil ?_
  intro _ hw'
  obtain ⟨⟨dq, osq⟩, hw''⟩ := hw'
  subst hw''
  have hb := below_regrown V dq osq
  have hbb := HBV.out.trans (hb.mono HBV.out.size)
  clear p0 p1 q0 q1 q2 hb HTG2 HTU HBV
  generalize grow (redrawn V dq) osq = V1 at hbb ⊢
  go_wp2_with fail
  go_ret
  exact ⟨rfl, hbb⟩

end Go.Proofs.YthjlhcmdpeinpaaGreatDoor
