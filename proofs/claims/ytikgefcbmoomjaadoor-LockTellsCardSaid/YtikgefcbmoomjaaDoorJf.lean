/- The contracts of the reference's Stream and Xor. -/
import Derived.Test.YtikgefcbmoomjaaDoorJe
import Derived.Test.YtikgefcbmoomjaaDoorQs
namespace Go.Proofs.YtikgefcbmoomjaaDoor
open Go.RowKit
set_option maxRecDepth 100000
def StR (w : World) (k nc : List UInt8) (b : Nat) (v i : Value) (wr : World) : Prop :=
  ∃ j : Nat, j ≤ b ∧ i = .int .u32 ((j : Int) + 1) ∧ v = .string (strL (blocksC k nc j)) ∧ Below w.heap.size w wr
set_option maxHeartbeats 1000000 in
theorem Stream5_any (k nc : ByteArray) (hk : k.size = 32) (hn : nc.size = 12) (m : Nat) (hm : m ≤ 4096) (w : World) :
    Calls Tryd.prog 35 #[.string k, .string nc, .int .i64 (m : Int)] w fun e w' => e = .returned (.string (strL (streamC (bl k) (bl nc) m))) ∧ Below w.heap.size w w' := by
  obtain ⟨b, hb⟩ : ∃ b, (m + 63) / 64 = b := ⟨_, rfl⟩
  go_enter Tryd.func35, Tryd.ntmps35
  go_wp2_with fail
  go_loopw [7, 8] (StR w (bl k) (bl nc) b) (fun _ i _ => 200 - (intOf i).toNat)
  case atStart => exact ⟨0, by omega, rfl, rfl, Below.refl _ _⟩
  case round =>
    obtain ⟨j, hj, rfl, rfl, hB⟩ := hrel
    obtain ⟨S, eS⟩ : ∃ S, strL (blocksC (bl k) (bl nc) j) = S := ⟨_, rfl⟩
    have hSs : S.size = 64 * j := by rw [← eS, strL_size, blocksC_length]
    by_cases hlt : 64 * j < m
    · have h1 : (S.size : Int) < (m : Int) := by omega
      have hBk := Block5_any k nc (BitVec.ofNat 32 (j + 1)) hk hn
      have hcv : ((BitVec.ofNat 32 (j + 1)).toNat : Int) = (j : Int) + 1 := by rw [BitVec.toNat_ofNat]; omega
      rw [hcv] at hBk
      obtain ⟨R, eR⟩ : ∃ R, strL (blockC (bl k) (BitVec.ofNat 32 (j + 1)) (bl nc)) = R := ⟨_, rfl⟩
      have hRs : R.size = 64 := by rw [← eR, strL_size, blockC_length]
      rw [eR] at hBk
      obtain ⟨T, eT⟩ : ∃ T, S ++ R = T := ⟨_, rfl⟩
      have hT : strL (blocksC (bl k) (bl nc) (j + 1)) = T := by rw [← eT, ← eS, ← eR, strL_append]; rfl
      have hcat : ∀ W : World, (Op.stringOp .add S R).run Tryd.prog W = .ok (.string T) W := fun W => by rw [run_string_add_sum W _ _ (by omega), eT]
      have HBK := Lib.hid hBk; have HT := Lib.hid hT; have HB := Lib.hid hB
      rw [eS]
      clear hBk hT hB eS eR eT hRs hcv
      go_wp2_with fail
      refine (HBK.out _).mono ?_
      rintro e w1 ⟨rfl, hb1⟩
      have hB := HB.out.trans (hb1.mono HB.out.size)
      have HB1 := Lib.hid hB
      clear hb1 hB HB HBK
      go_wp2_with fail
      refine ⟨⟨j + 1, by omega, by simp, by rw [HT.out], HB1.out⟩, by simp [intOf]; omega⟩
    · have h1 : ¬ (S.size : Int) < (m : Int) := by omega
      have hjb : j = b := by omega
      have hfin : S.extract 0 m = strL (streamC (bl k) (bl nc) m) := bl_inj (by rw [bl_extract, List.drop_zero, ← eS, bl_strL, bl_strL]; exact streamC_of _ _ m j (by omega))
      have hsl : ∀ W : World, (Instr.slice 9 (.string S) none (some (.int .i64 (m : Int))) none).run Tryd.prog W = .ok (.string (strL (streamC (bl k) (bl nc) m))) W := by
        have l1 : (m : Int) ≤ (S.size : Int) := by omega
        clear h1 hSs eS
        intro W; rw [← hfin]; go_simp
      have HB := Lib.hid hB
      rw [eS]
      clear hB hfin eS
      go_wp2_with fail
      go_ret
      exact ⟨rfl, HB.out⟩

/-- the first k bytes of one, xor another's -/
theorem xorB_next (s t : List UInt8) (k : Nat) (hk : k < s.length) (hl : s.length = t.length) : (xorB s t).take (k + 1) = (xorB s t).take k ++ [s.getD k 0 ^^^ t.getD k 0] := by
  have hx : (xorB s t).length = s.length := xorB_length s t (by omega)
  rw [List.take_succ_eq_append_getElem (show k < (xorB s t).length by omega)]
  congr 2
  unfold xorB
  rw [List.getElem_zipWith]
  simp [List.getD, hk, show k < t.length by omega]
def schXor : List (Nat × Nat) := [(0, 0), (1, 0), (2, 0), (3, 0), (4, 0), (5, 0), (6, 0), (7, 0), (8, 2), (9, 2), (10, 2)]
def noOp5 : Oper := { dst := none, op := .move (.tmp 0), type := 0, pos := "", after := #[], guard := none }
theorem agg_u32_5 (w : World) : (isAgg 61).run Tryd.prog w = .ok false w := run_isAgg_plain Tryd.underlying61 rfl w
def X5R (w : World) (y : List UInt8) (m : Nat) (v i : Value) (wr : World) : Prop :=
  ∃ k g cap : Nat, k ≤ m ∧ i = .int .i64 (k : Int) ∧ v = .slice (some ⟨g, 0, none⟩) k cap ∧ Own wr w.heap.size v (y.take k) ∧ Below w.heap.size w wr
set_option maxHeartbeats 1000000 in
theorem Xor5_any (k5 nc x : ByteArray) (hk : k5.size = 32) (hn : nc.size = 12) (hx : x.size ≤ 4096) (w : World) :
    Calls Tryd.prog 25 #[.string k5, .string nc, .string x] w fun e w' => e = .returned (.string (strL (xorC (bl k5) (bl nc) (bl x)))) ∧ Below w.heap.size w w' := by
  have hS := Stream5_any k5 nc hk hn x.size hx
  obtain ⟨t, et⟩ : ∃ t, streamC (bl k5) (bl nc) x.size = t := ⟨_, rfl⟩
  have hlt : t.length = x.size := by rw [← et]; exact streamC_length _ _ _
  have hxor : xorC (bl k5) (bl nc) (bl x) = xorB (bl x) t := by rw [← et]; rfl
  obtain ⟨T, eT⟩ : ∃ T, strL t = T := ⟨_, rfl⟩
  have hTs : T.size = x.size := by rw [← eT, strL_size, hlt]
  have hbT : bl T = t := by rw [← eT, bl_strL]
  rw [et, eT] at hS
  rw [hxor]
  obtain ⟨y, ey⟩ : ∃ y, xorB (bl x) t = y := ⟨_, rfl⟩
  have hnx : ∀ k, k < x.size → y.take (k + 1) = y.take k ++ [(bl x).getD k 0 ^^^ (bl T).getD k 0] := by
    intro k hk
    rw [← ey, hbT]
    exact xorB_next _ _ k hk (by rw [hlt]; rfl)
  have hyl : y.length = x.size := by rw [← ey, xorB_length _ _ (by rw [hlt]; exact Nat.le_refl _)]; rfl
  rw [ey]
  have HS := Lib.hid hS; have HNX := Lib.hid hnx; have HYL := Lib.hid hyl; have HTS := Lib.hid hTs
  clear hS hnx hyl hTs hbT eT hxor hlt et ey
  go_enter Tryd.func25, Tryd.ntmps25
  go_wp2_with fail
  refine (HS.out _).mono ?_
  rintro e w1 ⟨rfl, hb1⟩
  have hE := Own.empty w1 w.heap.size hb1.size
  have hB := hb1.alloc hb1.size (.cells #[] 5)
  have HE := Lib.hid hE; have HB := Lib.hid hB
  clear hE hB hb1 HS
  go_wp2_with fail
  go_loopw [8, 9] (X5R w y x.size) (fun _ i _ => x.size - (intOf i).toNat)
  case atStart => exact ⟨0, _, _, by omega, rfl, rfl, by simpa using HE.out, HB.out⟩
  case round =>
    clear HE HB
    obtain ⟨k, g, cap, hkx, rfl, rfl, hO, hB⟩ := hrel
    have hsz := hB.size
    by_cases hlt : k < x.size
    · have h1 : (k : Int) < (x.size : Int) := by omega
      have h2 : k < T.size := by rw [HTS.out]; exact hlt
      have hix := str_index x (k : Int) k rfl hlt
      have hiT := str_index T (k : Int) k rfl h2
      have hst := HNX.out k hlt
      rw [bl_get x k hlt, bl_get T k h2] at hst
      obtain ⟨a, ea⟩ : ∃ a, x[k] = a := ⟨_, rfl⟩
      obtain ⟨b, eb⟩ : ∃ b, T[k] = b := ⟨_, rfl⟩
      simp only [ea] at hix hst
      simp only [eb] at hiT hst
      have hx8 := bits_xor8 a b
      obtain ⟨z, hz⟩ : ∃ z, a ^^^ b = z := ⟨_, rfl⟩
      rw [hz] at hst hx8
      have hlen : (y.take k).length = k := by rw [List.length_take, HYL.out]; omega
      obtain ⟨l, hl⟩ : ∃ l, y.take k = l := ⟨_, rfl⟩
      rw [hl] at hO hst hlen
      have HO := Lib.hid hO; have HST := Lib.hid hst; have HLEN := Lib.hid hlen; have HB := Lib.hid hB
      clear hO hst hlen hl ea eb hz hB
      go_wp2_with fail
      refine wp_region_sch 61 schXor noOp5 (by kernel_rfl) agg_u32_5 (by kernel_rfl) (by kernel_rfl) (by kernel_rfl) (by kernel_rfl) ?_
      simp only [pickS, schXor, List.map_cons, List.map_nil, List.getD_cons_succ, List.getD_cons_zero]
      iterate 8 (refine wpS_step (fun K hK => ?_); simp only [schStep]; go_simp; refine hK _ _ ?_; clear hK K)
      have hO : Own wr.drew w.heap.size (.slice (some ⟨g, 0, none⟩) k cap) l := HO.out
      have hB := HB.out.drew
      have hsz' : w.heap.size ≤ wr.drew.heap.size := hsz
      clear HO HB hix hiT hx8 hsz
      generalize wr.drew = W at hO hB hsz' ⊢
      have HO := Lib.hid hO; have HB := Lib.hid hB
      clear hO hB
      refine wpS_step (fun K hK => ?_)
      simp only [schStep]
      go_simp
      refine hK _ _ ?_
      clear hK K
      refine wpS_one #[] rfl ?_
      refine append_bytes rfl _ _ rfl w.heap.size (.slice (some ⟨g, 0, none⟩) k cap) l [z] W.heap.size rfl (by exact Own.alloc HO.out _) 1 rfl rfl (by omega) (lit_bytes W [z] _ _ rfl) (by rw [HLEN.out]; omega) (by simp; omega) ?_
      intro g' cap' w' hY hg
      have hB' := (show Own W w.heap.size (.slice (some ⟨g, 0, none⟩) k cap) l from HO.out).below HB.out hsz' hg
      rw [← HST.out, HLEN.out] at hY
      rw [HLEN.out]
      have HY := Lib.hid hY; have HB' := Lib.hid hB'
      clear hY hB' hg HO HB
      refine wpList_nil ⟨rfl, ?_⟩
      refine wpS_step (fun K hK => ?_)
      simp only [schStep]
      go_simp
      refine hK _ _ ?_
      clear hK K
      refine ⟨rfl, ?_⟩
      go_wp2_with fail
      exact ⟨⟨k + 1, g', cap', by omega, by simp, rfl, HY.out, HB'.out⟩, by simp [intOf]; omega⟩
    · obtain rfl : k = x.size := by omega
      rw [List.take_of_length_le (by rw [HYL.out]; exact Nat.le_refl _)] at hO
      have ht := hO.text HYL.out.symm
      have HB := Lib.hid hB
      clear hO hB
      go_wp2_with fail
      go_ret
      exact ⟨rfl, HB.out⟩
end Go.Proofs.YtikgefcbmoomjaaDoor