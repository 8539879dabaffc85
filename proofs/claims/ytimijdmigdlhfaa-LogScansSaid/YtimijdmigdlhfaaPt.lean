/- The contract of the reference's value: what number stands at the beginning of bytes. -/
import Derived.Test.YtimijdmigdlhfaaPg
import Derived.Test.YtimijdmigdlhfaaPl
namespace Go.Proofs.Ytimijdmigdlhfaa
open Go.RowKit Go.Sort
set_option maxRecDepth 100000
def valV (l : List UInt8) : Nat × Nat := match ahead l with | none => (0, 0) | some (n, k) => (n, k)
theorem valV_none (l : List UInt8) (h : ahead l = none) : valV l = (0, 0) := by unfold valV; rw [h]
theorem valV_some (l : List UInt8) (n k : Nat) (h : ahead l = some (n, k)) : valV l = (n, k) := by unfold valV; rw [h]
theorem two_stores {w : World} {B : Nat} {a b : Value} {t : TypeId} (h : w.heap[B]? = some (.cells #[a, b] t (0, 0))) (x y : Value) :
    ((w.setCell ⟨B, 0, none⟩ x).setCell ⟨B, 1, none⟩ y).heap[B]? = some (.cells #[x, y] t (0, 0)) := by
  have h1 := heap_setCell_same w B 0 _ t x h
  have h2 := heap_setCell_same _ B 1 _ t y h1
  rw [h2]
  simp
theorem two_below {w0 w : World} {n B : Nat} (h : Below n w0 w) (hB : n ≤ B) (x y : Value) : Below n w0 ((w.setCell ⟨B, 0, none⟩ x).setCell ⟨B, 1, none⟩ y) :=
  (h.setCell (p := ⟨B, 0, none⟩) hB x).setCell (p := ⟨B, 1, none⟩) hB y
def RvRel (W : World) (M : Nat) (t : List UInt8) (v i : Value) (wr : World) : Prop :=
  ∃ k : Nat, k ≤ M ∧ i = .int .i64 ((k : Int) + 1) ∧ v = .int .u64 (valL (t.take k) : Int) ∧ wr = W
set_option maxHeartbeats 8000000 in
theorem rValue_any (x : ByteArray) (hx : x.size ≤ maxLen) (w : World) :
    Calls Try.prog 59 #[.string x] w fun e w' => e = .returned (.agg #[.int .u64 ((valV (bl x)).1 : Int), .int .i64 ((valV (bl x)).2 : Int)]) ∧ Below w.heap.size w w' := by
  have hB0 : Below w.heap.size w (w.alloc (.cells #[.int .u64 0, .int .i64 0] 107)) := (Below.refl _ _).alloc (Nat.le_refl _) _
  have hx0 : (w.alloc (.cells #[.int .u64 0, .int .i64 0] 107)).heap[w.heap.size]? = some (.cells #[.int .u64 0, .int .i64 0] 107) := heap_alloc_new _ _
  have HB := Lib.hid hB0; have HX := Lib.hid hx0
  unfold maxLen at hx
  clear hB0 hx0
  go_enter Try.func59, Try.ntmps59
  go_upto_region 1 with fail
  obtain ⟨B, eB⟩ : ∃ B, w.heap.size = B := ⟨_, rfl⟩
  have hBl : w.heap.size ≤ B := by omega
  have HBL := Lib.hid hBl
  rw [eB] at HX ⊢
  clear eB hBl
  generalize World.alloc w _ = V at HB HX ⊢
  by_cases h0 : x.size = 0
  · have e0 : bl x = [] := List.eq_nil_of_length_eq_zero (by rw [bl_length]; exact h0)
    have HV := Lib.hid (valV_none (bl x) (by rw [e0]; rfl))
    have h0i : ((x.size : Int) == 0) = true := by rw [h0]; rfl
    clear e0 hx h0
    have c0 : V.cell? ⟨B, 0, none⟩ = some (.int .u64 0) := by rw [cell_of_row _ _ _ _ _ _ HX.out]; rfl
    have c1 : V.cell? ⟨B, 1, none⟩ = some (.int .i64 0) := by rw [cell_of_row _ _ _ _ _ _ HX.out]; rfl
    have f0 := frozen_of_row V B 0 _ _ HX.out
    have f1 := frozen_of_row V B 1 _ _ HX.out
    have HE := Lib.hid (two_stores HX.out (.int .u64 0) (.int .i64 0))
    have HBE := Lib.hid (two_below HB.out HBL.out (.int .u64 0) (.int .i64 0))
    clear HX HB
    go_upto_region 2 with fail
    go_wp2_with fail
    clear c0 c1 f0 f1
    generalize World.setCell (World.setCell V _ _) _ _ = Z at HE HBE ⊢
    have t0 : Z.cell? ⟨B, 0, none⟩ = some (.int .u64 0) := by rw [cell_of_row _ _ _ _ _ _ HE.out]; rfl
    have t1 : Z.cell? ⟨B, 1, none⟩ = some (.int .i64 0) := by rw [cell_of_row _ _ _ _ _ _ HE.out]; rfl
    refine bodyPost_ret (v := .agg #[.int .u64 0, .int .i64 0]) (by simp [results, Try.results59, go_sem, t0, t1]) rfl ⟨?_, HBE.out⟩
    rw [HV.out]; rfl
  · obtain ⟨m, t, emt⟩ : ∃ m t, bl x = m :: t := by
      rcases h : bl x with _ | ⟨m, t⟩
      · exact absurd (by rw [← bl_length, h]; rfl) h0
      · exact ⟨m, t, rfl⟩
    have h0i : ((x.size : Int) == 0) = false := by rw [beq_eq_false_iff_ne]; omega
    have hix : ∀ W : World, (Instr.index 9 (.string x) (.int .i64 0)).run Try.prog W = .ok (.int .u8 (m.toNat : Int)) W := fun W => by
      have := str_index x 0 0 rfl (by omega) W
      rw [← bl_get x 0 (by omega), emt] at this
      exact this
    have hts : x.size = t.length + 1 := by rw [← bl_length, emt]; rfl
    obtain ⟨M, eM⟩ : ∃ M : Nat, m.toNat = M := ⟨_, rfl⟩
    rw [eM] at hix
    have hM256 : M < 256 := by rw [← eM]; exact m.toNat_lt
    have hM256' : (M : Int) < 256 := by omega
    have hah : ∀ y, (if M ≤ 8 ∧ M ≤ t.length ∧ (t.take M).head? ≠ some 0 then some (valL (t.take M), 1 + M) else none) = y → ahead (bl x) = y := fun y h => by
      rw [emt, ← h, ← eM]; rfl
    have HAH := Lib.hid hah
    clear hah eM
    by_cases h8 : 8 < M
    · have l8 : (8 : Int) < (M : Int) := by omega
      have HV := Lib.hid (valV_none (bl x) (HAH.out none (by rw [if_neg (by omega)])))
      clear HAH h8 hts emt h0
      have c0 : V.cell? ⟨B, 0, none⟩ = some (.int .u64 0) := by rw [cell_of_row _ _ _ _ _ _ HX.out]; rfl
      have c1 : V.cell? ⟨B, 1, none⟩ = some (.int .i64 0) := by rw [cell_of_row _ _ _ _ _ _ HX.out]; rfl
      have f0 := frozen_of_row V B 0 _ _ HX.out
      have f1 := frozen_of_row V B 1 _ _ HX.out
      have HE := Lib.hid (two_stores HX.out (.int .u64 0) (.int .i64 0))
      have HBE := Lib.hid (two_below HB.out HBL.out (.int .u64 0) (.int .i64 0))
      clear HX HB
      go_upto_region 2 with fail
      go_wp2_with fail
      clear c0 c1 f0 f1
      generalize World.setCell (World.setCell V _ _) _ _ = Z at HE HBE ⊢
      have t0 : Z.cell? ⟨B, 0, none⟩ = some (.int .u64 0) := by rw [cell_of_row _ _ _ _ _ _ HE.out]; rfl
      have t1 : Z.cell? ⟨B, 1, none⟩ = some (.int .i64 0) := by rw [cell_of_row _ _ _ _ _ _ HE.out]; rfl
      refine bodyPost_ret (v := .agg #[.int .u64 0, .int .i64 0]) (by simp [results, Try.results59, go_sem, t0, t1]) rfl ⟨?_, HBE.out⟩
      rw [HV.out]; rfl
    · have l8 : ¬ (8 : Int) < (M : Int) := by omega
      by_cases hML : t.length < M
      · have lm : (x.size : Int) < 1 + (M : Int) := by omega
        have HV := Lib.hid (valV_none (bl x) (HAH.out none (by rw [if_neg (by omega)])))
        clear HAH h8 hts emt h0
        have c0 : V.cell? ⟨B, 0, none⟩ = some (.int .u64 0) := by rw [cell_of_row _ _ _ _ _ _ HX.out]; rfl
        have c1 : V.cell? ⟨B, 1, none⟩ = some (.int .i64 0) := by rw [cell_of_row _ _ _ _ _ _ HX.out]; rfl
        have f0 := frozen_of_row V B 0 _ _ HX.out
        have f1 := frozen_of_row V B 1 _ _ HX.out
        have HE := Lib.hid (two_stores HX.out (.int .u64 0) (.int .i64 0))
        have HBE := Lib.hid (two_below HB.out HBL.out (.int .u64 0) (.int .i64 0))
        clear HX HB
        go_upto_region 2 with fail
        go_wp2_with fail
        clear c0 c1 f0 f1
        generalize World.setCell (World.setCell V _ _) _ _ = Z at HE HBE ⊢
        have t0 : Z.cell? ⟨B, 0, none⟩ = some (.int .u64 0) := by rw [cell_of_row _ _ _ _ _ _ HE.out]; rfl
        have t1 : Z.cell? ⟨B, 1, none⟩ = some (.int .i64 0) := by rw [cell_of_row _ _ _ _ _ _ HE.out]; rfl
        refine bodyPost_ret (v := .agg #[.int .u64 0, .int .i64 0]) (by simp [results, Try.results59, go_sem, t0, t1]) rfl ⟨?_, HBE.out⟩
        rw [HV.out]; rfl
      · have lm : ¬ (x.size : Int) < 1 + (M : Int) := by omega
        have HT := Lib.hid (And.intro hts (And.intro emt (And.intro (show M ≤ 8 by omega) (show M ≤ t.length by omega))))
        clear h8 hML hts emt h0
        go_wp2_with fail
        clear lm l8 h0i
        go_loopw [3, 4] (RvRel V M t) (fun _ i _ => M + 1 - (intOf i).toNat)
        case atStart => exact ⟨0, Nat.zero_le _, rfl, rfl, rfl⟩
        case round =>
          obtain ⟨k, hk, rfl, rfl, rfl⟩ := hrel
          obtain ⟨hts, emt, hM8, hMt⟩ := HT.out
          by_cases hlt : k < M
          · have h1 : (k : Int) + 1 ≤ (M : Int) := by omega
            have hk8 : (k : Int) < 8 := by omega
            have hkl : k < t.length := by omega
            have hstep := valL_take t k hkl
            have hltv := valL_lt (t.take k)
            have hpow : 256 ^ (t.take k).length ≤ 256 ^ 7 := Nat.pow_le_pow_right (by omega) (by rw [List.length_take]; omega)
            have h7 : (256 : Nat) ^ 7 = 72057594037927936 := by decide
            rw [h7] at hpow
            obtain ⟨z, ez⟩ : ∃ z, t.getD k 0 = z := ⟨_, rfl⟩
            obtain ⟨y, ey⟩ : ∃ y, valL (t.take k) = y := ⟨_, rfl⟩
            rw [ez, ey] at hstep
            rw [ey] at hltv ⊢
            have hidx : ∀ W : World, (Instr.index 9 (.string x) (.int .i64 ((k : Int) + 1))).run Try.prog W = .ok (.int .u8 (z.toNat : Int)) W := fun W => by
              have := str_index x ((k : Int) + 1) (k + 1) (by omega) (by omega) W
              rw [← bl_get x (k + 1) (by omega), emt] at this
              rw [← ez]
              exact this
            have hz := z.toNat_lt
            have hz' : (z.toNat : Int) < 256 := by omega
            have hy' : (y : Int) < 72057594037927936 := by omega
            have HST := Lib.hid hstep
            clear hts emt hM8 hMt hkl hltv hpow h7 ez ey hstep hx
            go_wp2_with fail
            refine ⟨⟨k + 1, by omega, by simp, ?_, rfl⟩, by simp [intOf]; omega⟩
            rw [HST.out]
            congr 1
          · obtain rfl : k = M := by omega
            have hn : ¬ (k : Int) + 1 ≤ (k : Int) := by omega
            have hNy : valL (t.take k) < 18446744073709551616 := by
              have := valL_lt (t.take k)
              have h8 : 256 ^ (t.take k).length ≤ 256 ^ 8 := Nat.pow_le_pow_right (by omega) (by rw [List.length_take]; omega)
              rw [pow256_8] at h8
              omega
            have hNl := numB_length (valL (t.take k))
            obtain ⟨y, ey⟩ : ∃ y, valL (t.take k) = y := ⟨_, rfl⟩
            have hN := fun W => rNumber_any (valL (t.take k)) hNy W
            rw [ey] at hN
            obtain ⟨q, eq⟩ : ∃ q, strL (numB y) = q := ⟨_, rfl⟩
            have hqs : q.size = 1 + (digL y).length := by rw [← eq, strL_size, ← ey, hNl]
            rw [eq] at hN
            rw [ey]
            have hw0 : IntKind.i64.wrap (k : Int) = (k : Int) := IntWalk.i64_in _ (by omega)
            have hw1 : IntKind.i64.wrap (1 + (k : Int)) = 1 + (k : Int) := IntWalk.i64_in _ (by omega)
            have HN := Lib.hid hN
            have hlen : (t.take k).length = k := by rw [List.length_take]; omega
            by_cases hhd : (t.take k).head? = some 0
            · have hsh := digL_short _ hhd
              rw [ey, hlen] at hsh
              have hne : ((q.size : Int) != 1 + (k : Int)) = true := by
                rw [bne, Bool.not_eq_true', beq_eq_false_iff_ne]; omega
              have HV := Lib.hid (valV_none (bl x) (HAH.out none (by rw [if_neg (by rw [hhd]; simp)])))
              clear hts emt hM8 hMt hNy hNl hN eq hqs hlen hhd hsh HAH hk hlt ey hx HT
              go_upto_region 8 with fail
              refine wp_region_quiet_below (by kernel_rfl) (by kernel_rfl) ?_
              iterate 8 (quiet_step (first | (go_at_call 38; exact Calls.regrown_of (HN.out _))))
              refine wpQuiet_nil ?_
              intro _ hw'
              obtain ⟨⟨dq, osq⟩, hw''⟩ := hw'
              subst hw''
              have hrg := below_regrown wr dq osq
              have HX2 := Lib.hid ((hrg.block B (Array.getElem?_eq_some_iff.1 HX.out).1).trans HX.out)
              have HB2 := Lib.hid (HB.out.trans (hrg.mono HB.out.size))
              clear hrg HX HB HN hix hw0 hw1 hne
              generalize grow (redrawn wr dq) osq = U at HX2 HB2 ⊢
              have c0 : U.cell? ⟨B, 0, none⟩ = some (.int .u64 0) := by rw [cell_of_row _ _ _ _ _ _ HX2.out]; rfl
              have c1 : U.cell? ⟨B, 1, none⟩ = some (.int .i64 0) := by rw [cell_of_row _ _ _ _ _ _ HX2.out]; rfl
              have f0 := frozen_of_row U B 0 _ _ HX2.out
              have f1 := frozen_of_row U B 1 _ _ HX2.out
              have HE := Lib.hid (two_stores HX2.out (.int .u64 0) (.int .i64 0))
              have HBE := Lib.hid (two_below HB2.out HBL.out (.int .u64 0) (.int .i64 0))
              clear HX2 HB2
              go_upto_region 9 with fail
              go_wp2_with fail
              clear c0 c1 f0 f1
              generalize World.setCell (World.setCell U _ _) _ _ = Z at HE HBE ⊢
              have t0 : Z.cell? ⟨B, 0, none⟩ = some (.int .u64 0) := by rw [cell_of_row _ _ _ _ _ _ HE.out]; rfl
              have t1 : Z.cell? ⟨B, 1, none⟩ = some (.int .i64 0) := by rw [cell_of_row _ _ _ _ _ _ HE.out]; rfl
              refine bodyPost_ret (v := .agg #[.int .u64 0, .int .i64 0]) (by simp [results, Try.results59, go_sem, t0, t1]) rfl ⟨?_, HBE.out⟩
              rw [HV.out]; rfl
            · have hdv := digL_valL _ hhd
              have hqe : (digL y).length = k := by rw [← ey, hdv, hlen]
              have hne : ((q.size : Int) != 1 + (k : Int)) = false := by
                rw [bne, Bool.not_eq_false', beq_iff_eq]; omega
              have HV := Lib.hid (valV_some (bl x) y (1 + k) (HAH.out _ (by rw [if_pos ⟨hM8, hMt, hhd⟩, ey])))
              clear hts emt hM8 hMt hNy hNl hN eq hqs hlen hhd hdv hqe HAH hk hlt ey hx HT
              go_upto_region 8 with fail
              refine wp_region_quiet_below (by kernel_rfl) (by kernel_rfl) ?_
              iterate 8 (quiet_step (first | (go_at_call 38; exact Calls.regrown_of (HN.out _))))
              refine wpQuiet_nil ?_
              intro _ hw'
              obtain ⟨⟨dq, osq⟩, hw''⟩ := hw'
              subst hw''
              have hrg := below_regrown wr dq osq
              have HX2 := Lib.hid ((hrg.block B (Array.getElem?_eq_some_iff.1 HX.out).1).trans HX.out)
              have HB2 := Lib.hid (HB.out.trans (hrg.mono HB.out.size))
              clear hrg HX HB HN hne hw0 hw1
              generalize grow (redrawn wr dq) osq = U at HX2 HB2 ⊢
              have c0 : U.cell? ⟨B, 0, none⟩ = some (.int .u64 0) := by rw [cell_of_row _ _ _ _ _ _ HX2.out]; rfl
              have c1 : U.cell? ⟨B, 1, none⟩ = some (.int .i64 0) := by rw [cell_of_row _ _ _ _ _ _ HX2.out]; rfl
              have f0 := frozen_of_row U B 0 _ _ HX2.out
              have f1 := frozen_of_row U B 1 _ _ HX2.out
              have HE := Lib.hid (two_stores HX2.out (.int .u64 (y : Int)) (.int .i64 (1 + (k : Int))))
              have HBE := Lib.hid (two_below HB2.out HBL.out (.int .u64 (y : Int)) (.int .i64 (1 + (k : Int))))
              clear HX2 HB2
              go_upto_region 10 with fail
              go_wp2_with fail
              clear c0 c1 f0 f1
              generalize World.setCell (World.setCell U _ _) _ _ = Z at HE HBE ⊢
              have t0 : Z.cell? ⟨B, 0, none⟩ = some (.int .u64 (y : Int)) := by rw [cell_of_row _ _ _ _ _ _ HE.out]; rfl
              have t1 : Z.cell? ⟨B, 1, none⟩ = some (.int .i64 (1 + (k : Int))) := by rw [cell_of_row _ _ _ _ _ _ HE.out]; rfl
              refine bodyPost_ret (v := .agg #[.int .u64 (y : Int), .int .i64 (1 + (k : Int))]) (by simp [results, Try.results59, go_sem, t0, t1]) rfl ⟨?_, HBE.out⟩
              rw [HV.out]; rfl
end Go.Proofs.Ytimijdmigdlhfaa