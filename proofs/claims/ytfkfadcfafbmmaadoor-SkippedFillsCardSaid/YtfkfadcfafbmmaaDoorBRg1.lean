/- The texts Vd, Ve, one behind the other. -/
import Derived.Test.YtfkfadcfafbmmaaDoorBg13
import Derived.RangeFuncNested
import Derived.RangeFuncBound
import Derived.RangeFuncCalls
import Derived.RangeFuncLeaves
import Derived.RangeFuncFrom
import Derived.RangeFuncBox
import Derived.Maps.AppendAt
import Derived.Shelf.Abstract
import Derived.Shelf.RegionOpen
import Derived.WalkKit
import Derived.OwnWalkIn
import Derived.TacticsInMore
import Derived.LoopNIn
import Derived.LoopIn
import Derived.RegionIn
import Derived.Sort.CutIn
/- chain's steps: an iterator of two things. -/
namespace Go.Proofs.YtfkfadcfafbmmaaDoor
open Go.RowKit Go.Shelf
set_option maxRecDepth 100000
attribute [local go_sem] Oper.semAt_some
/-- the words and keys of the sum lie below h -/
structure Words (h : Nat) (W : World) : Prop where
  F : FirstAt W
  K : KeysAt W
  hF : 0 < h
  hK : 1 < h
  le : h ≤ W.heap.size
theorem Words.of {W : World} (hF : FirstAt W) (hK : KeysAt W) : Words W.heap.size W :=
  ⟨hF, hK, World.block_lt_of_cell? W _ (hF 0 (by decide)), World.block_lt_of_cell? W _ (hK 0 (by decide)), Nat.le_refl _⟩
theorem Words.on {h n : Nat} {W W' : World} (hw : Words h W) (hl : Below n W W') (hn : h ≤ n) : Words h W' :=
  ⟨fun i hi => (hl.cell (p := ⟨_, i, none⟩) (Nat.lt_of_lt_of_le hw.hF hn)).trans (hw.F i hi), fun i hi => (hl.cell (p := ⟨_, i, none⟩) (Nat.lt_of_lt_of_le hw.hK hn)).trans (hw.K i hi), hw.hF, hw.hK, Nat.le_trans hw.le hl.size⟩
set_option maxHeartbeats 2000000 in
theorem steps1_stops (d : Nat) (hd : 1 ≤ d) (c : ByteArray) (hcs : c.size = 32) (n : Nat) (hn : n ≤ 64) (h B : Nat) (w : World) (hB : B + 1 < w.heap.size) (hh : h ≤ w.heap.size) (hc0 : w.cell? ⟨B, 0, none⟩ = some (.string c)) (hc1 : w.cell? ⟨B + 1, 0, none⟩ = some (.int .i64 (n : Int))) (hw : Words h w) :
    SeqStopsK Fence.wide d Tryd.prog 35 #[.pointer (some ⟨B, 0, none⟩), .pointer (some ⟨B + 1, 0, none⟩)] (fun p : ByteArray × ByteArray => #[Value.string p.1, Value.string p.2]) (Below h) (fun xs => xs = stepsL c n) (fun _ => True) n w := fun l J Jx W hW hJ hJx hY h0 => by
  refine callsIn_of_wp Tryd.func35 rfl trivial ?_ rfl
  simp only [Tryd.ntmps35, List.size_toArray, List.length_cons, List.length_nil, Nat.reduceAdd, Nat.reduceSub, Array.replicate_succ, Array.replicate_zero, List.push_toArray, List.append_toArray, List.nil_append, List.cons_append]
  have hcW : W.cell? ⟨B, 0, none⟩ = some (.string c) := by rw [hW.cell (p := ⟨B, 0, none⟩) (show B < w.heap.size by omega)]; exact hc0
  have hcX : W.cell? ⟨B + 1, 0, none⟩ = some (.int .i64 (n : Int)) := by rw [hW.cell (p := ⟨B + 1, 0, none⟩) hB]; exact hc1
  have hwW := Lib.hid (hw.on hW hh)
  clear hc0 hc1 hW hB hw
  gi_wp2
  gi_loopw [4, 9] (fun s i wr => ∃ k : Nat, k ≤ n ∧ s = .string (runC c k) ∧ i = .int .i64 (k : Int) ∧ J (stepsL c k) wr ∧ Words h wr) (fun _ i _ => n - (intOf i).toNat)
  case atStart => exact ⟨0, Nat.zero_le _, rfl, rfl, h0, hwW.out⟩
  case round =>
    clear hcW hcX hwW
    obtain ⟨k, hk, rfl, rfl, hJp, hWr⟩ := hrel
    by_cases hlt : k < n
    · have l1 : (k : Int) < (n : Int) := by omega
      have l2 : (k : Int) ≤ 64 := by omega
      have hrs := runC_size c hcs k
      have hS := splitC_any (runC c k) stWord (by omega) (by decide) wr hWr.F hWr.K
      have hst : stepsL c (k + 1) = stepsL c k ++ [(spA (runC c k) stWord, spB (runC c k) stWord)] := rfl
      have hrn : runC c (k + 1) = spA (runC c k) stWord := rfl
      generalize spA (runC c k) stWord = X at hS hst hrn
      generalize spB (runC c k) stWord = Y at hS hst
      generalize runC c k = r at hS
      unfold stWord at hS
      have HS := Lib.hid hS; have HN := Lib.hid (And.intro hst hrn); have HWR := Lib.hid hWr; have HJ := Lib.hid hJp
      clear hS hst hrn hrs hWr hJp
      gi_wp2
      refine ⟨trivial, ?_⟩
      refine (callsIn_wide.2 HS.out).mono ?_
      rintro e' W2 ⟨rfl, hb2⟩
      have hJ2 := hJ (stepsL c k) wr W2 none HJ.out (below_none hb2) (fun r e => by cases e)
      obtain ⟨fn, tmps, assign, body, hy, hR⟩ := hY (stepsL c k) (X, Y) W2 hJ2 (by rw [stepsL_length]; exact hlt)
      dsimp only at hy
      have HW2 := Lib.hid (HWR.out.on hb2 HWR.out.le)
      clear HS HJ HWR hb2 hJ2
      gi_wp2
      refine hR.mono ?_
      rintro e3 W3 (⟨rfl, hJ3, hk3⟩ | ⟨rfl, hJx3⟩)
      · have HW3 := Lib.hid (HW2.out.on hk3 (Nat.le_refl _))
        have HJ3 := Lib.hid hJ3
        clear hk3 hJ3 HW2
        gi_wp2
        go_roundw
        case rel => exact ⟨k + 1, by omega, by rw [HN.out.2], by simp, by rw [HN.out.1]; exact HJ3.out, HW3.out⟩
        case measure => simp [intOf]; omega
      · gi_wp2
        refine bodyPost_ret (results_none rfl _ _ _) rfl ?_
        exact ⟨⟨_, rfl⟩, .inr ⟨_, trivial, hJx3⟩⟩
    · obtain rfl : k = n := by omega
      have l1 : ¬ (k : Int) < (k : Int) := by omega
      gi_wp2
      refine bodyPost_end (results_none rfl _ _ _) rfl ?_
      exact ⟨⟨_, rfl⟩, .inl hJp⟩
theorem steps_any (c : ByteArray) (n : Nat) (w : World) :
    Calls Tryd.prog 27 #[.string c, .int .i64 (n : Int)] w fun e w' => e = .returned (.func (.func 35) #[] #[.pointer (some ⟨w.heap.size, 0, none⟩), .pointer (some ⟨w.heap.size + 1, 0, none⟩)]) ∧ w' = (w.alloc (.cells #[.string c] 9)).alloc (.cells #[.int .i64 (n : Int)] 3) := by
  go_enter Tryd.func27, Tryd.ntmps27
  go_wp2_with fail
  go_ret
  exact ⟨by simp, rfl⟩
end Go.Proofs.YtfkfadcfafbmmaaDoor

/- chain's Run. -/
namespace Go.Proofs.YtfkfadcfafbmmaaDoor
open Go.RowKit Go.Shelf
set_option maxRecDepth 100000
attribute [local go_sem] Oper.semAt_some
theorem snd_snoc (pre : List (ByteArray × ByteArray)) (p : ByteArray × ByteArray) : (pre ++ [p]).map Prod.snd = pre.map Prod.snd ++ [p.2] := by simp
set_option maxHeartbeats 1000000 in
theorem Run_bad (c : ByteArray) (n : Int) (hc : ¬ (c.size = 32 ∧ 0 ≤ n ∧ n ≤ 64)) (w : World) :
    Calls Tryd.prog 15 #[.string c, .int .i64 n] w fun e w' => e = .returned (.tuple #[.string ⟨#[]⟩, .slice none 0 0, .int .i64 2]) ∧ Below w.heap.size w w' := by
  have h1 := isKeyC_any c
  have hb : Below w.heap.size w (w.alloc (.cells #[.string c] 9)) := by go_grown
  have HB := Lib.hid hb
  clear hb
  by_cases h0 : c.size = 32
  · rw [decide_eq_true h0] at h1
    have H1 := Lib.hid h1
    clear h1
    by_cases h2 : n < 0
    · clear hc h0
      go_enter Tryd.func15, Tryd.ntmps15
      go_wp2_with fail
      refine (H1.out _).mono ?_
      rintro e w1 ⟨rfl, rfl⟩
      go_wp2_with fail
      go_ret3
      exact ⟨rfl, HB.out⟩
    · have h3 : 64 < n := by omega
      clear hc h0
      go_enter Tryd.func15, Tryd.ntmps15
      go_wp2_with fail
      refine (H1.out _).mono ?_
      rintro e w1 ⟨rfl, rfl⟩
      go_wp2_with fail
      go_ret3
      exact ⟨rfl, HB.out⟩
  · rw [decide_eq_false h0] at h1
    have H1 := Lib.hid h1
    clear h1 hc h0
    go_enter Tryd.func15, Tryd.ntmps15
    go_wp2_with fail
    refine (H1.out _).mono ?_
    rintro e w1 ⟨rfl, rfl⟩
    go_wp2_with fail
    go_ret3
    exact ⟨rfl, HB.out⟩
set_option maxHeartbeats 4000000 in
theorem Run_good (c : ByteArray) (hc : c.size = 32) (n : Nat) (hn : n ≤ 64) (w : World) (hF : FirstAt w) (hK : KeysAt w) :
    Calls Tryd.prog 15 #[.string c, .int .i64 (n : Int)] w fun e w' => ∃ v, e = .returned (.tuple #[.string (runC c n), v, .int .i64 0]) ∧ OwnS w' w.heap.size v (runK c n) ∧ Below w.heap.size w w' := by
  have h1 := isKeyC_any c
  rw [decide_eq_true hc] at h1
  have H1 := Lib.hid h1; have HW := Lib.hid (Words.of hF hK)
  obtain ⟨M, hM, hmk⟩ := make_strs n (by omega)
  have n0 : (0 : Int) ≤ (n : Int) := by omega
  have n1 : (n : Int) ≤ 64 := by omega
  have b0 : decide ((n : Int) < 0) = false := by simp
  have b1 : decide (64 < (n : Int)) = false := by simp; omega
  clear h1 hF hK
  refine (callsIn_wide (n := 3)).1 ?_
  refine callsIn_of_wp_marks Tryd.func15 rfl trivial ?_ rfl
  simp only [Tryd.ntmps15, List.size_toArray, List.length_cons, List.length_nil, Nat.reduceAdd, Nat.reduceSub, Array.replicate_succ, Array.replicate_zero, List.push_toArray, List.append_toArray, List.nil_append, List.cons_append]
  gi_wp2_with (refine ⟨trivial, ?_⟩; first | (gi_at_call 26; refine (callsIn_wide.2 (H1.out _)).mono ?_; rintro e w2 ⟨rfl, rfl⟩) | (gi_at_call 27; refine (callsIn_wide.2 (steps_any c n _)).mono ?_; rintro e w2 ⟨rfl, rfl⟩))
  obtain ⟨h, eh⟩ : ∃ h, w.heap.size = h := ⟨_, rfl⟩
  obtain ⟨W0, eW⟩ : ∃ W0, ((((w.alloc (.cells #[.string c] 9)).alloc (.cells M 9)).alloc (.cells #[.slice (some ⟨w.heap.size + 1, 0, none⟩) 0 n] 42)).alloc (.cells #[.string c] 9)).alloc (.cells #[.int .i64 (n : Int)] 3) = W0 := ⟨_, rfl⟩
  have hB0 : Below h w W0 := by rw [← eW, ← eh]; exact (((((Below.refl _ w).alloc (Nat.le_refl _) _).alloc (by simp) _).alloc (by simp; omega) _).alloc (by simp; omega) _).alloc (by simp; omega) _
  have hz : W0.heap.size = h + 5 := by rw [← eW, ← eh]; simp
  have h20 : Boxed W0 h 9 (.string c) := by rw [← eW, ← eh]; exact ((((Boxed.new w _ _).alloc _).alloc _).alloc _).alloc _
  have h70 : Boxed W0 (h + 1 + 1) 42 (.slice (some ⟨h + 1, 0, none⟩) 0 n) := by
    have := ((Boxed.new ((w.alloc (.cells #[.string c] 9)).alloc (.cells M 9)) 42 (.slice (some ⟨w.heap.size + 1, 0, none⟩) 0 n)).alloc (.cells #[.string c] 9)).alloc (.cells #[.int .i64 (n : Int)] 3)
    rw [← eW, ← eh]; simpa using this
  have hs0 : W0.cell? ⟨h + 1 + 1 + 1, 0, none⟩ = some (.string c) := by
    have := ((Boxed.new (((w.alloc (.cells #[.string c] 9)).alloc (.cells M 9)).alloc (.cells #[.slice (some ⟨w.heap.size + 1, 0, none⟩) 0 n] 42)) 9 (.string c)).alloc (.cells #[.int .i64 (n : Int)] 3)).cell
    rw [← eW, ← eh]; simpa using this
  have hs1 : W0.cell? ⟨h + 1 + 1 + 1 + 1, 0, none⟩ = some (.int .i64 (n : Int)) := by
    have := (Boxed.new ((((w.alloc (.cells #[.string c] 9)).alloc (.cells M 9)).alloc (.cells #[.slice (some ⟨w.heap.size + 1, 0, none⟩) 0 n] 42)).alloc (.cells #[.string c] 9)) 3 (.int .i64 (n : Int))).cell
    rw [← eW, ← eh]; simpa using this
  have hr0 : W0.ownsRow (h + 1) 9 1 (.slice (some ⟨h + 1, 0, none⟩) 0 n) 0 (Sv []) := by
    have := (((OwnS.made (w.alloc (.cells #[.string c] 9)) M (h + 1) n hM (by simp; omega) (by omega)).alloc (.cells #[.slice (some ⟨w.heap.size + 1, 0, none⟩) 0 n] 42)).alloc (.cells #[.string c] 9)).alloc (.cells #[.int .i64 (n : Int)] 3)
    rw [← eW]
    rw [show (w.alloc (.cells #[.string c] 9)).heap.size = h + 1 by simp; omega] at this
    exact this
  have hw0 : Words h W0 := by rw [← eh]; rw [← eh] at hB0; exact HW.out.on hB0 (Nat.le_refl _)
  rw [eW, eh]
  obtain ⟨i0, hi, hz0, hz1, hz2⟩ := info_parts infoS
  clear eW hmk hM H1
  refine wpIn_rangeFunc_ownF rfl (by omega) (gf := 35) (lb := #[.pointer (some ⟨h + 1 + 1 + 1, 0, none⟩), .pointer (some ⟨h + 1 + 1 + 1 + 1, 0, none⟩)]) rfl trivial (enters_of Tryd.func35 (by kernel_rfl) rfl)
    (steps1_stops (3 - 1) (by omega) c hc n hn h (h + 1 + 1 + 1) W0 (by omega) (by omega) hs0 hs1 hw0) (fun a b => a.trans b) (belowK_b (by omega)) (Below.refl _ _) (fun _ => rfl)
    (fun pre W => ((∃ v, Boxed W (h + 1 + 1) 42 v ∧ W.ownsRow (h + 1) 9 1 v (pre.map Prod.snd).length (Sv (pre.map Prod.snd)) ∧ True) ∧ Boxed W h 9 (.string (atC c pre))) ∧ Below h w W)
    (fun _ _ _ => False)
    (OwnFrom.and (OwnFrom.and (Own.from (holdsRow_own (h + 1) (h + 1 + 1) 42 9 1 (fun pre : List (ByteArray × ByteArray) => (pre.map Prod.snd).length) (fun pre => Sv (pre.map Prod.snd)) (fun _ _ => True)) _) (Own.from (boxed_own h 9 (fun pre => .string (atC c pre))) _)) (ownFrom_below (by omega) (by omega)))
    (fun _ _ _ _ _ hs _ _ => hs)
    ⟨⟨⟨_, h70, hr0, trivial⟩, h20⟩, hB0⟩
    (fun p => { tmps := #[.string c, .int .i64 (n : Int), .pointer (some ⟨h, 0, none⟩), undef, .string ⟨#[]⟩, .slice none 0 0, .int .i64 0, .pointer (some ⟨h + 1 + 1, 0, none⟩), .string p.1, .string p.2, .string c, .bool true, .bool false, .bool false, .int .i64 (n : Int), .bool false, .bool false, .bool false, .int .i64 (n : Int), .bool false, .bool false, .int .i64 (n : Int), .slice (some ⟨h + 1, 0, none⟩) 0 n, .string c, .int .i64 (n : Int), .func (.func 35) #[] #[.pointer (some ⟨h + 1 + 1 + 1, 0, none⟩), .pointer (some ⟨h + 1 + 1 + 1 + 1, 0, none⟩)], .string p.1, .string p.2, undef, undef, undef, undef, undef, undef, undef], defers := [] }) ?assign ?body ?done ?stop
  case assign =>
    intro l x W K hK
    gi_wp2
    exact hK
  case body =>
    rintro l pre ⟨x, y⟩ W ⟨⟨⟨v, h7, hrow, -⟩, h2⟩, hB⟩ hlen
    have hkl : (pre.map Prod.snd).length ≤ 64 := by rw [List.length_map]; omega
    have hsz : h + 1 + 1 < W.heap.size := h7.lt
    have c2 := h2.cell
    have f2 := h2.frozen
    have hpm : (pre ++ [(x, y)]).map Prod.snd = pre.map Prod.snd ++ [y] := snd_snoc _ _
    have hat := atC_snoc c pre (x, y)
    have HP := Lib.hid (And.intro hpm hat)
    have q2 := h2.set (.string x)
    have q7 := h7.other (show h + 1 + 1 ≠ h by omega) (.string x)
    have qrow := hrow.kept (grownBy_setCell' W h (.string x)) (.inr (own_ne hrow h (by omega)).symm)
    have qB := hB.setCell (p := ⟨h, 0, none⟩) (Nat.le_refl _) (.string x)
    have k1 := KeepsOthers.setCell W ⟨h, 0, none⟩ (.string x)
    have k2 := (Below.refl h W).setCell (p := ⟨h, 0, none⟩) (Nat.le_refl _) (.string x)
    have hs1 : h + 1 + 1 < (W.setCell ⟨h, 0, none⟩ (.string x)).heap.size := q7.lt
    generalize pre.map Prod.snd = L at hrow qrow hkl hpm HP
    clear h20 h70 hs0 hB0 hpm hat hr0 hw0 h7 h2 hB
    gi_upto_region 8 with fail
    generalize World.setCell W _ _ = W1 at q2 q7 qrow qB k1 k2 hs1 ⊢
    have c7 := q7.cell
    clear c2 f2
    gi_wp2_with (gi_at_builtin; refine wpListIn_append_own _ rfl _ _ 42 rfl (h + 1) 9 i0 (.string ⟨#[]⟩) 1 16 Tryd.underlying42 hi hz0 hz1 hz2 rfl (by decide) _ _ _ rfl (qrow.alloc _) ⟨W1.heap.size, 0, none⟩ 1 1 [.string y] rfl rfl (cell_one_new _ _ _) (by simp [Value.oneCell']) (by unfold maxLen; omega) (by omega) (by simp; omega) ?_; intro v' w1 hown' hgrow _; obtain ⟨g', cap', rfl⟩ := ownsRow_succ hown'; obtain ⟨p1, p2, p3, p4, p5⟩ := Boxed.appended q7 (by decide) qrow (by omega) (by omega) hown' hgrow; have q22 := ((q2.alloc (.cells #[.string y] 9)).kept hgrow (own_ne qrow h (by omega))).other (show h ≠ h + 1 + 1 by omega) (.slice (some ⟨g', 0, none⟩) (L.length + 1) cap'); have f7 := p1.frozen; have r7 := p1.cell; have HQ := Lib.hid (And.intro p2 (And.intro p3 (And.intro p4 (And.intro p5 q22)))); clear p1 p2 p3 p4 p5 q22 hown' hgrow c7)
    obtain ⟨p2, p3, p4, p5, q22⟩ := HQ.out
    refine ⟨k1.trans p4, k2.trans (p5.mono (by omega)), ⟨⟨_, p2, ?_⟩, ?_⟩, qB.trans (p5.mono (by omega))⟩
    · have hq : (w1.setCell ⟨h + 1 + 1, 0, none⟩ (.slice (some ⟨g', 0, none⟩) (L.length + 1) cap')).ownsRow (h + 1) 9 1 (.slice (some ⟨g', 0, none⟩) (L.length + 1) cap') (L ++ [y]).length (Sv (L ++ [y])) := by simpa [Sv] using p3
      rw [← HP.out.1, List.length_map] at hq
      exact hq
    · rw [HP.out.2]; exact q22
  case done =>
    rintro D xs W hD hS ⟨⟨⟨v, h7, hrow, -⟩, h2⟩, hB⟩ hK
    have hxs : xs.map Prod.snd = runK c n := by rw [hS]; rfl
    have hat : atC c xs = runC c n := by rw [hS]; exact atC_steps c n
    have HS := Lib.hid (And.intro hxs hat)
    have c7 := h7.cell
    have c2 := h2.cell
    clear h20 h70 hs0 hB0 hS hxs hat hr0 hw0 hs1
    gi_wp2
    gi_region
    all_goals gi_wp2
    have hKd : W.drew.heap[D]? = some (.deferred (some [])) := hK
    have hrd : W.drew.ownsRow (h + 1) 9 1 v (xs.map Prod.snd).length (Sv (xs.map Prod.snd)) := hrow
    have hBd : Below h w W.drew := hB.drew
    refine ⟨by simp, .inl ⟨_, _, rfl, run_takeDeferred hKd, ?_⟩⟩
    refine ⟨_, results_tmp3 rfl _ _ _, v, by rw [← HS.out.2]; rfl, ?_, ?_⟩
    · rw [← HS.out.1, eh]
      exact ownsRow_putObj (own_base hrd (by omega)) _ hKd rfl
    · rw [eh]
      exact hBd.trans (belowK_b (w := w) (by omega) W.drew D _ _ (by omega) hKd rfl rfl)
  case stop =>
    rintro D c pre W _ _ hf _
    exact hf.elim
end Go.Proofs.YtfkfadcfafbmmaaDoor
