/- chain's steps: an iterator of two things. -/
import Derived.RangeFuncNested
import Derived.RangeFuncBound
import Derived.RangeFuncCalls
import Derived.RangeFuncLeaves
import Derived.RangeFuncFrom
import Derived.RangeFuncBox
import Derived.Maps.AppendAt
import Derived.Shelf.Abstract
import Derived.Shelf.RegionOpen
import Derived.WalkKit
import Derived.OwnWalkIn
import Derived.TacticsInMore
import Derived.LoopNIn
import Derived.LoopIn
import Derived.Test.YtolobdeilfgmnaaDoorVc
namespace Go.Proofs.YtolobdeilfgmnaaDoor
open Go.RowKit Go.Shelf
set_option maxRecDepth 100000

attribute [local go_sem] Oper.semAt_some

theorem below_none {W W' : World} (hb : Below W.heap.size W W') : W.grownBy W' none := ⟨hb.os, hb.tape, hb.output, hb.size, fun k hk _ => hb.block k hk⟩
/-- the words and keys of the sum lie below h -/
structure Words (h : Nat) (W : World) : Prop where
  F : FirstAt W
  K : KeysAt W
  hF : 0 < h
  hK : 1 < h
  le : h ≤ W.heap.size
theorem Words.of {W : World} (hF : FirstAt W) (hK : KeysAt W) : Words W.heap.size W :=
  ⟨hF, hK, World.block_lt_of_cell? W _ (hF 0 (by decide)), World.block_lt_of_cell? W _ (hK 0 (by decide)), Nat.le_refl _⟩
theorem Words.on {h n : Nat} {W W' : World} (hw : Words h W) (hl : Below n W W') (hn : h ≤ n) : Words h W' :=
  ⟨fun i hi => (hl.cell (p := ⟨_, i, none⟩) (Nat.lt_of_lt_of_le hw.hF hn)).trans (hw.F i hi), fun i hi => (hl.cell (p := ⟨_, i, none⟩) (Nat.lt_of_lt_of_le hw.hK hn)).trans (hw.K i hi), hw.hF, hw.hK, Nat.le_trans hw.le hl.size⟩
set_option maxHeartbeats 2000000 in
theorem steps1_stops (d : Nat) (hd : 1 ≤ d) (c : ByteArray) (hcs : c.size = 32) (n : Nat) (hn : n ≤ 64) (h B : Nat) (w : World) (hB : B + 1 < w.heap.size) (hh : h ≤ w.heap.size) (hc0 : w.cell? ⟨B, 0, none⟩ = some (.string c)) (hc1 : w.cell? ⟨B + 1, 0, none⟩ = some (.int .i64 (n : Int))) (hw : Words h w) :
    SeqStopsK Fence.wide d Tryd.prog 32 #[.pointer (some ⟨B, 0, none⟩), .pointer (some ⟨B + 1, 0, none⟩)] (fun p : ByteArray × ByteArray => #[Value.string p.1, Value.string p.2]) (Below h) (fun xs => xs = stepsL c n) (fun _ => True) n w := fun l J Jx W hW hJ hJx hY h0 => by
  refine callsIn_of_wp Tryd.func32 rfl trivial ?_ rfl
  simp only [Tryd.ntmps32, List.size_toArray, List.length_cons, List.length_nil, Nat.reduceAdd, Nat.reduceSub, Array.replicate_succ, Array.replicate_zero, List.push_toArray, List.append_toArray, List.nil_append, List.cons_append]
  have hcW : W.cell? ⟨B, 0, none⟩ = some (.string c) := by rw [hW.cell (p := ⟨B, 0, none⟩) (show B < w.heap.size by omega)]; exact hc0
  have hcX : W.cell? ⟨B + 1, 0, none⟩ = some (.int .i64 (n : Int)) := by rw [hW.cell (p := ⟨B + 1, 0, none⟩) hB]; exact hc1
  have hwW := Lib.hid (hw.on hW hh)
  clear hc0 hc1 hW hB hw
  gi_wp2
  gi_loopw [4, 9] (fun s i wr => ∃ k : Nat, k ≤ n ∧ s = .string (runC c k) ∧ i = .int .i64 (k : Int) ∧ J (stepsL c k) wr ∧ Words h wr) (fun _ i _ => n - (intOf i).toNat)
  case atStart => exact ⟨0, Nat.zero_le _, rfl, rfl, h0, hwW.out⟩
  case round =>
    clear hcW hcX hwW
    obtain ⟨k, hk, rfl, rfl, hJp, hWr⟩ := hrel
    by_cases hlt : k < n
    · have l1 : (k : Int) < (n : Int) := by omega
      have l2 : (k : Int) ≤ 64 := by omega
      have hrs := runC_size c hcs k
      have hS := splitC_any (runC c k) stWord (by omega) (by decide) wr hWr.F hWr.K
      have hst : stepsL c (k + 1) = stepsL c k ++ [(spA (runC c k) stWord, spB (runC c k) stWord)] := rfl
      have hrn : runC c (k + 1) = spA (runC c k) stWord := rfl
      generalize spA (runC c k) stWord = X at hS hst hrn
      generalize spB (runC c k) stWord = Y at hS hst
      generalize runC c k = r at hS
      unfold stWord at hS
      have HS := Lib.hid hS; have HN := Lib.hid (And.intro hst hrn); have HWR := Lib.hid hWr; have HJ := Lib.hid hJp
      clear hS hst hrn hrs hWr hJp
      gi_wp2
      refine ⟨trivial, ?_⟩
      refine (callsIn_wide.2 HS.out).mono ?_
      rintro e' W2 ⟨rfl, hb2⟩
      have hJ2 := hJ (stepsL c k) wr W2 none HJ.out (below_none hb2) (fun r e => by cases e)
      obtain ⟨fn, tmps, assign, body, hy, hR⟩ := hY (stepsL c k) (X, Y) W2 hJ2 (by rw [stepsL_length]; exact hlt)
      dsimp only at hy
      have HW2 := Lib.hid (HWR.out.on hb2 HWR.out.le)
      clear HS HJ HWR hb2 hJ2
      gi_wp2
      refine hR.mono ?_
      rintro e3 W3 (⟨rfl, hJ3, hk3⟩ | ⟨rfl, hJx3⟩)
      · have HW3 := Lib.hid (HW2.out.on hk3 (Nat.le_refl _))
        have HJ3 := Lib.hid hJ3
        clear hk3 hJ3 HW2
        gi_wp2
        go_roundw
        case rel => exact ⟨k + 1, by omega, by rw [HN.out.2], by simp, by rw [HN.out.1]; exact HJ3.out, HW3.out⟩
        case measure => simp [intOf]; omega
      · gi_wp2
        refine bodyPost_ret (results_none rfl _ _ _) rfl ?_
        exact ⟨⟨_, rfl⟩, .inr ⟨_, trivial, hJx3⟩⟩
    · obtain rfl : k = n := by omega
      have l1 : ¬ (k : Int) < (k : Int) := by omega
      gi_wp2
      refine bodyPost_end (results_none rfl _ _ _) rfl ?_
      exact ⟨⟨_, rfl⟩, .inl hJp⟩
theorem steps_any (c : ByteArray) (n : Nat) (w : World) :
    Calls Tryd.prog 23 #[.string c, .int .i64 (n : Int)] w fun e w' => e = .returned (.func (.func 32) #[] #[.pointer (some ⟨w.heap.size, 0, none⟩), .pointer (some ⟨w.heap.size + 1, 0, none⟩)]) ∧ w' = (w.alloc (.cells #[.string c] 9)).alloc (.cells #[.int .i64 (n : Int)] 3) := by
  go_enter Tryd.func23, Tryd.ntmps23
  go_wp2_with fail
  go_ret
  exact ⟨by simp, rfl⟩
end Go.Proofs.YtolobdeilfgmnaaDoor
