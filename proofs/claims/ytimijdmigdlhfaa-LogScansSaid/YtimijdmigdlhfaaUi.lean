/- The package's records: an iterator. -/
import Derived.RangeFuncNested
import Derived.RangeFuncBound
import Derived.RangeFuncCalls
import Derived.RangeFuncLeaves
import Derived.RangeFuncFrom
import Derived.RangeFuncBox
import Derived.Maps.AppendAt
import Derived.Shelf.Abstract
import Derived.Shelf.RegionOpen
import Derived.WalkKit
import Derived.OwnWalkIn
import Derived.TacticsInMore
import Derived.LoopNIn
import Derived.LoopIn
import Derived.Test.YtimijdmigdlhfaaUh
namespace Go.Proofs.Ytimijdmigdlhfaa
open Go.RowKit Go.Shelf
set_option maxRecDepth 100000
attribute [local go_sem] Oper.semAt_some
/-- where the last of some records ends -/
def lastE (xs : List (ByteArray × Nat)) : Nat := match xs.getLast? with | none => 0 | some p => p.2
theorem lastE_snoc (xs : List (ByteArray × Nat)) (p : ByteArray × Nat) : lastE (xs ++ [p]) = p.2 := by unfold lastE; simp
/-- these are the records that stand whole in a text, each with where it ends -/
def Scanned (C : Ck) (s : ByteArray) (xs : List (ByteArray × Nat)) : Prop := scanL C (bl s) = (xs.map Prod.fst, lastE xs)
theorem below_none {W W' : World} (hb : Below W.heap.size W W') : W.grownBy W' none := ⟨hb.os, hb.tape, hb.output, hb.size, fun k hk _ => hb.block k hk⟩
set_option maxHeartbeats 2000000 in
theorem records1_stops (n : Nat) (hn : 1 ≤ n) (s : ByteArray) (hs : s.size ≤ maxLen) (B : Nat) (w : World) (hB : B < w.heap.size) (hc : w.cell? ⟨B, 0, none⟩ = some (.string s)) :
    SeqStopsK Fence.wide n Try.prog 39 #[.pointer (some ⟨B, 0, none⟩)] (fun p : ByteArray × Nat => #[Value.string p.1, Value.int .i64 (p.2 : Int)]) (fun W W' => W'.cell? ⟨B, 0, none⟩ = W.cell? ⟨B, 0, none⟩) (Scanned ckP s) (fun _ => True) (scanL ckP (bl s)).1.length w := fun l J Jx W hW hJ hJx hY h0 => by
  refine callsIn_of_wp Try.func39 rfl trivial ?_ rfl
  simp only [Try.ntmps39, List.size_toArray, List.length_cons, List.length_nil, Nat.reduceAdd, Nat.reduceSub, Array.replicate_succ, Array.replicate_zero, List.push_toArray, List.append_toArray, List.nil_append, List.cons_append]
  have hcW : W.cell? ⟨B, 0, none⟩ = some (.string s) := by rw [hW.cell (p := ⟨B, 0, none⟩) hB]; exact hc
  have hBW : B < W.heap.size := Nat.lt_of_lt_of_le hB hW.size
  clear hc hW hB
  gi_wp2
  gi_loopw [3] (fun i wr => ∃ (pre : List (ByteArray × Nat)) (e : Nat), i = .int .i64 (e : Int) ∧ e ≤ s.size ∧ lastE pre = e ∧ scanL ckP (bl s) = (pre.map Prod.fst ++ (scanL ckP ((bl s).drop e)).1, e + (scanL ckP ((bl s).drop e)).2) ∧ J pre wr ∧ wr.cell? ⟨B, 0, none⟩ = some (.string s)) (fun i _ => s.size - (intOf i).toNat)
  case atStart => exact ⟨[], 0, rfl, Nat.zero_le _, rfl, by simp, h0, hcW⟩
  case round =>
    obtain ⟨pre, e, rfl, he, hle, hsc, hJp, hck⟩ := hrel
    have hcut := cut_behind s e he
    have hF := fun W => first_any (strL ((bl s).drop e)) (by rw [strL_size, List.length_drop, bl_length]; omega) W
    simp only [bl_strL] at hF
    have HF := Lib.hid hF
    clear hF
    gi_wp2
    refine ⟨trivial, ?_⟩
    refine (callsIn_wide.2 (HF.out wr)).mono ?_
    rintro e' W2 ⟨rfl, hb2⟩
    have hc2 : W2.cell? ⟨B, 0, none⟩ = some (.string s) := by rw [hb2.cell (p := ⟨B, 0, none⟩) (World.block_lt_of_cell? wr _ hck)]; exact hck
    have hJ2 := hJ pre wr W2 none hJp (below_none hb2) (fun r e => by cases e)
    clear hb2 hck hJp hcut HF
    cases hX : aheadR ckP ((bl s).drop e) with
    | none =>
      rw [scanL_none ckP _ hX, List.append_nil, Nat.add_zero] at hsc
      simp only [fstS, fstK, fstB, Option.isSome_none]
      have HS := Lib.hid (show Scanned ckP s pre by unfold Scanned; rw [hsc, hle])
      clear hsc hX
      gi_wp2
      refine bodyPost_ret (results_none rfl _ _ _) rfl ?_
      exact ⟨⟨_, rfl⟩, .inl ⟨_, HS.out, hJ2⟩⟩
    | some p =>
      obtain ⟨t, k⟩ := p
      obtain ⟨-, -, h3, h4, -⟩ := aheadR_some ckP _ t k hX
      rw [List.length_drop, bl_length] at h3
      rw [scanL_some ckP _ t k hX, List.drop_drop] at hsc
      obtain ⟨m, em⟩ : ∃ m, e + k = m := ⟨_, rfl⟩
      rw [em] at hsc
      have hlen : pre.length < (scanL ckP (bl s)).1.length := by rw [hsc]; simp
      have hnew : scanL ckP (bl s) = ((pre ++ [(t, m)]).map Prod.fst ++ (scanL ckP ((bl s).drop m)).1, m + (scanL ckP ((bl s).drop m)).2) := by
        rw [hsc]; simp; omega
      obtain ⟨fn, tmps, assign, body, hy, hR⟩ := hY pre (t, m) W2 hJ2 hlen
      dsimp only at hy
      have hm : (e : Int) + (k : Int) = (m : Int) := by omega
      have hmb : (m : Int) ≤ 9223372036854775807 := by unfold maxLen at hs; omega
      have HN := Lib.hid (And.intro hnew (And.intro h3 (And.intro h4 em)))
      simp only [fstS, fstK, fstB, Option.isSome_some]
      clear hnew hsc hlen hX h3 h4 em hJ2
      gi_wp2
      refine hR.mono ?_
      rintro e3 W3 (⟨rfl, hJ3, hk3⟩ | ⟨rfl, hJx3⟩)
      · have hc3 : W3.cell? ⟨B, 0, none⟩ = some (.string s) := hk3.trans hc2
        gi_wp2
        go_roundw
        case rel => exact ⟨pre ++ [(t, m)], m, rfl, by have := HN.out.2; omega, lastE_snoc _ _, HN.out.1, hJ3, hc3⟩
        case measure => simp [intOf]; have := HN.out.2; omega
      · gi_wp2
        refine bodyPost_ret (results_none rfl _ _ _) rfl ?_
        exact ⟨⟨_, rfl⟩, .inr ⟨_, trivial, hJx3⟩⟩
theorem records_any (s : ByteArray) (w : World) :
    Calls Try.prog 30 #[.string s] w fun e w' => e = .returned (.func (.func 39) #[] #[.pointer (some ⟨w.heap.size, 0, none⟩)]) ∧ w' = w.alloc (.cells #[.string s] 9) := by
  go_enter Try.func30, Try.ntmps30
  go_wp2_with fail
  go_ret
  exact ⟨rfl, rfl⟩
end Go.Proofs.Ytimijdmigdlhfaa