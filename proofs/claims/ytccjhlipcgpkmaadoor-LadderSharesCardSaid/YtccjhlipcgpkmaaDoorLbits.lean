/- The iterator over the bits of a key, from the highest down. -/
import Derived.RangeFuncNested
import Derived.RangeFuncBound
import Derived.RangeFuncCalls
import Derived.RangeFuncLeaves
import Derived.RangeFuncFrom
import Derived.Shelf.Abstract
import Derived.Shelf.RegionOpen
import Derived.WalkKit
import Derived.OwnWalkIn
import Derived.TacticsInMore
import Derived.LoopNIn
import Derived.LoopIn
import Derived.Test.YtccjhlipcgpkmaaDoorLclamp
namespace Go.Proofs.YtccjhlipcgpkmaaDoor
open Go.RowKit Go.PlainAid Go.Shelf

attribute [local go_sem] Oper.semAt_some

/-- bit i of a text -/
def bitAt (s : ByteArray) (i : Nat) : Bool := decide (bt s (i / 8) / 2 ^ (i % 8) % 2 = 1)
def bitV (b : Bool) : Int := if b then 1 else 0
/-- the bits that k rounds have handed over -/
def bitsUp (s : ByteArray) (k : Nat) : List Bool := (List.range k).map fun j => bitAt s (254 - j)
theorem bitsUp_succ (s : ByteArray) (k : Nat) : bitsUp s (k + 1) = bitsUp s k ++ [bitAt s (254 - k)] := by simp [bitsUp, List.range_succ]
theorem bitsUp_length (s : ByteArray) (k : Nat) : (bitsUp s k).length = k := by simp [bitsUp]

theorem and1 (b : Int) (h0 : 0 ≤ b) (h1 : b ≤ 255) : bits .and .u8 b 1 = b % 2 := by
  obtain ⟨n, rfl⟩ := Int.eq_ofNat_of_zero_le h0
  exact (by decide +kernel : ∀ n : Fin 256, bits .and .u8 (n.val : Int) 1 = (n.val : Int) % 2) ⟨n, by omega⟩
theorem bit_math (s : ByteArray) (i : Nat) (h : i / 8 < s.size) : bits .and .u8 (((s[i / 8]'h).toNat : Int) / 2 ^ (i % 8)) 1 = bitV (bitAt s i) := by
  rw [get_bt s (i / 8) h]
  have a0 := bt_nonneg s (i / 8); have a1 := bt_le s (i / 8)
  have p : (0 : Int) < 2 ^ (i % 8) := Int.pow_pos (by omega)
  have d0 : 0 ≤ bt s (i / 8) / 2 ^ (i % 8) := Int.ediv_nonneg a0 (by omega)
  have d1 : bt s (i / 8) / 2 ^ (i % 8) ≤ bt s (i / 8) := Int.ediv_le_self _ a0
  rw [and1 _ d0 (by omega)]
  unfold bitV bitAt
  split
  · rename_i h'; simpa using h'
  · rename_i h'; simp at h'; omega

set_option maxHeartbeats 2000000 in
theorem bits1_stops (F : Fence) (n : Nat) (h6 : F.fn 69) (hro : F.round = none) (hn : 1 ≤ n) (s : ByteArray) (hs : s.size = 32) (B : Nat) (w : World) (hB : B < w.heap.size) (hc : w.cell? ⟨B, 0, none⟩ = some (.string s)) :
    SeqStopsK F n Tryd.prog 69 #[.pointer (some ⟨B, 0, none⟩)] (fun b : Bool => #[Value.int .u8 (bitV b)]) (fun W W' => W'.cell? ⟨B, 0, none⟩ = W.cell? ⟨B, 0, none⟩) (fun xs => xs = bitsUp s 255) (fun _ => True) 255 w := fun l J Jx W hW hJ hJx hY h0 => by
  refine callsIn_of_wp Tryd.func69 rfl h6 ?_ hro
  simp only [Tryd.ntmps69, List.size_toArray, List.length_cons, List.length_nil, Nat.reduceAdd, Nat.reduceSub, Array.replicate_succ, Array.replicate_zero, List.push_toArray, List.append_toArray, List.nil_append, List.cons_append]
  have hcW : W.cell? ⟨B, 0, none⟩ = some (.string s) := by rw [hW.cell (p := ⟨B, 0, none⟩) hB]; exact hc
  gi_wp2
  gi_loopw [3] (fun i wr => ∃ k : Nat, k ≤ 255 ∧ i = .int .i64 (254 - (k : Int)) ∧ J (bitsUp s k) wr ∧ wr.cell? ⟨B, 0, none⟩ = some (.string s)) (fun i _ => (intOf i + 1).toNat)
  case atStart => exact ⟨0, by omega, rfl, h0, hcW⟩
  case round =>
    obtain ⟨k, hk, rfl, hJk, hck⟩ := hrel
    by_cases hlt : k < 255
    · obtain ⟨i, hi⟩ : ∃ i : Nat, 254 - k = i := ⟨_, rfl⟩
      have e1 : (254 - (k : Int)) = (i : Int) := by omega
      rw [e1]
      have hlt8 : i / 8 < s.size := by omega
      have hbit := bit_math s i hlt8
      obtain ⟨fn, tmps, assign, body, hy, hR⟩ := hY (bitsUp s k) (bitAt s i) wr hJk (by rw [bitsUp_length]; omega)
      gi_wp2
      refine hR.mono ?_
      rintro e W3 (⟨rfl, hJ3, hk3⟩ | ⟨rfl, hJx3⟩)
      · have hc3 : W3.cell? ⟨B, 0, none⟩ = some (.string s) := hk3.trans hck
        gi_wp2
        go_roundw
        case rel => exact ⟨k + 1, by omega, by rw [show (254 - ((k + 1 : Nat) : Int)) = (i : Int) - 1 by omega], by rw [bitsUp_succ, hi]; exact hJ3, hc3⟩
        case measure => simp [intOf]
      · gi_wp2
        refine bodyPost_ret (results_none rfl _ _ _) rfl ?_
        exact ⟨⟨_, rfl⟩, .inr ⟨_, trivial, hJx3⟩⟩
    · obtain rfl : k = 255 := by omega
      gi_wp2
      go_end0
      exact ⟨⟨_, rfl⟩, .inl ⟨_, rfl, hJk⟩⟩
end Go.Proofs.YtccjhlipcgpkmaaDoor
