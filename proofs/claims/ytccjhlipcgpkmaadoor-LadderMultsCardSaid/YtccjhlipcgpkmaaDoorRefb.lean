/- The contracts of the reference's functions over digits: Digits, Text. -/
import Derived.Test.YtccjhlipcgpkmaaDoorRef
import Derived.PlainAid
import Derived.Deep.RegionLaw
namespace Go.Proofs.YtccjhlipcgpkmaaDoor
open Go.RowKit Go.PlainAid

theorem Ints.empty (w : World) (base : Nat) (hb : base ≤ w.heap.size) : Ints (w.alloc (.cells #[] 3)) base (.slice (some ⟨w.heap.size, 0, none⟩) 0 0) [] :=
  World.ownsRow_lit w #[] 0 hb (by decide) rfl

theorem Ints.below_at {w W w' : World} {n : Nat} {v : Value} {l : List Int} (hI : Ints W n v l) (hB : Below n w W) (hn : n ≤ W.heap.size) (hg : W.grownBy w' v.ownBlock) : Below n w w' :=
  hB.grown hg hn fun k hk => (World.ownsRow.lt hI k hk).1
theorem Ints.drew {w : World} {base : Nat} {v : Value} {l : List Int} (h : Ints w base v l) : Ints w.drew base v l := h

/-- the same where the order is drawn -/
theorem step_append_int {ops : Array Oper} {o : Oper} {a : Act} {K : Act → World → Prop} {Q : Exit → Act → World → Prop} {E : Prop} {w : World} (hgd : o.guard = none) (s x : Operand)
    (ho : o.op = .call { callee := .builtin .append, args := #[s, x], argTypes := #[28, 28] })
    (base : Nat) (v : Value) (l : List Int) (y : Int) (B : Nat) (hs : a.eval s = v) (hown : Ints w base v l) (hx : a.eval x = .slice (some ⟨B, 0, none⟩) 1 1)
    (hc : w.cell? ⟨B, 0, none⟩ = some (.int .i64 y)) (hl : l.length ≤ 1000) (hbase : base ≤ w.heap.size)
    (h : ∀ g cap w', Ints w' base (.slice (some ⟨g, 0, none⟩) (l.length + 1) cap) (l ++ [y]) → w.grownBy w' v.ownBlock → K (a.put o.dst (.slice (some ⟨g, 0, none⟩) (l.length + 1) cap)) w') :
    if Region.wanted o (yielded ops a.tmps) = true then Oper.wp Tryd.prog o a w K Q else E := by
  obtain ⟨i0, hi, hz0, hz1, hz2⟩ := info_parts infoInt
  refine step_append_lies w hgd s x 28 ho base 3 i0 (.int .i64 0) 1 8 Tryd.underlying28 hi hz0 hz1 hz2 rfl (by decide) v l.length (l.map (Value.int .i64)) hs hown ⟨B, 0, none⟩ 1 1 [.int .i64 y] hx rfl ?_ ?_ (by omega) (by unfold maxLen; omega) (by omega) hbase _ rfl ?_
  · intro j u hu
    rcases j with _ | j
    · simp at hu; subst hu; simpa [Addr.add] using hc
    · simp at hu
  · intro u hu; simp at hu; subst hu; rfl
  · intro g cap w' ho' hg _ _
    exact h g cap w' (by unfold Ints; simpa using ho') hg

def dig (s : ByteArray) (i : Nat) : Int := bt s (2 * i) + 256 * bt s (2 * i + 1)
def digs (s : ByteArray) (k : Nat) : List Int := (List.range k).map (dig s)
theorem digs_succ (s : ByteArray) (k : Nat) : digs s (k + 1) = digs s k ++ [dig s k] := by simp [digs, List.range_succ]
theorem digs_length (s : ByteArray) (k : Nat) : (digs s k).length = k := by simp [digs]
def DigRel (w : World) (s : ByteArray) (v i : Value) (wr : World) : Prop := ∃ k g cap : Nat, k ≤ 16 ∧ i = .int .i64 k ∧ v = .slice (some ⟨g, 0, none⟩) k cap ∧ Ints wr w.heap.size v (digs s k) ∧ Below w.heap.size w wr

set_option maxHeartbeats 1000000 in
theorem digits_any (s : ByteArray) (hs : s.size = 32) (w : World) :
    Calls Tryd.prog 16 #[.string s] w fun e w' => ∃ v, e = .returned v ∧ Ints w' w.heap.size v (digs s 16) ∧ Below w.heap.size w w' := by
  have hb := get_bt s
  go_enter Tryd.func16, Tryd.ntmps16
  go_wp2_with fail
  go_loopw [3, 4] (DigRel w s) (fun _ i _ => 16 - (intOf i).toNat)
  case atStart => exact ⟨0, _, _, by omega, rfl, rfl, Ints.empty w _ (Nat.le_refl _), by go_grown⟩
  case round =>
    obtain ⟨k, g, cap, hk, rfl, rfl, hI, hB⟩ := hrel
    have hsz := hB.size
    by_cases hlt : k < 16
    · have h1 : (k : Int) < 16 := by omega
      have e1 : IntKind.i64.wrap (2 * (k : Int)) = 2 * (k : Int) := IntWalk.i64_in _ (by omega)
      have e2 : IntKind.i64.wrap (2 * (k : Int) + 1) = 2 * (k : Int) + 1 := IntWalk.i64_in _ (by omega)
      have e3 : (2 * (k : Int)).toNat = 2 * k := by omega
      have e4 : (2 * (k : Int) + 1).toNat = 2 * k + 1 := by omega
      have b1 := bt_nonneg s (2 * k); have b2 := bt_le s (2 * k); have b3 := bt_nonneg s (2 * k + 1); have b4 := bt_le s (2 * k + 1)
      have c1 : (0 : Int) ≤ 2 * (k : Int) := by omega
      have c2 : 2 * (k : Int) < (s.size : Int) := by omega
      have c3 : (0 : Int) ≤ 2 * (k : Int) + 1 := by omega
      have c4 : 2 * (k : Int) + 1 < (s.size : Int) := by omega
      have w1 : IntKind.i64.wrap (bt s (2 * k)) = bt s (2 * k) := IntWalk.i64_in _ (by omega)
      have w2 : IntKind.i64.wrap (bt s (2 * k + 1)) = bt s (2 * k + 1) := IntWalk.i64_in _ (by omega)
      have w3 : IntKind.i64.wrap (256 * bt s (2 * k + 1)) = 256 * bt s (2 * k + 1) := IntWalk.i64_in _ (by omega)
      have w4 : IntKind.i64.wrap (bt s (2 * k) + 256 * bt s (2 * k + 1)) = bt s (2 * k) + 256 * bt s (2 * k + 1) := IntWalk.i64_in _ (by omega)
      have HI := Lib.hid hI
      have HS := Lib.hid hs
      clear hI hs
      go_wp2_with fail
      go_region_law (first | (refine step_append_int rfl _ _ rfl w.heap.size _ (digs s k) (bt s (2 * k) + 256 * bt s (2 * k + 1)) wr.heap.size rfl ?_ rfl ?_ ?_ ?_ ?_; exact (HI.out.alloc _); simp; (rw [digs_length]; omega); (simp; omega); intro g' cap' w' hI' hg'))
      all_goals
        have hB' := (HI.out.alloc (.cells #[.int .i64 (bt s (2 * k) + 256 * bt s (2 * k + 1))] 3)).drew.below_at (hB.alloc hsz _).drew (by simp; omega) hg'
        clear hg' hB
        rw [digs_length] at hI'
        go_wp2_with fail
        refine ⟨⟨k + 1, g', cap', by omega, by simp, by simp [digs_length], ?_, hB'⟩, by simp [intOf]; omega⟩
        rw [digs_succ, digs_length]
        exact hI'
    · obtain rfl : k = 16 := by omega
      go_wp2_with fail
      go_ret
      exact ⟨_, rfl, hI, hB⟩
end Go.Proofs.YtccjhlipcgpkmaaDoor
