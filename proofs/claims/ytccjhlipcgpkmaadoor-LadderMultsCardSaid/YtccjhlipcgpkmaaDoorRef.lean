/- The contracts of the reference's functions over digits: prime. -/
import Derived.Test.YtccjhlipcgpkmaaDoorRows
import Derived.WalkKit
import Derived.ProofKit
import Derived.Handy
import Derived.Lib.Hide
import Derived.Laws.OwnMore
import Derived.Deep.AppendLies
namespace Go.Proofs.YtccjhlipcgpkmaaDoor
open Go.RowKit

/-- a slice of ints of the call's own that reads as l -/
def Ints (w : World) (base : Nat) (v : Value) (l : List Int) : Prop := w.ownsRow base 3 1 v l.length (l.map (Value.int .i64))
def lenOf : Value → Nat
  | .slice _ n _ => n
  | _ => 0

theorem infoInt : (Tryd.prog.info? 3).map (fun i => (i.zero, i.size, i.bytes)) = some (some (.int .i64 0), 1, 8) := by kernel_rfl

theorem Ints.lit (w : World) (base : Nat) (hb : base ≤ w.heap.size) (x : Int) : Ints (w.alloc (.cells #[.int .i64 x] 3)) base (.slice (some ⟨w.heap.size, 0, none⟩) 1 1) [x] :=
  World.ownsRow_lit w #[.int .i64 x] 1 hb (by decide) rfl

theorem Ints.alloc {w : World} {base : Nat} {v : Value} {l : List Int} (h : Ints w base v l) (o : Obj) : Ints (w.alloc o) base v l := World.ownsRow.alloc h o

/-- one int put behind a slice of the call's own -/
theorem append_int {ops : Array Oper} {rest : List Oper} {o : Oper} {a : Act} {Q : Exit → Act → World → Prop} {w : World} (hgd : o.guard = none) (s x : Operand)
    (ho : o.op = .call { callee := .builtin .append, args := #[s, x], argTypes := #[28, 28] })
    (base : Nat) (v : Value) (l : List Int) (y : Int) (B : Nat) (hs : a.eval s = v) (hown : Ints w base v l) (hx : a.eval x = .slice (some ⟨B, 0, none⟩) 1 1)
    (hc : w.cell? ⟨B, 0, none⟩ = some (.int .i64 y)) (hl : l.length ≤ 1000) (hbase : base ≤ w.heap.size)
    (h : ∀ g cap w', Ints w' base (.slice (some ⟨g, 0, none⟩) (l.length + 1) cap) (l ++ [y]) → w.grownBy w' v.ownBlock → wpList Tryd.prog ops Q rest (a.put o.dst (.slice (some ⟨g, 0, none⟩) (l.length + 1) cap)) w') :
    wpList Tryd.prog ops Q (o :: rest) a w := by
  obtain ⟨i0, hi, hz0, hz1, hz2⟩ := info_parts infoInt
  refine wpList_append_own w hgd s x 28 ho base 3 i0 (.int .i64 0) 1 8 Tryd.underlying28 hi hz0 hz1 hz2 rfl (by decide) v l.length (l.map (Value.int .i64)) hs hown ⟨B, 0, none⟩ 1 1 [.int .i64 y] hx rfl ?_ ?_ (by unfold maxLen; omega) (by omega) hbase ?_
  · intro j u hu
    rcases j with _ | j
    · simp at hu; subst hu; simpa [Addr.add] using hc
    · simp at hu
  · intro u hu; simp at hu; subst hu; rfl
  · intro v' w' ho' hg _
    obtain ⟨g, cap, rfl, -, -⟩ := World.ownsRow.form ho' (by omega)
    exact h g cap w' (by unfold Ints; simpa using ho') hg

theorem Ints.below_grown {w wr w' : World} {n : Nat} {v : Value} {l : List Int} {o : Obj} (hI : Ints wr n v l) (hB : Below n w wr) (hn : n ≤ wr.heap.size) (hg : (wr.alloc o).grownBy w' v.ownBlock) : Below n w w' :=
  (hB.alloc hn o).grown hg (by simp; omega) fun k hk => (World.ownsRow.lt hI k hk).1

def primeDigits : List Int := [65517, 65535, 65535, 65535, 65535, 65535, 65535, 65535, 65535, 65535, 65535, 65535, 65535, 65535, 65535, 32767]
def PrimeRel (w : World) (v : Value) (wr : World) : Prop := ∃ (k g cap : Nat), k ≤ 14 ∧ v = .slice (some ⟨g, 0, none⟩) (k + 1) cap ∧ Ints wr w.heap.size v (65517 :: List.replicate k 65535) ∧ Below w.heap.size w wr

set_option maxHeartbeats 1000000 in
theorem refPrime_any (w : World) :
    Calls Tryd.prog 43 #[] w fun e w' => ∃ v, e = .returned v ∧ Ints w' w.heap.size v primeDigits ∧ Below w.heap.size w w' := by
  go_enter Tryd.func43, Tryd.ntmps43
  go_wp2_with fail
  go_loopw [1] (PrimeRel w) (fun v _ => 15 - lenOf v)
  case atStart => exact ⟨0, _, _, by omega, rfl, Ints.lit w _ (Nat.le_refl _) _, by go_grown⟩
  case round =>
    obtain ⟨k, g, cap, hk, rfl, hI, hB⟩ := hrel
    have hsz := hB.size
    by_cases hlt : k < 14
    · have h1 : ((k : Int) + 1 < 15) := by omega
      have h2 : decide ((k : Int) + 1 < 15) = true := by simp; omega
      go_wp2_with (at_builtin; refine append_int rfl _ _ rfl w.heap.size _ (65517 :: List.replicate k 65535) 65535 wr.heap.size rfl ?c0 rfl ?c1 ?c2 ?c3 ?_)
      case c0 => exact hI.alloc _
      case c1 => simp
      case c2 => simp; omega
      case c3 => simp; omega
      intro g' cap' w' hI' hg'
      have hB' := hI.below_grown hB hsz hg'
      clear hI hg' hB
      go_wp2_with fail
      refine ⟨⟨k + 1, g', cap', by omega, by simp, ?_, hB'⟩, by simp [lenOf]; omega⟩
      rw [List.replicate_succ']
      simpa using hI'
    · obtain rfl : k = 14 := by omega
      go_wp2_with (at_builtin; refine append_int rfl _ _ rfl w.heap.size _ (65517 :: List.replicate 14 65535) 32767 wr.heap.size rfl ?d0 rfl ?d1 ?d2 ?d3 ?_)
      case d0 => exact hI.alloc _
      case d1 => simp
      case d2 => simp
      case d3 => simp; omega
      intro g' cap' w' hI' hg'
      have hB' := hI.below_grown hB hsz hg'
      clear hI hg' hB
      go_wp2_with fail
      go_ret
      exact ⟨_, rfl, hI', hB'⟩
end Go.Proofs.YtccjhlipcgpkmaaDoor
