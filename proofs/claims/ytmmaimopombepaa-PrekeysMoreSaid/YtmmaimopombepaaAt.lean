/- slices.partialInsertionSortOrdered below 50 and slices.reverseRangeOrdered at numbers. -/
import Derived.Test.YtmmaimopombepaaAs
import Derived.Sort.LotA
namespace Go.Proofs.Ytmmaimopombepaa
open Go.RowKit
set_option maxRecDepth 100000
def PiRel (w : World) (blk off a b : Nat) (d : Array Nat) (v : Value) (wr : World) : Prop :=
  ∃ (k : Nat) (W : World), W = wr ∧ v = .int .i64 (k : Int) ∧ a < k ∧ k ≤ b ∧ SR w wr blk off d ∧ Sort.SortedIn ltU a k d
def P0Rel (w : World) (u v : Value) (wr : World) : Prop := u = .int .i64 0 ∧ w = wr ∧ v = v
set_option maxHeartbeats 8000000 in
theorem partial_any (blk off c a b n : Nat) (d : Array Nat) (hn : d.size = n) (hab : a < b) (hb : b ≤ n) (hs : n < 50) (w : World) (h : RowU w blk off d) :
    Calls Try.prog 126 #[.slice (some ⟨blk, off, none⟩) n c, .int .i64 (a : Int), .int .i64 (b : Int)] w fun e w' => ∃ r : Bool, e = .returned (.bool r) ∧ SR w w' blk off d ∧ (r = true → Sort.SortedIn ltU a b d) := by
  have H0 := Lib.hid h
  have q1 : (a : Int) ≤ 50 := by omega
  have q2 : (b : Int) ≤ 50 := by omega
  have q3 : (b : Int) - (a : Int) < 50 := by omega
  have hD := Lib.hid hn
  clear h hn
  go_enter Try.func126, Try.ntmps126
  go_wp2_with fail
  go_loopw [7, 8] (fun v u wr => u = .int .i64 0 ∧ v = .int .i64 ((a : Int) + 1) ∧ w = wr) (fun _ _ _ => 0)
  case atStart => exact ⟨rfl, rfl, rfl⟩
  case round =>
    obtain ⟨rfl, rfl, rfl⟩ := hrel
    go_wp2_with fail
    go_loopw [7] (PiRel w blk off a b d) (fun v _ => b - (Lib.intOf v).toNat)
    case atStart => exact ⟨a + 1, _, rfl, by go_num, by omega, by omega, SR.refl H0.out, fun x y h1 h2 h3 => by omega⟩
    case round =>
      obtain ⟨k, wr, rfl, rfl, h1, h2, h3, h4⟩ := hrel
      obtain ⟨G, hG, hcw, hfw⟩ := h3.row.fam n hD.out
      have HG := Lib.hid hG
      have Hk := Lib.hid (And.intro h3 h4)
      clear hG h3 h4
      by_cases hkb : k < b
      · have hkz : (k : Int) < (b : Int) := by omega
        have hk1 : k < n := by omega
        go_wp2_with fail
        go_quiet (first | (go_at_call 127; refine Calls.quiet_of_same (less_u _ _ _)))
        go_wp2_with fail
        · have hl : ltU (G k) (G (k - 1)) = false := notT (by assumption)
          rw [HG.out, HG.out] at hl
          exact ⟨⟨k + 1, _, rfl, by go_num, by omega, by omega, Hk.out.1.drewN _, Hk.out.2.snoc swoU hl⟩, by simp [Lib.intOf]; omega⟩
        · have hke : ((k : Int) == (b : Int)) = false := by simp; omega
          have hne : ¬ (k : Int) = (b : Int) := by omega
          go_wp2_with fail
          go_ret
          exact ⟨false, rfl, Hk.out.1.drewN _, fun e => by cases e⟩
      · have hkz : decide ((k : Int) < (b : Int)) = false := decide_eq_false (by omega)
        obtain rfl : k = b := by omega
        go_wp2_with fail
        go_quiet (first | (go_at_call 127; refine Calls.quiet_of_same (less_u _ _ _)))
        go_wp2_with fail
        go_ret
        exact ⟨true, rfl, Hk.out.1.drewN _, fun _ => Hk.out.2⟩

/-! ### the other way round -/
def RvRel (w : World) (blk off a b n : Nat) (d : Array Nat) (v u : Value) (wr : World) : Prop :=
  ∃ (i j : Nat) (dk : Array Nat) (W : World), W = wr ∧ v = .int .i64 (i : Int) ∧ u = .int .i64 (j : Int) ∧ a ≤ i ∧ i ≤ j + 1 ∧ j < b ∧ dk.size = n ∧ SR w wr blk off dk ∧ Sort.PermIn a b d dk
set_option maxHeartbeats 8000000 in
theorem reverse_any (blk off c a b n : Nat) (d : Array Nat) (hn : d.size = n) (hab : a < b) (hb : b ≤ n) (hs : n ≤ 1000) (w : World) (h : RowU w blk off d) :
    Calls Try.prog 125 #[.slice (some ⟨blk, off, none⟩) n c, .int .i64 (a : Int), .int .i64 (b : Int)] w fun e w' => e = .returned (.tuple #[]) ∧ ∃ d', d'.size = n ∧ SR w w' blk off d' ∧ Sort.PermIn a b d d' := by
  have H0 := Lib.hid (And.intro h hn)
  have q1 : (a : Int) ≤ 1000 := by omega
  have q2 : (b : Int) ≤ 1000 := by omega
  clear h hn
  go_enter Try.func125, Try.ntmps125
  go_wp2_with fail
  go_loopw [6, 7] (RvRel w blk off a b n d) (fun v u _ => (Lib.intOf u + 1 - Lib.intOf v + 1).toNat)
  case atStart => exact ⟨a, b - 1, d, _, rfl, rfl, by congr 1; omega, Nat.le_refl _, by omega, by omega, H0.out.2, SR.refl H0.out.1, Sort.permIn_refl _ _ _⟩
  case round =>
    obtain ⟨i, j, dk, wr, rfl, rfl, rfl, g1, g2, g3, g4, g5, g6⟩ := hrel
    obtain ⟨G, hG, hcw, hfw⟩ := g5.row.fam n g4
    have HG := Lib.hid hG
    have Hk := Lib.hid (And.intro g4 (And.intro g5 g6))
    clear hG g4 g5 g6
    by_cases hij : i < j
    · have hijz : (i : Int) < (j : Int) := by omega
      have hk1 : j < n := by omega
      have hk2 : i < n := by omega
      go_wp2_with fail
      go_region
      all_goals go_wp2_with fail
      have hsz := Hk.out.1
      refine ⟨⟨i + 1, j - 1, Sort.swp dk i j, _, rfl, by go_num, by congr 1; omega, by omega, by omega, by omega, by rw [Sort.size_swp]; exact hsz, Hk.out.2.1.swapG HG.out _ i j (by omega) (by omega), ?_⟩, by simp [Lib.intOf]; omega⟩
      exact Sort.permIn_trans _ _ _ a b Hk.out.2.2 (Sort.swp_permIn dk a b i j (by omega) (by omega) (by omega) (by omega) (by omega))
    · have hijz : ¬ (i : Int) < (j : Int) := by omega
      go_wp2_with fail
      go_end0
      exact ⟨rfl, dk, Hk.out.1, Hk.out.2.1, Hk.out.2.2⟩
end Go.Proofs.Ytmmaimopombepaa