/- cmp.Less and slices.insertionSortOrdered at numbers. -/
import Derived.Test.YtmmaimopombepaaRows
import Derived.Test.YtmmaimopombepaaAp
import Derived.Test.YtmmaimopombepaaKa
import Derived.BigQuiet
import Derived.BigRegion
namespace Go.Proofs.Ytmmaimopombepaa
open Go.RowKit
set_option maxRecDepth 100000
theorem isNaN_u (x : Nat) (w : World) : Calls Try.prog 119 #[.int .u64 (x : Int)] w fun e w' => e = .returned (.bool false) ∧ w' = w := by
  go_enter Try.func119, Try.ntmps119
  go_wp2_with fail
  go_ret
  exact ⟨by simp, rfl⟩
theorem less_u (x y : Nat) (w : World) : Calls Try.prog 127 #[.int .u64 (x : Int), .int .u64 (y : Int)] w fun e w' => e = .returned (.bool (ltU x y)) ∧ w' = w := by
  obtain ⟨b, hb⟩ : ∃ b : Bool, decide ((x : Int) < (y : Int)) = b := ⟨_, rfl⟩
  have e : ltU x y = b := by unfold ltU; rw [← hb]; simp
  rw [e]
  clear e
  go_enter Try.func127, Try.ntmps127
  go_wp2_with (go_at_call 119; refine (isNaN_u _ _).mono ?_; rintro e w' ⟨rfl, rfl⟩)
  go_ret
  exact ⟨by simp [← hb], rfl⟩

/-! ### insertion -/
theorem insInner_goU (a j : Nat) (d : Array Nat) (hj : a < j) (hl : ltU d[j]! d[j - 1]! = true) : Sort.insInner ltU a j d = Sort.insInner ltU a (j - 1) (Sort.swp d j (j - 1)) := by
  obtain ⟨k, rfl⟩ : ∃ k, j = k + 1 := ⟨j - 1, by omega⟩
  rw [Sort.insInner]
  simp only [Nat.add_sub_cancel] at hl ⊢
  simp [hj, hl]
theorem insInner_stopU (a j : Nat) (d : Array Nat) (h : j ≤ a ∨ ltU d[j]! d[j - 1]! = false) : Sort.insInner ltU a j d = d := by
  cases j with
  | zero => rw [Sort.insInner]
  | succ k =>
    rw [Sort.insInner]
    simp only [Nat.add_sub_cancel] at h
    rcases h with h | h
    · simp [show ¬ k + 1 > a by omega]
    · simp [h]
def InRel (w : World) (blk off a b : Nat) (d : Array Nat) (i : Value) (wr : World) : Prop :=
  ∃ (k : Nat) (dk : Array Nat), i = .int .i64 (k : Int) ∧ a < k ∧ k ≤ b + 1 ∧ dk.size = d.size ∧ SR w wr blk off dk ∧ Sort.insOuter ltU a b k dk = Sort.insOuter ltU a b (a + 1) d
def In2Rel (w : World) (blk off a i : Nat) (dk : Array Nat) (j : Value) (wr : World) : Prop :=
  ∃ (k : Nat) (dj : Array Nat), j = .int .i64 (k : Int) ∧ a ≤ k ∧ k ≤ i ∧ dj.size = dk.size ∧ SR w wr blk off dj ∧ Sort.insInner ltU a k dj = Sort.insInner ltU a i dk
set_option maxHeartbeats 8000000 in
theorem insertion_any (blk off c a b : Nat) (d : Array Nat) (hab : a ≤ b) (hb : b ≤ d.size) (hs : d.size ≤ 1000) (w : World) (h : RowU w blk off d) :
    Calls Try.prog 121 #[.slice (some ⟨blk, off, none⟩) d.size c, .int .i64 (a : Int), .int .i64 (b : Int)] w fun e w' => e = .returned (.tuple #[]) ∧ SR w w' blk off (Sort.insertionSort ltU d a b) := by
  have S0 := Lib.hid (SR.refl h)
  have hN := Lib.hid (And.intro hab (And.intro hb hs))
  have q1 : (a : Int) ≤ 1000 := by omega
  have q2 : (b : Int) ≤ 1000 := by omega
  clear h hab hb hs
  go_enter Try.func121, Try.ntmps121
  go_wp2_with fail
  go_loopw [6] (InRel w blk off a b d) (fun i _ => b + 1 - (Lib.intOf i).toNat)
  case atStart => exact ⟨a + 1, d, by go_num, by omega, by have := hN.out; omega, rfl, S0.out, rfl⟩
  case round =>
    obtain ⟨i, dk, rfl, h1, h2, h3, h4, h5⟩ := hrel
    have Hk := Lib.hid (And.intro h1 (And.intro h2 (And.intro h3 (And.intro h4 h5))))
    clear h1 h2 h3 h4 h5 S0
    have q3 : (i : Int) ≤ 1001 := by have := Hk.out.2.1; omega
    by_cases hlt : (i : Int) < (b : Int)
    · go_wp2_with fail
      go_loopw [7] (In2Rel w blk off a i dk) (fun j _ => (Lib.intOf j).toNat)
      case atStart => exact ⟨i, dk, rfl, by have := Hk.out.1; omega, Nat.le_refl _, rfl, Hk.out.2.2.2.1, rfl⟩
      case round =>
        obtain ⟨j, dj, rfl, g1, g2, g3, g4, g5⟩ := hrel
        rename_i wr _ _ _ _ _ _ _ _ _ _ _ _ _ _ _ _ _ _ _ _ _ _ _ _ _ _ _ _ _ _ _ _ _ _
        have hsz : dj.size = d.size := g3.trans Hk.out.2.2.1
        obtain ⟨G, hG, hcw, hfw⟩ := g4.row.fam d.size hsz
        have out : (j ≤ a ∨ ltU (G j) (G (j - 1)) = false) → Sort.insInner ltU a i dk = dj := fun hs => by
          rw [← g5, insInner_stopU _ _ _ (by rw [hG, hG] at hs; exact hs)]
        have OUT := Lib.hid out
        have HG := Lib.hid hG
        have Hj := Lib.hid (And.intro g1 (And.intro g2 (And.intro hsz (And.intro g4 g5))))
        have hbs : b ≤ d.size := hN.out.2.1
        have hji : j ≤ i := g2
        have hs1 : d.size ≤ 1000 := hN.out.2.2
        have hib : i < b := by omega
        clear out hG g1 g2 g3 g4 g5 hsz
        go_wp2_with fail
        by_cases hja : a < j
        · go_quiet (first | (go_at_call 127; refine Calls.quiet_of_same (less_u _ _ _)))
          go_wp2_with fail
          · have hl : ltU (G j) (G (j - 1)) = true := by assumption
            go_region
            all_goals go_wp2_with fail
            have hsz := Hj.out.2.2.1
            refine ⟨⟨j - 1, Sort.swp dj j (j - 1), by congr 1; omega, by omega, by omega, by rw [Sort.size_swp, hsz, Hk.out.2.2.1], Hj.out.2.2.2.1.swapG HG.out (nq + 1) j (j - 1) (by omega) (by omega), ?_⟩, by simp [Lib.intOf]; omega⟩
            rw [← Hj.out.2.2.2.2, insInner_goU a j dj hja (by rw [← HG.out, ← HG.out]; exact hl)]
          · have hl : ltU (G j) (G (j - 1)) = false := by assumption
            have e := OUT.out (Or.inr hl)
            have ho := Hk.out.2.2.2.2
            rw [Sort.insOuter, if_pos (show i < b by omega), e] at ho
            exact ⟨⟨i + 1, dj, by go_num, by omega, by omega, Hj.out.2.2.1, Hj.out.2.2.2.1.drewN nq, ho⟩, by simp [Lib.intOf]; omega⟩
        · go_quiet (first | (go_at_call 127; refine Calls.quiet_of_same (less_u _ _ _)))
          go_wp2_with fail
          have e := OUT.out (Or.inl (by omega))
          have ho := Hk.out.2.2.2.2
          rw [Sort.insOuter, if_pos (show i < b by omega), e] at ho
          exact ⟨⟨i + 1, dj, by go_num, by have := Hk.out.1; omega, by omega, Hj.out.2.2.1, Hj.out.2.2.2.1.drewN nq, ho⟩, by simp [Lib.intOf]; omega⟩
    · go_wp2_with fail
      go_end0
      refine ⟨rfl, ?_⟩
      have e := Hk.out.2.2.2.2
      rw [Sort.insOuter, if_neg (by omega)] at e
      unfold Sort.insertionSort
      rw [← e]
      exact Hk.out.2.2.2.1
end Go.Proofs.Ytmmaimopombepaa