/- slices.siftDownOrdered and slices.heapSortOrdered at numbers. -/
import Derived.Test.YtmmaimopombepaaAq
namespace Go.Proofs.Ytmmaimopombepaa
open Go.RowKit
set_option maxRecDepth 100000
/-- the greater child -/
def PickU (d : Array Nat) (hi F r c : Nat) : Prop := c < hi ∧ ((c = 2 * r + 2 ∧ ltU d[F + (2 * r + 1)]! d[F + (2 * r + 2)]! = true) ∨ (c = 2 * r + 1 ∧ (2 * r + 2 < hi → ltU d[F + (2 * r + 1)]! d[F + (2 * r + 2)]! = false)))
theorem sd_endU {d : Array Nat} {hi F r : Nat} (h : hi ≤ 2 * r + 1) : Sort.siftDown ltU hi F r d = d := by rw [Sort.siftDown, dif_pos h]
theorem sd_stopU {d : Array Nat} {hi F r c : Nat} (h : PickU d hi F r c) (hl : ltU d[F + r]! d[F + c]! = false) : Sort.siftDown ltU hi F r d = d := by
  obtain ⟨hc, ⟨rfl, h1⟩ | ⟨rfl, h1⟩⟩ := h
  · rw [Sort.siftDown, dif_neg (by omega), if_pos (by simp only [Bool.and_eq_true, decide_eq_true_eq]; exact ⟨by omega, h1⟩), if_pos (by rw [hl]; rfl)]
  · rw [Sort.siftDown, dif_neg (by omega), if_neg (by
      simp only [Bool.and_eq_true, decide_eq_true_eq, not_and]
      intro h2
      rw [show F + (2 * r + 1) + 1 = F + (2 * r + 2) by omega, h1 (by omega)]; decide), if_pos (by rw [hl]; rfl)]
theorem sd_goU {d : Array Nat} {hi F r c : Nat} (h : PickU d hi F r c) (hl : ltU d[F + r]! d[F + c]! = true) : Sort.siftDown ltU hi F r d = Sort.siftDown ltU hi F c (Sort.swp d (F + r) (F + c)) := by
  obtain ⟨hc, ⟨rfl, h1⟩ | ⟨rfl, h1⟩⟩ := h
  · conv => lhs; rw [Sort.siftDown]
    rw [dif_neg (by omega), if_pos (by simp only [Bool.and_eq_true, decide_eq_true_eq]; exact ⟨by omega, h1⟩), if_neg (by rw [hl]; decide), dif_pos (by omega)]
  · conv => lhs; rw [Sort.siftDown]
    rw [dif_neg (by omega), if_neg (by
      simp only [Bool.and_eq_true, decide_eq_true_eq, not_and]
      intro h2
      rw [show F + (2 * r + 1) + 1 = F + (2 * r + 2) by omega, h1 (by omega)]; decide), if_neg (by rw [hl]; decide)]
def SdRel (w : World) (blk off hi F lo : Nat) (d : Array Nat) (r : Value) (wr : World) : Prop :=
  ∃ (k : Nat) (dk : Array Nat) (W : World), W = wr ∧ r = .int .i64 (k : Int) ∧ k ≤ hi ∧ dk.size = d.size ∧ SR w wr blk off dk ∧ Sort.siftDown ltU hi F k dk = Sort.siftDown ltU hi F lo d
set_option maxHeartbeats 8000000 in
theorem siftDown_any (blk off c lo hi F n : Nat) (d : Array Nat) (hn : d.size = n) (hlo : lo ≤ hi) (hF : F + hi ≤ n) (hs : n ≤ 1000) (w : World) (h : RowU w blk off d) :
    Calls Try.prog 134 #[.slice (some ⟨blk, off, none⟩) n c, .int .i64 (lo : Int), .int .i64 (hi : Int), .int .i64 (F : Int)] w fun e w' => e = .returned (.tuple #[]) ∧ SR w w' blk off (Sort.siftDown ltU hi F lo d) := by
  have S0 := Lib.hid (SR.refl h)
  have hD := Lib.hid hn
  clear h hn
  go_enter Try.func134, Try.ntmps134
  go_wp2_with fail
  go_loopw [8] (SdRel w blk off hi F lo d) (fun i _ => hi - (Lib.intOf i).toNat)
  case atStart => exact ⟨lo, d, _, rfl, rfl, hlo, rfl, S0.out, rfl⟩
  case round =>
    obtain ⟨r, dk, wr, rfl, rfl, h1, h2, h3, h4⟩ := hrel
    have hsz : dk.size = n := h2.trans hD.out
    obtain ⟨G, hG, hcw, hfw⟩ := h3.row.fam n hsz
    have HG := Lib.hid hG
    have Hk := Lib.hid (And.intro hsz (And.intro h3 h4))
    clear S0 hG hsz h2 h3 h4
    by_cases h0 : hi ≤ 2 * r + 1
    · have h0z : (hi : Int) ≤ 2 * (r : Int) + 1 := by omega
      go_wp2_with fail
      go_end0
      have e := Hk.out.2.2
      rw [sd_endU h0] at e
      exact ⟨rfl, by rw [← e]; exact Hk.out.2.1⟩
    · have h0z : ¬ (hi : Int) ≤ 2 * (r : Int) + 1 := by omega
      by_cases h1 : 2 * r + 2 < hi
      · have h1z : 2 * (r : Int) + 1 + 1 < (hi : Int) := by omega
        go_wp2_with fail
        go_big_quiet (first | (go_at_call 127; refine Calls.quiet_of_same (less_u _ _ _)))
        go_wp2_with fail
        · have hL : ltU (G (F + 2 * r + 1)) (G (F + 2 * r + 2)) = true := by assumption
          revert nq; intro nq1
          have hcw2 : ∀ t, t < n → (wr.drewN nq1).cell? ⟨blk, off + t, none⟩ = some (.int .u64 (G t : Int)) := hcw
          have hfw2 : ∀ t, t < n → (wr.drewN nq1).frozen? ⟨blk, off + t, none⟩ = false := hfw
          have HS := Lib.hid (Hk.out.2.1.drewN nq1)
          clear hcw hfw
          generalize wr.drewN nq1 = wr2 at hcw2 hfw2 HS ⊢
          have hP : PickU dk hi F r (2 * r + 2) := ⟨h1, Or.inl ⟨rfl, by rw [← HG.out, ← HG.out]; exact hL⟩⟩
          have HP := Lib.hid hP
          clear hP
          go_big_quiet (first | (go_at_call 127; refine Calls.quiet_of_same (less_u _ _ _)))
          go_wp2_with fail
          · have hS : (!ltU (G (F + r)) (G (F + 2 * r + 2))) = true := by assumption
            (try simp only [Exit.inBlock, Exit.then]); refine bodyPost_ret (results_none rfl _ _ _) rfl ?_
            have e := Hk.out.2.2
            rw [sd_stopU HP.out (by rw [← HG.out, ← HG.out, ← Nat.add_assoc]; simpa using hS)] at e
            exact ⟨rfl, by rw [← e]; exact HS.out.drewN _⟩
          · have hS : (!ltU (G (F + r)) (G (F + 2 * r + 2))) = false := by assumption
            go_region
            all_goals go_wp2_with fail
            have e := Hk.out.2.2
            rw [sd_goU HP.out (by rw [← HG.out, ← HG.out, ← Nat.add_assoc]; simpa using hS)] at e
            have hsz := Hk.out.1
            exact ⟨⟨2 * r + 2, Sort.swp dk (F + r) (F + (2 * r + 2)), _, rfl, by congr 1, by have := HP.out.1; omega, by rw [Sort.size_swp, hsz, hD.out], SR.swapG HS.out HG.out _ (F + r) (F + (2 * r + 2)) (by rw [hsz]; have := HP.out.1; omega) (by rw [hsz]; have := HP.out.1; omega), e⟩, by simp [Lib.intOf]; omega⟩
        · have hL : ltU (G (F + 2 * r + 1)) (G (F + 2 * r + 2)) = false := by assumption
          revert nq; intro nq1
          have hcw2 : ∀ t, t < n → (wr.drewN nq1).cell? ⟨blk, off + t, none⟩ = some (.int .u64 (G t : Int)) := hcw
          have hfw2 : ∀ t, t < n → (wr.drewN nq1).frozen? ⟨blk, off + t, none⟩ = false := hfw
          have HS := Lib.hid (Hk.out.2.1.drewN nq1)
          clear hcw hfw
          generalize wr.drewN nq1 = wr2 at hcw2 hfw2 HS ⊢
          have hP : PickU dk hi F r (2 * r + 1) := ⟨by omega, Or.inr ⟨rfl, fun _ => by rw [← HG.out, ← HG.out]; exact hL⟩⟩
          have HP := Lib.hid hP
          clear hP
          go_big_quiet (first | (go_at_call 127; refine Calls.quiet_of_same (less_u _ _ _)))
          go_wp2_with fail
          · have hS : (!ltU (G (F + r)) (G (F + 2 * r + 1))) = true := by assumption
            (try simp only [Exit.inBlock, Exit.then]); refine bodyPost_ret (results_none rfl _ _ _) rfl ?_
            have e := Hk.out.2.2
            rw [sd_stopU HP.out (by rw [← HG.out, ← HG.out, ← Nat.add_assoc]; simpa using hS)] at e
            exact ⟨rfl, by rw [← e]; exact HS.out.drewN _⟩
          · have hS : (!ltU (G (F + r)) (G (F + 2 * r + 1))) = false := by assumption
            go_region
            all_goals go_wp2_with fail
            have e := Hk.out.2.2
            rw [sd_goU HP.out (by rw [← HG.out, ← HG.out, ← Nat.add_assoc]; simpa using hS)] at e
            have hsz := Hk.out.1
            exact ⟨⟨2 * r + 1, Sort.swp dk (F + r) (F + (2 * r + 1)), _, rfl, by congr 1, by have := HP.out.1; omega, by rw [Sort.size_swp, hsz, hD.out], SR.swapG HS.out HG.out _ (F + r) (F + (2 * r + 1)) (by rw [hsz]; have := HP.out.1; omega) (by rw [hsz]; have := HP.out.1; omega), e⟩, by simp [Lib.intOf]; omega⟩
      · have h1z : decide (2 * (r : Int) + 1 + 1 < (hi : Int)) = false := decide_eq_false (by omega)
        go_wp2_with fail
        go_big_quiet (first | (go_at_call 127; refine Calls.quiet_of_same (less_u _ _ _)))
        go_wp2_with fail
        revert nq; intro nq1
        have hcw2 : ∀ t, t < n → (wr.drewN nq1).cell? ⟨blk, off + t, none⟩ = some (.int .u64 (G t : Int)) := hcw
        have hfw2 : ∀ t, t < n → (wr.drewN nq1).frozen? ⟨blk, off + t, none⟩ = false := hfw
        have HS := Lib.hid (Hk.out.2.1.drewN nq1)
        clear hcw hfw
        generalize wr.drewN nq1 = wr2 at hcw2 hfw2 HS ⊢
        have hP : PickU dk hi F r (2 * r + 1) := ⟨by omega, Or.inr ⟨rfl, fun h => absurd h h1⟩⟩
        have HP := Lib.hid hP
        clear hP
        go_big_quiet (first | (go_at_call 127; refine Calls.quiet_of_same (less_u _ _ _)))
        go_wp2_with fail
        · have hS : (!ltU (G (F + r)) (G (F + 2 * r + 1))) = true := by assumption
          (try simp only [Exit.inBlock, Exit.then]); refine bodyPost_ret (results_none rfl _ _ _) rfl ?_
          have e := Hk.out.2.2
          rw [sd_stopU HP.out (by rw [← HG.out, ← HG.out, ← Nat.add_assoc]; simpa using hS)] at e
          exact ⟨rfl, by rw [← e]; exact HS.out.drewN _⟩
        · have hS : (!ltU (G (F + r)) (G (F + 2 * r + 1))) = false := by assumption
          go_region
          all_goals go_wp2_with fail
          have e := Hk.out.2.2
          rw [sd_goU HP.out (by rw [← HG.out, ← HG.out, ← Nat.add_assoc]; simpa using hS)] at e
          have hsz := Hk.out.1
          exact ⟨⟨2 * r + 1, Sort.swp dk (F + r) (F + (2 * r + 1)), _, rfl, by congr 1, by have := HP.out.1; omega, by rw [Sort.size_swp, hsz, hD.out], SR.swapG HS.out HG.out _ (F + r) (F + (2 * r + 1)) (by rw [hsz]; have := HP.out.1; omega) (by rw [hsz]; have := HP.out.1; omega), e⟩, by simp [Lib.intOf]; omega⟩

/-! ### the heap -/
def HbRel (w : World) (blk off hi F m : Nat) (d : Array Nat) (r : Value) (wr : World) : Prop :=
  ∃ (k : Nat) (z : Int) (dk : Array Nat) (W : World), W = wr ∧ r = .int .i64 z ∧ z = (k : Int) - 1 ∧ k ≤ m + 1 ∧ dk.size = d.size ∧ SR w wr blk off dk ∧ Sort.heapBuild ltU hi F k dk = Sort.heapBuild ltU hi F (m + 1) d
def HpRel (w : World) (blk off n F : Nat) (R : Array Nat) (hi : Nat) (r : Value) (wr : World) : Prop :=
  ∃ (k : Nat) (z : Int) (dk : Array Nat) (W : World), W = wr ∧ r = .int .i64 z ∧ z = (k : Int) - 1 ∧ k ≤ hi ∧ dk.size = n ∧ SR w wr blk off dk ∧ Sort.heapPop ltU F k dk = R
theorem sd_size (hi F : Nat) : ∀ (n r : Nat) (d : Array Nat), hi - r ≤ n → (Sort.siftDown ltU hi F r d).size = d.size := by
  intro n
  induction n with
  | zero => intro r d h; rw [Sort.siftDown, dif_pos (by omega)]
  | succ n ih =>
    intro r d h
    rw [Sort.siftDown]
    split
    · rfl
    · split
      · split
        · rfl
        · split
          · rw [ih _ _ (by omega), Sort.size_swp]
          · rfl
      · split
        · rfl
        · rw [ih _ _ (by omega), Sort.size_swp]
set_option maxHeartbeats 8000000 in
theorem heap_any (blk off c a b n : Nat) (d : Array Nat) (hn : d.size = n) (hab : a < b) (hb : b ≤ n) (hs : n ≤ 1000) (w : World) (h : RowU w blk off d) :
    Calls Try.prog 122 #[.slice (some ⟨blk, off, none⟩) n c, .int .i64 (a : Int), .int .i64 (b : Int)] w fun e w' => e = .returned (.tuple #[]) ∧ SR w w' blk off (Sort.heapSort ltU d a b) := by
  obtain ⟨hi, eh⟩ : ∃ hi, hi = b - a := ⟨_, rfl⟩
  obtain ⟨m, em⟩ : ∃ m, m = (hi - 1) / 2 := ⟨_, rfl⟩
  have e1 : (b : Int) - (a : Int) = (hi : Int) := by omega
  have e2 : ((hi : Int) - 1).tdiv 2 = (m : Int) := by
    rw [Int.tdiv_eq_ediv_of_nonneg (by omega)]
    omega
  have hR : Sort.heapSort ltU d a b = Sort.heapPop ltU a hi (Sort.heapBuild ltU hi a (m + 1) d) := by unfold Sort.heapSort; rw [← eh, ← em]
  rw [hR]
  have hF : a + hi ≤ n := by omega
  have hh : 1 ≤ hi := by omega
  have hm : m ≤ hi := by omega
  have q1 : (hi : Int) ≤ 1000 := by omega
  have q2 : (a : Int) ≤ 1000 := by omega
  have q3 : (b : Int) ≤ 1000 := by omega
  have q4 : (m : Int) ≤ 1000 := by omega
  have S0 := Lib.hid (SR.refl h)
  have hD := Lib.hid hn
  clear h hn hR eh em
  go_enter Try.func122, Try.ntmps122
  go_wp2_with fail
  go_loopw [9] (HbRel w blk off hi a m d) (fun i _ => (Lib.intOf i + 1).toNat)
  case atStart => exact ⟨m + 1, (m : Int), d, _, rfl, rfl, by omega, by omega, rfl, S0.out, rfl⟩
  case round =>
    obtain ⟨k, z, dk, wr, rfl, rfl, hz, h1, h2, h3, h4⟩ := hrel
    clear S0
    rcases k with _ | k
    · have hzd : ¬ (0 : Int) ≤ z := by omega
      clear hz
      have Hk := Lib.hid (And.intro h2 (And.intro h3 h4))
      clear h2 h3 h4
      go_wp2_with fail
      go_loopw [10] (HpRel w blk off n a (Sort.heapPop ltU a hi (Sort.heapBuild ltU hi a (m + 1) d)) hi) (fun i _ => (Lib.intOf i + 1).toNat)
      case atStart => exact ⟨hi, (hi : Int) - 1, dk, _, rfl, by congr 1, rfl, Nat.le_refl _, Hk.out.1.trans hD.out, Hk.out.2.1, by rw [← Hk.out.2.2]; rfl⟩
      case round =>
        obtain ⟨k, z, dj, wr2, rfl, rfl, hz2, g1, g2, g3, g4⟩ := hrel
        clear Hk
        rcases k with _ | k
        · have hzd2 : ¬ (0 : Int) ≤ z := by omega
          clear hz2
          have Hk := Lib.hid (And.intro g2 (And.intro g3 g4))
          clear g2 g3 g4
          go_wp2_with fail
          go_end0
          refine ⟨rfl, ?_⟩
          rw [← Hk.out.2.2]
          exact Hk.out.2.1
        · obtain rfl : z = (k : Int) := by omega
          obtain ⟨G, hG, hcw, hfw⟩ := g3.row.fam n g2
          have HG := Lib.hid hG
          have Hk := Lib.hid (And.intro g2 (And.intro g3 g4))
          have hkh : k < hi := by omega
          obtain ⟨u2, hu2⟩ := g3.row.second a (a + k) (by omega) (by omega) (.int .u64 (G (a + k) : Int))
          clear g2 g3 g4 hG hz2
          have hk0 : (0 : Int) ≤ (k : Int) := by omega
          go_wp2_with fail
          go_region
          all_goals go_wp2_with fail
          have hs2 := Hk.out.2.1.swapG HG.out 1 a (a + k) (by rw [Hk.out.1]; omega) (by rw [Hk.out.1]; omega)
          have hs3 := siftDown_any blk off c 0 k a n (Sort.swp dj a (a + k)) (by rw [Sort.size_swp]; exact Hk.out.1) (Nat.zero_le _) (by omega) hs _ hs2.row
          rw [show ((0 : Nat) : Int) = 0 from rfl] at hs3
          refine hs3.mono ?_
          rintro e w' ⟨rfl, hsr⟩
          go_wp2_with fail
          refine ⟨⟨k, (k : Int) - 1, Sort.siftDown ltU k a 0 (Sort.swp dj a (a + k)), _, rfl, by congr 1, rfl, by omega, by rw [sd_size k a _ _ _ (Nat.le_refl _), Sort.size_swp]; exact Hk.out.1, hs2.trans hsr, ?_⟩, by simp [Lib.intOf]⟩
          rw [← Hk.out.2.2]
          rfl
    · obtain rfl : z = (k : Int) := by omega
      have Hk := Lib.hid (And.intro h2 (And.intro h3 h4))
      clear h2 h3 h4 hz
      have hk0 : (0 : Int) ≤ (k : Int) := by omega
      have hs1 := Lib.hid (siftDown_any blk off c k hi a n dk (Hk.out.1.trans hD.out) (by omega) hF hs _ Hk.out.2.1.row)
      go_wp2_with (go_at_call 134; refine hs1.out.mono ?_; rintro e w' ⟨rfl, hsr⟩)
      refine ⟨⟨k, (k : Int) - 1, Sort.siftDown ltU hi a k dk, _, rfl, by congr 1, rfl, by omega, by rw [sd_size hi a _ _ _ (Nat.le_refl _)]; exact Hk.out.1, Hk.out.2.1.trans hsr, ?_⟩, by simp [Lib.intOf]⟩
      rw [← Hk.out.2.2]
      rfl
end Go.Proofs.Ytmmaimopombepaa