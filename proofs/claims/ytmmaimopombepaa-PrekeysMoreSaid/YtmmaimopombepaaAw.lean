/- slices.pdqsortOrdered and slices.Sort at fewer than fifty numbers: a sorted permutation. -/
import Derived.Test.YtmmaimopombepaaAv
import Derived.Sort.LotD3
import Derived.Sort.LotB
namespace Go.Proofs.Ytmmaimopombepaa
open Go.RowKit
set_option maxRecDepth 100000
def SortsTo (w w' : World) (blk off a b n : Nat) (d : Array Nat) : Prop := ∃ d', d'.size = n ∧ SR w w' blk off d' ∧ Sort.PermIn a b d d' ∧ Sort.SortedIn ltU a b d'
/-- what is still to be sorted -/
structure PqAt (w wr : World) (blk off n a0 b0 : Nat) (d0 : Array Nat) (a b lim : Nat) (d : Array Nat) : Prop where
  le : b - a ≤ b0 - a0
  ab : a ≤ b
  bn : b ≤ n
  size : d.size = n
  sr : SR w wr blk off d
  bel : Sort.Below ltU a b d
  lim : lim ≤ 64
  fin : ∀ R, Sort.PermIn a b d R → Sort.SortedIn ltU a b R → Sort.PermIn a0 b0 d0 R ∧ Sort.SortedIn ltU a0 b0 R
def PqRel (w : World) (blk off n a0 b0 : Nat) (d0 : Array Nat) (s1 s2 s3 s8 s9 : Value) (wr : World) : Prop :=
  ∃ (a b lim : Nat) (d : Array Nat) (wb wp : Bool) (W : World), W = wr ∧ s1 = .int .i64 (a : Int) ∧ s2 = .int .i64 (b : Int) ∧ s3 = .int .i64 (lim : Int) ∧ s8 = .bool wb ∧ s9 = .bool wp ∧ PqAt w wr blk off n a0 b0 d0 a b lim d
theorem PqAt.perm {w wr w1 : World} {blk off n a0 b0 a b lim l2 : Nat} {d0 d e : Array Nat} (h : PqAt w wr blk off n a0 b0 d0 a b lim d) (hs : e.size = n) (k : SR wr w1 blk off e) (p : Sort.PermIn a b d e) (hl : l2 ≤ 64) : PqAt w w1 blk off n a0 b0 d0 a b l2 e :=
  ⟨h.le, h.ab, h.bn, hs, h.sr.trans k, h.bel.perm (by rw [h.size]; exact h.bn) p, hl, fun R h1 h2 => h.fin R (Sort.permIn_trans _ _ _ a b p h1) h2⟩
/-- a round by partitionEqual -/
theorem PqAt.eqs {w wr w1 : World} {blk off n a0 b0 a b lim pv : Nat} {d0 d : Array Nat} (h : PqAt w wr blk off n a0 b0 d0 a b lim d) (h1 : a ≤ pv) (h2 : pv < b) (h0 : 0 < a) (hl : ltU d[a - 1]! d[pv]! = false) (k : SR wr w1 blk off (Sort.partitionEqual ltU d a b pv).2) :
    a < (Sort.partitionEqual ltU d a b pv).1 ∧ PqAt w w1 blk off n a0 b0 d0 (Sort.partitionEqual ltU d a b pv).1 b lim (Sort.partitionEqual ltU d a b pv).2 := by
  obtain ⟨r, hr⟩ : ∃ r, Sort.partitionEqual ltU d a b pv = r := ⟨_, rfl⟩
  obtain ⟨mid, d4⟩ := r
  rw [hr] at k ⊢
  obtain ⟨g1, g2, g3, g4, g5⟩ := Sort.round_eq swoU (Sort.partitionEqual_holds ltU) h0 h1 h2 (by rw [h.size]; exact h.bn) h.bel hl hr
  have h3 := h.le
  exact ⟨g1, ⟨by show b - mid ≤ _; omega, g2, h.bn, g3.trans h.size, h.sr.trans k, g4, h.lim, fun R p s => by
    obtain ⟨p2, s2⟩ := g5 R p s
    exact h.fin R p2 s2⟩⟩
/-- a round by partition -/
theorem PqAt.parts {w wr w1 : World} {blk off n a0 b0 a b lim pv : Nat} {d0 d : Array Nat} (h : PqAt w wr blk off n a0 b0 d0 a b lim d) (h1 : a ≤ pv) (h2 : pv < b) (k : SR wr w1 blk off (Sort.partition ltU d a b pv).2.2) :
    ∃ (mid : Nat) (d4 : Array Nat), (Sort.partition ltU d a b pv).1 = mid ∧ (Sort.partition ltU d a b pv).2.2 = d4 ∧ a ≤ mid ∧ mid < b ∧ d4.size = n ∧ RowU w1 blk off d4 ∧ Sort.Below ltU a mid d4 ∧ Sort.Below ltU (mid + 1) b d4 ∧
      (∀ w2, SortsTo w1 w2 blk off a mid n d4 → ∃ d5, PqAt w w2 blk off n a0 b0 d0 (mid + 1) b lim d5) ∧ (∀ w2, SortsTo w1 w2 blk off (mid + 1) b n d4 → ∃ d5, PqAt w w2 blk off n a0 b0 d0 a mid lim d5) := by
  obtain ⟨r, hr⟩ : ∃ r, Sort.partition ltU d a b pv = r := ⟨_, rfl⟩
  obtain ⟨mid, ap, d4⟩ := r
  rw [hr] at k ⊢
  have hb := h.bn
  have hle := h.le
  obtain ⟨g1, g2, g3, g4, g5, g6, g7⟩ := Sort.round_part swoU (Sort.partition_holds ltU) h1 h2 (by rw [h.size]; exact h.bn) h.bel hr
  refine ⟨mid, d4, rfl, rfl, g1, g2, g3.trans h.size, k.row, g4, g5, ?_, ?_⟩
  · rintro w2 ⟨d5, e1, e2, e3, e4⟩
    obtain ⟨f1, f2⟩ := g6 d5 e3 e4
    exact ⟨d5, ⟨by omega, by omega, h.bn, e1, (h.sr.trans k).trans e2, f1, h.lim, fun R p s => by
      obtain ⟨p2, s2⟩ := f2 R p s
      exact h.fin R p2 s2⟩⟩
  · rintro w2 ⟨d5, e1, e2, e3, e4⟩
    obtain ⟨f1, f2⟩ := g7 d5 e3 e4
    exact ⟨d5, ⟨by omega, by omega, by omega, e1, (h.sr.trans k).trans e2, f1, h.lim, fun R p s => by
      obtain ⟨p2, s2⟩ := f2 R p s
      exact h.fin R p2 s2⟩⟩
theorem sorted_of {w w1 w2 : World} {blk off n a0 b0 a b lim : Nat} {d0 d e : Array Nat} (h : PqAt w w1 blk off n a0 b0 d0 a b lim d) (k : SR w1 w2 blk off e) (p : Sort.PermIn a b d e) (s : Sort.SortedIn ltU a b e) : SortsTo w w2 blk off a0 b0 n d0 := by
  obtain ⟨h1, h2⟩ := h.fin e p s
  exact ⟨e, p.1.trans h.size, h.sr.trans k, h1, h2⟩
set_option maxHeartbeats 16000000 in
theorem pdq_any (blk off c n : Nat) (hs : n < 50) : ∀ (N a0 b0 : Nat), b0 - a0 ≤ N → ∀ (d0 : Array Nat) (w : World) (lim : Nat), d0.size = n → a0 ≤ b0 → b0 ≤ n → Sort.Below ltU a0 b0 d0 → lim ≤ 64 → RowU w blk off d0 →
    Calls Try.prog 112 #[.slice (some ⟨blk, off, none⟩) n c, .int .i64 (a0 : Int), .int .i64 (b0 : Int), .int .i64 (lim : Int)] w fun e w' => e = .returned (.tuple #[]) ∧ SortsTo w w' blk off a0 b0 n d0 := by
  intro N
  induction N with
  | zero =>
    intro a0 b0 hN d0 w lim hn hab hb hB hl h
    have O0 := insertion_any blk off c a0 b0 d0 hab (by omega) (by omega) w h
    rw [hn] at O0
    have O := Lib.hid O0
    have hP := Lib.hid (Sort.insertionSort_holds swoU d0 a0 b0 hab (by omega))
    have q1 : (b0 : Int) - (a0 : Int) ≤ 12 := by omega
    have q2 : (a0 : Int) ≤ 50 := by omega
    have q3 : (b0 : Int) ≤ 50 := by omega
    clear O0 h hB
    go_enter Try.func112, Try.ntmps112
    go_wp2_with fail
    go_loopw [1, 2, 3, 8, 9] (fun s1 s2 s3 s8 s9 wr => s1 = .int .i64 (a0 : Int) ∧ s2 = .int .i64 (b0 : Int) ∧ s3 = .int .i64 (lim : Int) ∧ s8 = .bool true ∧ s9 = .bool true ∧ w = wr) (fun _ _ _ _ _ _ => 0)
    case atStart => exact ⟨rfl, rfl, rfl, rfl, rfl, rfl⟩
    case round =>
      obtain ⟨rfl, rfl, rfl, rfl, rfl, rfl⟩ := hrel
      go_wp2_with (go_at_call 121; refine O.out.mono ?_; rintro e w2 ⟨rfl, k2⟩)
      (try simp only [Exit.inBlock, Exit.then]); refine bodyPost_ret (results_none rfl _ _ _) rfl ?_
      exact ⟨rfl, _, by rw [hP.out.1.1]; exact hn, k2, hP.out.1, hP.out.2⟩
  | succ N IH =>
    intro a0 b0 hN d0 w lim0 hn hab hb hB hl h
    have H0 := Lib.hid (⟨Nat.le_refl _, hab, hb, hn, SR.refl h, hB, hl, fun R p s => ⟨p, s⟩⟩ : PqAt w w blk off n a0 b0 d0 a0 b0 lim0 d0)
    clear h hB
    go_enter Try.func112, Try.ntmps112
    go_wp2_with fail
    go_loopw [1, 2, 3, 8, 9] (PqRel w blk off n a0 b0 d0) (fun s1 s2 _ _ _ _ => (Lib.intOf s2 - Lib.intOf s1).toNat)
    case atStart => exact ⟨a0, b0, lim0, d0, true, true, _, rfl, rfl, rfl, rfl, rfl, rfl, H0.out⟩
    case round =>
      clear H0
      obtain ⟨a, b, lim, dA, wb, wp, wr, rfl, rfl, rfl, rfl, rfl, rfl, hA⟩ := hrel
      have hle := hA.le
      have hab2 := hA.ab
      have hbn := hA.bn
      have HA := Lib.hid hA
      clear hA
      have q2 : (a : Int) ≤ 50 := by omega
      have q3 : (b : Int) ≤ 50 := by omega
      have q4 : (lim : Int) ≤ 64 := by have := HA.out.lim; omega
      by_cases h12 : b - a ≤ 12
      · have h12z : (b : Int) - (a : Int) ≤ 12 := by omega
        have O0 := insertion_any blk off c a b dA hab2 (by rw [HA.out.size]; exact hbn) (by rw [HA.out.size]; omega) wr HA.out.sr.row
        rw [HA.out.size] at O0
        have O := Lib.hid O0
        have hP := Lib.hid (Sort.insertionSort_holds swoU dA a b hab2 (by rw [HA.out.size]; exact hbn))
        clear O0
        go_wp2_with (go_at_call 121; refine O.out.mono ?_; rintro e w2 ⟨rfl, k2⟩)
        (try simp only [Exit.inBlock, Exit.then]); refine bodyPost_ret (results_none rfl _ _ _) rfl ?_
        exact ⟨rfl, sorted_of HA.out k2 hP.out.1 hP.out.2⟩
      · have h12z : ¬ (b : Int) - (a : Int) ≤ 12 := by omega
        by_cases hl0 : lim = 0
        · have hlz : (lim : Int) = 0 := by omega
          subst hl0
          have O := Lib.hid (heap_any blk off c a b n dA HA.out.size (by omega) hbn (by omega) wr HA.out.sr.row)
          have hP := Lib.hid (Sort.heapSort_holds swoU dA a b hab2 (by rw [HA.out.size]; exact hbn))
          go_wp2_with (go_at_call 122; refine O.out.mono ?_; rintro e w2 ⟨rfl, k2⟩)
          (try simp only [Exit.inBlock, Exit.then]); refine bodyPost_ret (results_none rfl _ _ _) rfl ?_
          exact ⟨rfl, sorted_of HA.out k2 hP.out.1 hP.out.2⟩
        · have hlz : ((lim : Int) == 0) = false := by simp; omega
          have hlz2 : ¬ (lim : Int) = 0 := by omega
          cases wb
          · have O := Lib.hid (break_any blk off c a b n dA HA.out.size (by omega) hbn (by omega) wr HA.out.sr.row)
            obtain ⟨l2, hl2⟩ : ∃ l2 : Nat, (lim : Int) - 1 = (l2 : Int) := ⟨lim - 1, by omega⟩
            go_upto_region 10 with (go_at_call 123; refine O.out.mono ?_; rintro e w1 ⟨rfl, d1, hd1, k1, p1⟩)
            have hA1 := HA.out.perm hd1 k1 p1 (show l2 ≤ 64 by omega)
            clear O HA k1 p1 hd1
            have HA := Lib.hid hA1
            clear hA1
            have O := Lib.hid (pivot_any blk off c a b n d1 HA.out.size (by omega) HA.out.bn hs _ HA.out.sr.row)
            go_upto_region 11 with (go_at_call 124; refine O.out.mono ?_; rintro e w2 ⟨m, t, hm1, hm2, ht, rfl, k2⟩)
            have hA2 := HA.out.perm HA.out.size k2 (Sort.permIn_refl _ _ _) HA.out.lim
            clear O HA k2
            have HA := Lib.hid hA2
            clear hA2
            have hte : ((t : Int) == 2) = false := by rcases ht with rfl | rfl <;> rfl
            have hte2 : ¬ (t : Int) = 2 := by omega
            go_upto_region 17 with fail
            obtain ⟨G, hG, hcw, hfw⟩ := HA.out.sr.row.fam n HA.out.size
            have HG := Lib.hid hG
            clear hG
            have hmn : m < n := by omega
            go_cut [87] from 73 to 87 (fun v wx => ∃ (r : Bool) (W : World), W = wx ∧ v = .bool r ∧ PqAt w wx blk off n a0 b0 d0 a b l2 d1 ∧ (r = true → 0 < a ∧ ltU d1[a - 1]! d1[m]! = false))
            case first =>
              by_cases ha0 : 0 < a
              · have haz : (a : Int) > 0 := by omega
                have hap : a - 1 < n := by omega
                go_quiet (first | (go_at_call 127; refine Calls.quiet_of_same (less_u _ _ _)))
                go_wp2_with fail
                go_meet
                refine ⟨_, _, rfl, rfl, HA.out.perm HA.out.size ((SR.refl HA.out.sr.row).drewN _) (Sort.permIn_refl _ _ _) HA.out.lim, fun hr => ⟨ha0, ?_⟩⟩
                rw [← HG.out, ← HG.out]
                exact notT hr
              · have haz : decide ((a : Int) > 0) = false := decide_eq_false (by omega)
                go_quiet (first | (go_at_call 127; refine Calls.quiet_of_same (less_u _ _ _)))
                go_wp2_with fail
                go_meet
                exact ⟨false, _, rfl, rfl, HA.out.perm HA.out.size ((SR.refl HA.out.sr.row).drewN _) (Sort.permIn_refl _ _ _) HA.out.lim, fun hr => by cases hr⟩
            case rest =>
              obtain ⟨r, w2, rfl, rfl, hA2, hr⟩ := hcut
              clear hcw hfw HA
              have HA := Lib.hid hA2
              clear hA2
              cases r
              · have O := Lib.hid (part_any blk off c a b m n d1 HA.out.size (by omega) (by omega) HA.out.bn (by omega) w2 HA.out.sr.row)
                go_upto_region 22 with (go_at_call 129; refine O.out.mono ?_; rintro e w3 ⟨bl, rfl, k3⟩)
                obtain ⟨mid, d4, e1, e2, g1, g2, g3, g4, g5, g6, g7, g8⟩ := HA.out.parts (by omega) (by omega) k3
                rw [e1]
                have K := Lib.hid (And.intro g7 g8)
                have lz : (l2 : Int) ≤ 64 := by have := HA.out.lim; omega
                clear k3 e2 g7 g8 hr
                have q5 : (mid : Int) ≤ 50 := by omega
                by_cases hlt : mid - a < b - mid
                · have hltz : (mid : Int) - (a : Int) < (b : Int) - (mid : Int) := by omega
                  have I := Lib.hid (IH a mid (by omega) d4 w3 l2 g3 (by omega) (by omega) g5 HA.out.lim g4)
                  go_wp2_with (go_at_call 112; refine I.out.mono ?_; rintro e w4 ⟨rfl, k4⟩)
                  obtain ⟨d5, h5⟩ := K.out.1 w4 k4
                  exact ⟨⟨mid + 1, b, l2, d5, _, bl, _, rfl, by go_num, rfl, rfl, rfl, rfl, h5⟩, by simp [Lib.intOf]; omega⟩
                · have hltz : ¬ (mid : Int) - (a : Int) < (b : Int) - (mid : Int) := by omega
                  have I0 := IH (mid + 1) b (by omega) d4 w3 l2 g3 (by omega) (by omega) g6 HA.out.lim g4
                  rw [show ((mid + 1 : Nat) : Int) = (mid : Int) + 1 by omega] at I0
                  have I := Lib.hid I0
                  clear I0
                  go_wp2_with (go_at_call 112; refine I.out.mono ?_; rintro e w4 ⟨rfl, k4⟩)
                  obtain ⟨d5, h5⟩ := K.out.2 w4 k4
                  exact ⟨⟨a, mid, l2, d5, _, bl, _, rfl, rfl, rfl, rfl, rfl, rfl, h5⟩, by simp [Lib.intOf]; omega⟩
              · have hr2 := hr rfl
                have O := Lib.hid (partEq_any blk off c a b m n d1 HA.out.size (by omega) (by omega) HA.out.bn (by omega) w2 HA.out.sr.row)
                go_wp2_with (go_at_call 128; refine O.out.mono ?_; rintro e w3 ⟨rfl, k3⟩)
                obtain ⟨g1, g2⟩ := HA.out.eqs (by omega) (by omega) hr2.1 hr2.2 k3
                exact ⟨⟨_, b, l2, _, _, _, _, rfl, rfl, rfl, rfl, rfl, rfl, g2⟩, by simp [Lib.intOf]; omega⟩
          · cases wp
            · have O := Lib.hid (pivot_any blk off c a b n dA HA.out.size (by omega) HA.out.bn hs _ HA.out.sr.row)
              go_upto_region 11 with (go_at_call 124; refine O.out.mono ?_; rintro e w2 ⟨m, t, hm1, hm2, ht, rfl, k2⟩)
              have hA2 := HA.out.perm HA.out.size k2 (Sort.permIn_refl _ _ _) HA.out.lim
              clear O HA k2
              have HA := Lib.hid hA2
              clear hA2
              have hte : ((t : Int) == 2) = false := by rcases ht with rfl | rfl <;> rfl
              have hte2 : ¬ (t : Int) = 2 := by omega
              go_upto_region 17 with fail
              obtain ⟨G, hG, hcw, hfw⟩ := HA.out.sr.row.fam n HA.out.size
              have HG := Lib.hid hG
              clear hG
              have hmn : m < n := by omega
              go_cut [87] from 73 to 87 (fun v wx => ∃ (r : Bool) (W : World), W = wx ∧ v = .bool r ∧ PqAt w wx blk off n a0 b0 d0 a b lim dA ∧ (r = true → 0 < a ∧ ltU dA[a - 1]! dA[m]! = false))
              case first =>
                by_cases ha0 : 0 < a
                · have haz : (a : Int) > 0 := by omega
                  have hap : a - 1 < n := by omega
                  go_quiet (first | (go_at_call 127; refine Calls.quiet_of_same (less_u _ _ _)))
                  go_wp2_with fail
                  go_meet
                  refine ⟨_, _, rfl, rfl, HA.out.perm HA.out.size ((SR.refl HA.out.sr.row).drewN _) (Sort.permIn_refl _ _ _) HA.out.lim, fun hr => ⟨ha0, ?_⟩⟩
                  rw [← HG.out, ← HG.out]
                  exact notT hr
                · have haz : decide ((a : Int) > 0) = false := decide_eq_false (by omega)
                  go_quiet (first | (go_at_call 127; refine Calls.quiet_of_same (less_u _ _ _)))
                  go_wp2_with fail
                  go_meet
                  exact ⟨false, _, rfl, rfl, HA.out.perm HA.out.size ((SR.refl HA.out.sr.row).drewN _) (Sort.permIn_refl _ _ _) HA.out.lim, fun hr => by cases hr⟩
              case rest =>
                obtain ⟨r, w2, rfl, rfl, hA2, hr⟩ := hcut
                clear hcw hfw HA
                have HA := Lib.hid hA2
                clear hA2
                cases r
                · have O := Lib.hid (part_any blk off c a b m n dA HA.out.size (by omega) (by omega) HA.out.bn (by omega) w2 HA.out.sr.row)
                  go_upto_region 22 with (go_at_call 129; refine O.out.mono ?_; rintro e w3 ⟨bl, rfl, k3⟩)
                  obtain ⟨mid, d4, e1, e2, g1, g2, g3, g4, g5, g6, g7, g8⟩ := HA.out.parts (by omega) (by omega) k3
                  rw [e1]
                  have K := Lib.hid (And.intro g7 g8)
                  have lz : (lim : Int) ≤ 64 := by have := HA.out.lim; omega
                  clear k3 e2 g7 g8 hr
                  have q5 : (mid : Int) ≤ 50 := by omega
                  by_cases hlt : mid - a < b - mid
                  · have hltz : (mid : Int) - (a : Int) < (b : Int) - (mid : Int) := by omega
                    have I := Lib.hid (IH a mid (by omega) d4 w3 lim g3 (by omega) (by omega) g5 HA.out.lim g4)
                    go_wp2_with (go_at_call 112; refine I.out.mono ?_; rintro e w4 ⟨rfl, k4⟩)
                    obtain ⟨d5, h5⟩ := K.out.1 w4 k4
                    exact ⟨⟨mid + 1, b, lim, d5, _, bl, _, rfl, by go_num, rfl, rfl, rfl, rfl, h5⟩, by simp [Lib.intOf]; omega⟩
                  · have hltz : ¬ (mid : Int) - (a : Int) < (b : Int) - (mid : Int) := by omega
                    have I0 := IH (mid + 1) b (by omega) d4 w3 lim g3 (by omega) (by omega) g6 HA.out.lim g4
                    rw [show ((mid + 1 : Nat) : Int) = (mid : Int) + 1 by omega] at I0
                    have I := Lib.hid I0
                    clear I0
                    go_wp2_with (go_at_call 112; refine I.out.mono ?_; rintro e w4 ⟨rfl, k4⟩)
                    obtain ⟨d5, h5⟩ := K.out.2 w4 k4
                    exact ⟨⟨a, mid, lim, d5, _, bl, _, rfl, rfl, rfl, rfl, rfl, rfl, h5⟩, by simp [Lib.intOf]; omega⟩
                · have hr2 := hr rfl
                  have O := Lib.hid (partEq_any blk off c a b m n dA HA.out.size (by omega) (by omega) HA.out.bn (by omega) w2 HA.out.sr.row)
                  go_wp2_with (go_at_call 128; refine O.out.mono ?_; rintro e w3 ⟨rfl, k3⟩)
                  obtain ⟨g1, g2⟩ := HA.out.eqs (by omega) (by omega) hr2.1 hr2.2 k3
                  exact ⟨⟨_, b, lim, _, _, _, _, rfl, rfl, rfl, rfl, rfl, rfl, g2⟩, by simp [Lib.intOf]; omega⟩
            · have O := Lib.hid (pivot_any blk off c a b n dA HA.out.size (by omega) HA.out.bn hs _ HA.out.sr.row)
              go_upto_region 11 with (go_at_call 124; refine O.out.mono ?_; rintro e w2 ⟨m, t, hm1, hm2, ht, rfl, k2⟩)
              have hA2 := HA.out.perm HA.out.size k2 (Sort.permIn_refl _ _ _) HA.out.lim
              clear O HA k2
              have HA := Lib.hid hA2
              clear hA2
              have hte : ((t : Int) == 2) = false := by rcases ht with rfl | rfl <;> rfl
              have hte2 : ¬ (t : Int) = 2 := by omega
              rcases ht with rfl | rfl
              · go_upto_region 17 with fail
                obtain ⟨G, hG, hcw, hfw⟩ := HA.out.sr.row.fam n HA.out.size
                have HG := Lib.hid hG
                clear hG
                have hmn : m < n := by omega
                go_cut [87] from 73 to 87 (fun v wx => ∃ (r : Bool) (W : World), W = wx ∧ v = .bool r ∧ PqAt w wx blk off n a0 b0 d0 a b lim dA ∧ (r = true → 0 < a ∧ ltU dA[a - 1]! dA[m]! = false))
                case first =>
                  by_cases ha0 : 0 < a
                  · have haz : (a : Int) > 0 := by omega
                    have hap : a - 1 < n := by omega
                    go_quiet (first | (go_at_call 127; refine Calls.quiet_of_same (less_u _ _ _)))
                    go_wp2_with fail
                    go_meet
                    refine ⟨_, _, rfl, rfl, HA.out.perm HA.out.size ((SR.refl HA.out.sr.row).drewN _) (Sort.permIn_refl _ _ _) HA.out.lim, fun hr => ⟨ha0, ?_⟩⟩
                    rw [← HG.out, ← HG.out]
                    exact notT hr
                  · have haz : decide ((a : Int) > 0) = false := decide_eq_false (by omega)
                    go_quiet (first | (go_at_call 127; refine Calls.quiet_of_same (less_u _ _ _)))
                    go_wp2_with fail
                    go_meet
                    exact ⟨false, _, rfl, rfl, HA.out.perm HA.out.size ((SR.refl HA.out.sr.row).drewN _) (Sort.permIn_refl _ _ _) HA.out.lim, fun hr => by cases hr⟩
                case rest =>
                  obtain ⟨r, w2, rfl, rfl, hA2, hr⟩ := hcut
                  clear hcw hfw HA
                  have HA := Lib.hid hA2
                  clear hA2
                  cases r
                  · have O := Lib.hid (part_any blk off c a b m n dA HA.out.size (by omega) (by omega) HA.out.bn (by omega) w2 HA.out.sr.row)
                    go_upto_region 22 with (go_at_call 129; refine O.out.mono ?_; rintro e w3 ⟨bl, rfl, k3⟩)
                    obtain ⟨mid, d4, e1, e2, g1, g2, g3, g4, g5, g6, g7, g8⟩ := HA.out.parts (by omega) (by omega) k3
                    rw [e1]
                    have K := Lib.hid (And.intro g7 g8)
                    have lz : (lim : Int) ≤ 64 := by have := HA.out.lim; omega
                    clear k3 e2 g7 g8 hr
                    have q5 : (mid : Int) ≤ 50 := by omega
                    by_cases hlt : mid - a < b - mid
                    · have hltz : (mid : Int) - (a : Int) < (b : Int) - (mid : Int) := by omega
                      have I := Lib.hid (IH a mid (by omega) d4 w3 lim g3 (by omega) (by omega) g5 HA.out.lim g4)
                      go_wp2_with (go_at_call 112; refine I.out.mono ?_; rintro e w4 ⟨rfl, k4⟩)
                      obtain ⟨d5, h5⟩ := K.out.1 w4 k4
                      exact ⟨⟨mid + 1, b, lim, d5, _, bl, _, rfl, by go_num, rfl, rfl, rfl, rfl, h5⟩, by simp [Lib.intOf]; omega⟩
                    · have hltz : ¬ (mid : Int) - (a : Int) < (b : Int) - (mid : Int) := by omega
                      have I0 := IH (mid + 1) b (by omega) d4 w3 lim g3 (by omega) (by omega) g6 HA.out.lim g4
                      rw [show ((mid + 1 : Nat) : Int) = (mid : Int) + 1 by omega] at I0
                      have I := Lib.hid I0
                      clear I0
                      go_wp2_with (go_at_call 112; refine I.out.mono ?_; rintro e w4 ⟨rfl, k4⟩)
                      obtain ⟨d5, h5⟩ := K.out.2 w4 k4
                      exact ⟨⟨a, mid, lim, d5, _, bl, _, rfl, rfl, rfl, rfl, rfl, rfl, h5⟩, by simp [Lib.intOf]; omega⟩
                  · have hr2 := hr rfl
                    have O := Lib.hid (partEq_any blk off c a b m n dA HA.out.size (by omega) (by omega) HA.out.bn (by omega) w2 HA.out.sr.row)
                    go_wp2_with (go_at_call 128; refine O.out.mono ?_; rintro e w3 ⟨rfl, k3⟩)
                    obtain ⟨g1, g2⟩ := HA.out.eqs (by omega) (by omega) hr2.1 hr2.2 k3
                    exact ⟨⟨_, b, lim, _, _, _, _, rfl, rfl, rfl, rfl, rfl, rfl, g2⟩, by simp [Lib.intOf]; omega⟩
              · have O := Lib.hid (partial_any blk off c a b n dA HA.out.size (by omega) HA.out.bn hs _ HA.out.sr.row)
                go_upto_region 17 with (go_at_call 126; refine O.out.mono ?_; rintro e w4 ⟨r4, rfl, k4, s4⟩)
                · have hr4 : r4 = true := by assumption
                  (try simp only [Exit.inBlock, Exit.then]); refine bodyPost_ret (results_none rfl _ _ _) rfl ?_
                  exact ⟨rfl, sorted_of HA.out k4 (Sort.permIn_refl _ _ _) (s4 hr4)⟩
                · have hA4 := HA.out.perm HA.out.size k4 (Sort.permIn_refl _ _ _) HA.out.lim
                  clear O HA k4 s4
                  have HA := Lib.hid hA4
                  clear hA4
                  obtain ⟨G, hG, hcw, hfw⟩ := HA.out.sr.row.fam n HA.out.size
                  have HG := Lib.hid hG
                  clear hG
                  have hmn : m < n := by omega
                  go_cut [87] from 73 to 87 (fun v wx => ∃ (r : Bool) (W : World), W = wx ∧ v = .bool r ∧ PqAt w wx blk off n a0 b0 d0 a b lim dA ∧ (r = true → 0 < a ∧ ltU dA[a - 1]! dA[m]! = false))
                  case first =>
                    by_cases ha0 : 0 < a
                    · have haz : (a : Int) > 0 := by omega
                      have hap : a - 1 < n := by omega
                      go_quiet (first | (go_at_call 127; refine Calls.quiet_of_same (less_u _ _ _)))
                      go_wp2_with fail
                      go_meet
                      refine ⟨_, _, rfl, rfl, HA.out.perm HA.out.size ((SR.refl HA.out.sr.row).drewN _) (Sort.permIn_refl _ _ _) HA.out.lim, fun hr => ⟨ha0, ?_⟩⟩
                      rw [← HG.out, ← HG.out]
                      exact notT hr
                    · have haz : decide ((a : Int) > 0) = false := decide_eq_false (by omega)
                      go_quiet (first | (go_at_call 127; refine Calls.quiet_of_same (less_u _ _ _)))
                      go_wp2_with fail
                      go_meet
                      exact ⟨false, _, rfl, rfl, HA.out.perm HA.out.size ((SR.refl HA.out.sr.row).drewN _) (Sort.permIn_refl _ _ _) HA.out.lim, fun hr => by cases hr⟩
                  case rest =>
                    obtain ⟨r, w2, rfl, rfl, hA2, hr⟩ := hcut
                    clear hcw hfw HA
                    have HA := Lib.hid hA2
                    clear hA2
                    cases r
                    · have O := Lib.hid (part_any blk off c a b m n dA HA.out.size (by omega) (by omega) HA.out.bn (by omega) w2 HA.out.sr.row)
                      go_upto_region 22 with (go_at_call 129; refine O.out.mono ?_; rintro e w3 ⟨bl, rfl, k3⟩)
                      obtain ⟨mid, d4, e1, e2, g1, g2, g3, g4, g5, g6, g7, g8⟩ := HA.out.parts (by omega) (by omega) k3
                      rw [e1]
                      have K := Lib.hid (And.intro g7 g8)
                      have lz : (lim : Int) ≤ 64 := by have := HA.out.lim; omega
                      clear k3 e2 g7 g8 hr
                      have q5 : (mid : Int) ≤ 50 := by omega
                      by_cases hlt : mid - a < b - mid
                      · have hltz : (mid : Int) - (a : Int) < (b : Int) - (mid : Int) := by omega
                        have I := Lib.hid (IH a mid (by omega) d4 w3 lim g3 (by omega) (by omega) g5 HA.out.lim g4)
                        go_wp2_with (go_at_call 112; refine I.out.mono ?_; rintro e w4 ⟨rfl, k4⟩)
                        obtain ⟨d5, h5⟩ := K.out.1 w4 k4
                        exact ⟨⟨mid + 1, b, lim, d5, _, bl, _, rfl, by go_num, rfl, rfl, rfl, rfl, h5⟩, by simp [Lib.intOf]; omega⟩
                      · have hltz : ¬ (mid : Int) - (a : Int) < (b : Int) - (mid : Int) := by omega
                        have I0 := IH (mid + 1) b (by omega) d4 w3 lim g3 (by omega) (by omega) g6 HA.out.lim g4
                        rw [show ((mid + 1 : Nat) : Int) = (mid : Int) + 1 by omega] at I0
                        have I := Lib.hid I0
                        clear I0
                        go_wp2_with (go_at_call 112; refine I.out.mono ?_; rintro e w4 ⟨rfl, k4⟩)
                        obtain ⟨d5, h5⟩ := K.out.2 w4 k4
                        exact ⟨⟨a, mid, lim, d5, _, bl, _, rfl, rfl, rfl, rfl, rfl, rfl, h5⟩, by simp [Lib.intOf]; omega⟩
                    · have hr2 := hr rfl
                      have O := Lib.hid (partEq_any blk off c a b m n dA HA.out.size (by omega) (by omega) HA.out.bn (by omega) w2 HA.out.sr.row)
                      go_wp2_with (go_at_call 128; refine O.out.mono ?_; rintro e w3 ⟨rfl, k3⟩)
                      obtain ⟨g1, g2⟩ := HA.out.eqs (by omega) (by omega) hr2.1 hr2.2 k3
                      exact ⟨⟨_, b, lim, _, _, _, _, rfl, rfl, rfl, rfl, rfl, rfl, g2⟩, by simp [Lib.intOf]; omega⟩
theorem sortU_any (blk off c n : Nat) (d : Array Nat) (hn : d.size = n) (hs : n < 50) (w : World) (h : RowU w blk off d) :
    Calls Try.prog 89 #[.slice (some ⟨blk, off, none⟩) n c] w fun e w' => e = .returned (.tuple #[]) ∧ SortsTo w w' blk off 0 n n d := by
  have hL := Lib.hid (fun W => len_any n (by omega) W)
  have hP := Lib.hid (fun W lim hl h => pdq_any blk off c n hs n 0 n (Nat.le_refl _) d W lim hn (Nat.zero_le _) (Nat.le_refl _) (Or.inl rfl) hl h)
  have H := Lib.hid h
  have q : (n : Int) < 50 := by omega
  clear h
  go_enter Try.func89, Try.ntmps89
  go_wp2_with (first
    | (go_at_call 113; refine (hL.out _).mono ?_; rintro e w' ⟨L, rfl, rfl, h1, h2, h3⟩)
    | (go_at_call 112; refine (hP.out _ _ h3 H.out).mono ?_; rintro e w' ⟨rfl, k⟩))
  go_end0
  exact ⟨rfl, k⟩
end Go.Proofs.Ytmmaimopombepaa