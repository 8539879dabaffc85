/- slices.partitionEqualOrdered and slices.partitionOrdered at numbers. -/
import Derived.Test.YtmmaimopombepaaAr
import Derived.Deep.CutBlock
import Derived.Sort.LotC
namespace Go.Proofs.Ytmmaimopombepaa
open Go.RowKit
set_option maxRecDepth 100000
theorem notT {b : Bool} (h : (!b) = true) : b = false := by simpa using h
theorem notF {b : Bool} (h : (!b) = false) : b = true := by simpa using h
/-! ### the scans in plain mathematics -/
theorem scanUp_goU {p : Nat → Bool} {d : Array Nat} {j i : Nat} (h : i ≤ j) (hp : p d[i]! = true) : Sort.scanUp p d j i = Sort.scanUp p d j (i + 1) := by
  conv => lhs; rw [Sort.scanUp]
  rw [if_pos (by simp [h, hp])]
theorem scanUp_endU {p : Nat → Bool} {d : Array Nat} {j i : Nat} (h : ¬ i ≤ j ∨ p d[i]! = false) : Sort.scanUp p d j i = i := by
  rw [Sort.scanUp, if_neg]
  rcases h with h | h
  · simp [h]
  · simp [h]
theorem scanDown_goU {p : Nat → Bool} {d : Array Nat} {i j : Nat} (h : i ≤ j) (h0 : 0 < j) (hp : p d[j]! = true) : Sort.scanDown p d i j = Sort.scanDown p d i (j - 1) := by
  obtain ⟨k, rfl⟩ : ∃ k, j = k + 1 := ⟨j - 1, by omega⟩
  conv => lhs; rw [Sort.scanDown]
  rw [if_pos (by simp only [Bool.and_eq_true, decide_eq_true_eq]; exact ⟨h, hp⟩)]
  rfl
theorem scanDown_endU {p : Nat → Bool} {d : Array Nat} {i j : Nat} (h : ¬ i ≤ j ∨ p d[j]! = false) : Sort.scanDown p d i j = j := by
  cases j with
  | zero => rw [Sort.scanDown]
  | succ k =>
    rw [Sort.scanDown, if_neg]
    rcases h with h | h
    · simp [h]
    · simp [h]
/-- a scan upwards, under way -/
def UpRel (w : World) (blk off : Nat) (dk : Array Nat) (p : Nat → Bool) (j i0 : Nat) (v : Value) (wr : World) : Prop :=
  ∃ (k : Nat) (W : World), W = wr ∧ v = .int .i64 (k : Int) ∧ i0 ≤ k ∧ k ≤ j + 1 ∧ SR w wr blk off dk ∧ Sort.scanUp p dk j k = Sort.scanUp p dk j i0
/-- a scan downwards, under way -/
def DownRel (w : World) (blk off : Nat) (dk : Array Nat) (p : Nat → Bool) (i j0 : Nat) (v : Value) (wr : World) : Prop :=
  ∃ (k : Nat) (W : World), W = wr ∧ v = .int .i64 (k : Int) ∧ k ≤ j0 ∧ i ≤ k + 1 ∧ SR w wr blk off dk ∧ Sort.scanDown p dk i k = Sort.scanDown p dk i j0
/-- a scan at its end -/
def UpEnd (w : World) (blk off : Nat) (dk : Array Nat) (p : Nat → Bool) (j i0 : Nat) (v : Value) (wr : World) : Prop :=
  ∃ (k : Nat) (W : World), W = wr ∧ v = .int .i64 (k : Int) ∧ i0 ≤ k ∧ k ≤ j + 1 ∧ SR w wr blk off dk ∧ k = Sort.scanUp p dk j i0
def DownEnd (w : World) (blk off : Nat) (dk : Array Nat) (p : Nat → Bool) (i j0 : Nat) (v : Value) (wr : World) : Prop :=
  ∃ (k : Nat) (W : World), W = wr ∧ v = .int .i64 (k : Int) ∧ k ≤ j0 ∧ i ≤ k + 1 ∧ SR w wr blk off dk ∧ k = Sort.scanDown p dk i j0
/-- upwards and downwards by opposite tests: they do not stop at one place -/
theorem scans_ltU {p q : Nat → Bool} (hq : ∀ x, q x = !p x) {d : Array Nat} {i j i2 j2 : Nat} (h0 : 0 < i) (hi : i2 = Sort.scanUp p d j i) (hj : j2 = Sort.scanDown q d i2 j) (h : i2 ≤ j2) : i2 < j2 := by
  obtain ⟨u1, -, -, u4⟩ := Sort.scanUp_spec p d j _ i rfl
  obtain ⟨v1, -, -, v4⟩ := Sort.scanDown_spec q d i2 j
  rw [← hi] at u1 u4
  rw [← hj] at v1 v4
  rcases Nat.lt_or_ge i2 j2 with h3 | h3
  · exact h3
  · obtain rfl : i2 = j2 := by omega
    have e2 := v4 (Nat.le_refl _) (by omega)
    rw [hq, u4 (by omega)] at e2
    cases e2

theorem partEq_breakU {a i j i2 j2 : Nat} {d : Array Nat} (hi : i2 = Sort.scanUp (fun x => !ltU d[a]! x) d j i) (hj : j2 = Sort.scanDown (fun x => ltU d[a]! x) d i2 j) (h : j2 < i2) : Sort.partEqLoop ltU a i j d = (i2, d) := by
  subst hi; subst hj
  rw [Sort.partEqLoop_eq, if_pos h]
theorem partEq_goU {a i j i2 j2 : Nat} {d : Array Nat} (hi : i2 = Sort.scanUp (fun x => !ltU d[a]! x) d j i) (hj : j2 = Sort.scanDown (fun x => ltU d[a]! x) d i2 j) (h : i2 ≤ j2) : Sort.partEqLoop ltU a i j d = Sort.partEqLoop ltU a (i2 + 1) (j2 - 1) (Sort.swp d i2 j2) := by
  subst hi; subst hj
  rw [Sort.partEqLoop_eq, if_neg (by omega)]
def PeRel (w : World) (blk off a b n : Nat) (R : Nat × Array Nat) (v u : Value) (wr : World) : Prop :=
  ∃ (i j : Nat) (dk : Array Nat) (W : World), W = wr ∧ v = .int .i64 (i : Int) ∧ u = .int .i64 (j : Int) ∧ a < i ∧ i ≤ j + 1 ∧ j < b ∧ dk.size = n ∧ SR w wr blk off dk ∧ Sort.partEqLoop ltU a i j dk = R
set_option maxHeartbeats 8000000 in
theorem partEq_any (blk off c a b pv n : Nat) (d : Array Nat) (hn : d.size = n) (hap : a ≤ pv) (hpb : pv < b) (hb : b ≤ n) (hs : n ≤ 1000) (w : World) (h : RowU w blk off d) :
    Calls Try.prog 128 #[.slice (some ⟨blk, off, none⟩) n c, .int .i64 (a : Int), .int .i64 (b : Int), .int .i64 (pv : Int)] w fun e w' => e = .returned (.int .i64 ((Sort.partitionEqual ltU d a b pv).1 : Int)) ∧ SR w w' blk off (Sort.partitionEqual ltU d a b pv).2 := by
  obtain ⟨R, eR⟩ : ∃ R, Sort.partitionEqual ltU d a b pv = R := ⟨_, rfl⟩
  have eR2 : Sort.partEqLoop ltU a (a + 1) (b - 1) (Sort.swp d a pv) = R := eR
  rw [eR]
  obtain ⟨G, hG, hcw, hfw⟩ := h.fam n hn
  obtain ⟨u2, hu2⟩ := h.second a pv (by omega) (by omega) (.int .u64 (G pv : Int))
  have S1 := (SR.refl h).swapG hG 1 a pv (by omega) (by omega)
  have hs1 : (Sort.swp d a pv).size = n := by rw [Sort.size_swp]; exact hn
  obtain ⟨d1, hd1⟩ : ∃ d1, Sort.swp d a pv = d1 := ⟨_, rfl⟩
  rw [hd1] at S1 eR2 hs1
  have H1 := Lib.hid (And.intro S1 (And.intro hs1 eR2))
  have q2 : (a : Int) ≤ 1000 := by omega
  have q3 : (b : Int) ≤ 1000 := by omega
  clear h hG S1 hs1 eR2 eR hd1
  go_enter Try.func128, Try.ntmps128
  go_wp2_with fail
  go_region
  all_goals go_wp2_with fail
  clear hcw hfw hu2
  go_loopw [9, 10] (PeRel w blk off a b n R) (fun v u _ => (Lib.intOf u + 1 - Lib.intOf v + 1).toNat)
  case atStart => exact ⟨a + 1, b - 1, d1, _, rfl, by go_num, by congr 1; omega, by omega, by omega, by omega, H1.out.2.1, H1.out.1, H1.out.2.2⟩
  case round =>
    clear H1
    obtain ⟨i, j, dk, wr, rfl, rfl, rfl, g1, g2, g3, g4, g5, g6⟩ := hrel
    have Hd := Lib.hid (And.intro g5 g6)
    have hsz := Lib.hid g4
    clear g4 g5 g6
    go_upto_block 2 with fail
    go_cut [9] from 29 to 45 (fun v wx => UpEnd w blk off dk (fun x => !ltU dk[a]! x) j i v wx)
    case first =>
      go_wp2_with fail
      go_loopw [9] (UpRel w blk off dk (fun x => !ltU dk[a]! x) j i) (fun v _ => j + 1 - (Lib.intOf v).toNat)
      case atStart => exact ⟨i, _, rfl, rfl, Nat.le_refl _, by omega, Hd.out.1, rfl⟩
      case round =>
        obtain ⟨k, wr, rfl, rfl, h1, h2, h3, h4⟩ := hrel
        obtain ⟨G, hG, hcw, hfw⟩ := h3.row.fam n hsz.out
        have HG := Lib.hid hG
        have Hk := Lib.hid (And.intro h3 h4)
        clear hG h3 h4
        by_cases hkj : k ≤ j
        · have hkz : (k : Int) ≤ (j : Int) := by omega
          have hk1 : k < n := by omega
          go_wp2_with fail
          go_quiet (first | (go_at_call 127; refine Calls.quiet_of_same (less_u _ _ _)))
          go_wp2_with fail
          · have hl : ltU (G a) (G k) = false := by first | assumption | exact notT (by assumption) | exact notF (by assumption)
            refine ⟨⟨k + 1, _, rfl, by go_num, by omega, by omega, Hk.out.1.drewN _, ?_⟩, by simp [Lib.intOf]; omega⟩
            rw [← Hk.out.2, scanUp_goU hkj (by show _ = true; rw [HG.out, HG.out] at hl; simpa using hl)]
          · have hl : ltU (G a) (G k) = true := by first | assumption | exact notT (by assumption) | exact notF (by assumption)
            go_meet
            exact ⟨k, _, rfl, rfl, h1, h2, Hk.out.1.drewN _, by rw [← Hk.out.2, scanUp_endU (Or.inr (by show _ = false; rw [HG.out, HG.out] at hl; simpa using hl))]⟩
        · have hkz : decide ((k : Int) ≤ (j : Int)) = false := decide_eq_false (by omega)
          go_wp2_with fail
          go_quiet (first | (go_at_call 127; refine Calls.quiet_of_same (less_u _ _ _)))
          go_wp2_with fail
          go_meet
          exact ⟨k, _, rfl, rfl, h1, h2, Hk.out.1.drewN _, by rw [← Hk.out.2, scanUp_endU (Or.inl hkj)]⟩
    case rest =>
      obtain ⟨i2, w2, rfl, rfl, hi1, hi2, hi3, hi4⟩ := hcut
      have HU := Lib.hid (And.intro hi3 hi4)
      clear hi3 hi4
      go_upto_block 4 with fail
      go_cut [10] from 46 to 61 (fun v wx => DownEnd w blk off dk (fun x => ltU dk[a]! x) i2 j v wx)
      case first =>
        go_wp2_with fail
        go_loopw [10] (DownRel w blk off dk (fun x => ltU dk[a]! x) i2 j) (fun v _ => (Lib.intOf v + 1).toNat)
        case atStart => exact ⟨j, _, rfl, rfl, Nat.le_refl _, by omega, HU.out.1, rfl⟩
        case round =>
          obtain ⟨k, wr, rfl, rfl, h1, h2, h3, h4⟩ := hrel
          obtain ⟨G, hG, hcw, hfw⟩ := h3.row.fam n hsz.out
          have HG := Lib.hid hG
          have Hk := Lib.hid (And.intro h3 h4)
          clear hG h3 h4
          by_cases hkj : i2 ≤ k
          · have hkz : (i2 : Int) ≤ (k : Int) := by omega
            have hk1 : k < n := by omega
            go_wp2_with fail
            go_quiet (first | (go_at_call 127; refine Calls.quiet_of_same (less_u _ _ _)))
            go_wp2_with fail
            · have hl : ltU (G a) (G k) = true := by first | assumption | exact notT (by assumption) | exact notF (by assumption)
              refine ⟨⟨k - 1, _, rfl, by congr 1; omega, by omega, by omega, Hk.out.1.drewN _, ?_⟩, by simp [Lib.intOf]⟩
              rw [← Hk.out.2, scanDown_goU hkj (by omega) (by show _ = true; rw [HG.out, HG.out] at hl; simpa using hl)]
            · have hl : ltU (G a) (G k) = false := by first | assumption | exact notT (by assumption) | exact notF (by assumption)
              go_meet
              exact ⟨k, _, rfl, rfl, h1, h2, Hk.out.1.drewN _, by rw [← Hk.out.2, scanDown_endU (Or.inr (by show _ = false; rw [HG.out, HG.out] at hl; simpa using hl))]⟩
          · have hkz : decide ((i2 : Int) ≤ (k : Int)) = false := decide_eq_false (by omega)
            go_wp2_with fail
            go_quiet (first | (go_at_call 127; refine Calls.quiet_of_same (less_u _ _ _)))
            go_wp2_with fail
            go_meet
            exact ⟨k, _, rfl, rfl, h1, h2, Hk.out.1.drewN _, by rw [← Hk.out.2, scanDown_endU (Or.inl hkj)]⟩
      case rest =>
        obtain ⟨j2, w3, rfl, rfl, hj1, hj2, hj3, hj4⟩ := hcut
        have HV := Lib.hid (And.intro hj3 hj4)
        clear hj3 hj4
        by_cases hij : j2 < i2
        · have hijz : (i2 : Int) > (j2 : Int) := by omega
          go_wp2_with fail
          go_ret
          have e := partEq_breakU HU.out.2 HV.out.2 hij
          rw [Hd.out.2] at e
          subst e
          exact ⟨rfl, HV.out.1⟩
        · have hijz : ¬ (i2 : Int) > (j2 : Int) := by omega
          have hlt := scans_ltU (p := fun x => !ltU dk[a]! x) (q := fun x => ltU dk[a]! x) (fun x => by simp) (by omega) HU.out.2 HV.out.2 (by omega)
          obtain ⟨G, hG, hcw, hfw⟩ := HV.out.1.row.fam n hsz.out
          have hk1 : i2 < n := by omega
          have hk2 : j2 < n := by omega
          have HG := Lib.hid hG
          clear hG
          go_wp2_with fail
          go_region
          all_goals go_wp2_with fail
          refine ⟨⟨i2 + 1, j2 - 1, Sort.swp dk i2 j2, _, rfl, by go_num, by congr 1; omega, by omega, by omega, by omega, by rw [Sort.size_swp]; exact hsz.out, HV.out.1.swapG HG.out _ i2 j2 (by rw [hsz.out]; omega) (by rw [hsz.out]; omega), ?_⟩, by simp [Lib.intOf]; omega⟩
          rw [← Hd.out.2, partEq_goU HU.out.2 HV.out.2 (by omega)]

theorem part_breakU {a i j i2 j2 : Nat} {d : Array Nat} (hi : i2 = Sort.scanUp (fun x => ltU x d[a]!) d j i) (hj : j2 = Sort.scanDown (fun x => !ltU x d[a]!) d i2 j) (h : j2 < i2) : Sort.partLoop ltU a i j d = (j2, d) := by
  subst hi; subst hj
  rw [Sort.partLoop_eq, if_pos h]
theorem part_goU {a i j i2 j2 : Nat} {d : Array Nat} (hi : i2 = Sort.scanUp (fun x => ltU x d[a]!) d j i) (hj : j2 = Sort.scanDown (fun x => !ltU x d[a]!) d i2 j) (h : i2 ≤ j2) : Sort.partLoop ltU a i j d = Sort.partLoop ltU a (i2 + 1) (j2 - 1) (Sort.swp d i2 j2) := by
  subst hi; subst hj
  rw [Sort.partLoop_eq, if_neg (by omega)]
def PoRel (w : World) (blk off a b n : Nat) (R : Nat × Array Nat) (v u : Value) (wr : World) : Prop :=
  ∃ (i j : Nat) (dk : Array Nat) (W : World), W = wr ∧ v = .int .i64 (i : Int) ∧ u = .int .i64 (j : Int) ∧ a < i ∧ i ≤ j + 1 ∧ j < b ∧ dk.size = n ∧ SR w wr blk off dk ∧ Sort.partLoop ltU a i j dk = R
set_option maxHeartbeats 16000000 in
theorem part_any (blk off c a b pv n : Nat) (d : Array Nat) (hn : d.size = n) (hap : a ≤ pv) (hpb : pv < b) (hb : b ≤ n) (hs : n ≤ 1000) (w : World) (h : RowU w blk off d) :
    Calls Try.prog 129 #[.slice (some ⟨blk, off, none⟩) n c, .int .i64 (a : Int), .int .i64 (b : Int), .int .i64 (pv : Int)] w fun e w' => ∃ bl : Bool, e = .returned (.tuple #[.int .i64 ((Sort.partition ltU d a b pv).1 : Int), .bool bl]) ∧ SR w w' blk off (Sort.partition ltU d a b pv).2.2 := by
  rw [Sort.partition_fst, Sort.partition_arr]
  obtain ⟨R, eR2⟩ : ∃ R, Sort.partLoop ltU a (a + 1) (b - 1) (Sort.swp d a pv) = R := ⟨_, rfl⟩
  rw [eR2]
  obtain ⟨G, hG, hcw, hfw⟩ := h.fam n hn
  obtain ⟨u2, hu2⟩ := h.second a pv (by omega) (by omega) (.int .u64 (G pv : Int))
  have S1 := (SR.refl h).swapG hG 1 a pv (by omega) (by omega)
  have hs1 : (Sort.swp d a pv).size = n := by rw [Sort.size_swp]; exact hn
  obtain ⟨d1, hd1⟩ : ∃ d1, Sort.swp d a pv = d1 := ⟨_, rfl⟩
  rw [hd1] at S1 eR2 hs1
  have H1 := Lib.hid (And.intro S1 (And.intro hs1 eR2))
  have q2 : (a : Int) ≤ 1000 := by omega
  have q3 : (b : Int) ≤ 1000 := by omega
  clear h hG S1 hs1 eR2 hd1
  go_enter Try.func129, Try.ntmps129
  go_wp2_with fail
  go_region
  clear hcw hfw hu2
  go_upto_block 0 with fail
  obtain ⟨i, hi⟩ : ∃ i : Nat, (i : Int) = (a : Int) + 1 := ⟨a + 1, by omega⟩
  obtain ⟨j, hj⟩ : ∃ j : Nat, (j : Int) = (b : Int) - 1 := ⟨b - 1, by omega⟩
  rw [← hi, ← hj]
  have g1 : a < i := by omega
  have g2 : i ≤ j + 1 := by omega
  have g3 : j < b := by omega
  have eR := H1.out.2.2
  rw [show a + 1 = i by omega, show b - 1 = j by omega] at eR
  have Hd := Lib.hid (And.intro H1.out.1 eR)
  have hsz := Lib.hid H1.out.2.1
  clear H1 eR hi hj
  go_upto_block 0 with fail
  go_cut [10] from 30 to 45 (fun v wx => UpEnd w blk off d1 (fun x => ltU x d1[a]!) j i v wx)
  case first =>
    go_wp2_with fail
    go_loopw [10] (UpRel w blk off d1 (fun x => ltU x d1[a]!) j i) (fun v _ => j + 1 - (Lib.intOf v).toNat)
    case atStart => exact ⟨i, _, rfl, rfl, Nat.le_refl _, by omega, Hd.out.1, rfl⟩
    case round =>
      obtain ⟨k, wr, rfl, rfl, h1, h2, h3, h4⟩ := hrel
      obtain ⟨G, hG, hcw, hfw⟩ := h3.row.fam n hsz.out
      have HG := Lib.hid hG
      have Hk := Lib.hid (And.intro h3 h4)
      clear hG h3 h4
      by_cases hkj : k ≤ j
      · have hkz : (k : Int) ≤ (j : Int) := by omega
        have hk1 : k < n := by omega
        go_wp2_with fail
        go_quiet (first | (go_at_call 127; refine Calls.quiet_of_same (less_u _ _ _)))
        go_wp2_with fail
        · have hl : ltU (G k) (G a) = true := by first | assumption | exact notT (by assumption) | exact notF (by assumption)
          refine ⟨⟨k + 1, _, rfl, by go_num, by omega, by omega, Hk.out.1.drewN _, ?_⟩, by simp [Lib.intOf]; omega⟩
          rw [← Hk.out.2, scanUp_goU hkj (by show _ = true; rw [HG.out, HG.out] at hl; simpa using hl)]
        · have hl : ltU (G k) (G a) = false := by first | assumption | exact notT (by assumption) | exact notF (by assumption)
          go_meet
          exact ⟨k, _, rfl, rfl, h1, h2, Hk.out.1.drewN _, by rw [← Hk.out.2, scanUp_endU (Or.inr (by show _ = false; rw [HG.out, HG.out] at hl; simpa using hl))]⟩
      · have hkz : decide ((k : Int) ≤ (j : Int)) = false := decide_eq_false (by omega)
        go_wp2_with fail
        go_quiet (first | (go_at_call 127; refine Calls.quiet_of_same (less_u _ _ _)))
        go_wp2_with fail
        go_meet
        exact ⟨k, _, rfl, rfl, h1, h2, Hk.out.1.drewN _, by rw [← Hk.out.2, scanUp_endU (Or.inl hkj)]⟩
  case rest =>
    obtain ⟨i2, w2, rfl, rfl, hi1, hi2, hi3, hi4⟩ := hcut
    have HU := Lib.hid (And.intro hi3 hi4)
    clear hi3 hi4
    go_upto_block 2 with fail
    go_cut [11] from 46 to 62 (fun v wx => DownEnd w blk off d1 (fun x => !ltU x d1[a]!) i2 j v wx)
    case first =>
      go_wp2_with fail
      go_loopw [11] (DownRel w blk off d1 (fun x => !ltU x d1[a]!) i2 j) (fun v _ => (Lib.intOf v + 1).toNat)
      case atStart => exact ⟨j, _, rfl, rfl, Nat.le_refl _, by omega, HU.out.1, rfl⟩
      case round =>
        obtain ⟨k, wr, rfl, rfl, h1, h2, h3, h4⟩ := hrel
        obtain ⟨G, hG, hcw, hfw⟩ := h3.row.fam n hsz.out
        have HG := Lib.hid hG
        have Hk := Lib.hid (And.intro h3 h4)
        clear hG h3 h4
        by_cases hkj : i2 ≤ k
        · have hkz : (i2 : Int) ≤ (k : Int) := by omega
          have hk1 : k < n := by omega
          go_wp2_with fail
          go_quiet (first | (go_at_call 127; refine Calls.quiet_of_same (less_u _ _ _)))
          go_wp2_with fail
          · have hl : ltU (G k) (G a) = false := by first | assumption | exact notT (by assumption) | exact notF (by assumption)
            refine ⟨⟨k - 1, _, rfl, by congr 1; omega, by omega, by omega, Hk.out.1.drewN _, ?_⟩, by simp [Lib.intOf]⟩
            rw [← Hk.out.2, scanDown_goU hkj (by omega) (by show _ = true; rw [HG.out, HG.out] at hl; simpa using hl)]
          · have hl : ltU (G k) (G a) = true := by first | assumption | exact notT (by assumption) | exact notF (by assumption)
            go_meet
            exact ⟨k, _, rfl, rfl, h1, h2, Hk.out.1.drewN _, by rw [← Hk.out.2, scanDown_endU (Or.inr (by show _ = false; rw [HG.out, HG.out] at hl; simpa using hl))]⟩
        · have hkz : decide ((i2 : Int) ≤ (k : Int)) = false := decide_eq_false (by omega)
          go_wp2_with fail
          go_quiet (first | (go_at_call 127; refine Calls.quiet_of_same (less_u _ _ _)))
          go_wp2_with fail
          go_meet
          exact ⟨k, _, rfl, rfl, h1, h2, Hk.out.1.drewN _, by rw [← Hk.out.2, scanDown_endU (Or.inl hkj)]⟩
    case rest =>
      obtain ⟨j2, w3, rfl, rfl, hj1, hj2, hj3, hj4⟩ := hcut
      have HV := Lib.hid (And.intro hj3 hj4)
      clear hj3 hj4
      by_cases hij : j2 < i2
      · have hijz : (i2 : Int) > (j2 : Int) := by omega
        obtain ⟨G, hG, hcw, hfw⟩ := HV.out.1.row.fam n hsz.out
        obtain ⟨u2, hu2⟩ := HV.out.1.row.second j2 a (by rw [hsz.out]; omega) (by rw [hsz.out]; omega) (.int .u64 (G a : Int))
        have hk2 : j2 < n := by omega
        have hka : a < n := by omega
        have HG := Lib.hid hG
        clear hG
        go_wp2_with fail
        go_region
        all_goals go_wp2_with fail
        refine bodyPost_ret (v := .tuple #[.int .i64 (j2 : Int), .bool true]) (by simp [results, Try.results129, go_sem]) rfl ?_
        have e := part_breakU HU.out.2 HV.out.2 hij
        rw [Hd.out.2] at e
        subst e
        exact ⟨true, rfl, HV.out.1.swapG HG.out _ j2 a (by rw [hsz.out]; omega) (by rw [hsz.out]; omega)⟩
      · have hijz : ¬ (i2 : Int) > (j2 : Int) := by omega
        have hlt := scans_ltU (p := fun x => ltU x d1[a]!) (q := fun x => !ltU x d1[a]!) (fun x => by simp) (by omega) HU.out.2 HV.out.2 (by omega)
        obtain ⟨G, hG, hcw, hfw⟩ := HV.out.1.row.fam n hsz.out
        have hk1 : i2 < n := by omega
        have hk2 : j2 < n := by omega
        have HG := Lib.hid hG
        clear hG
        have hik : (i2 : Int) ≤ 1000 := by omega
        have hjk : (j2 : Int) ≤ 1000 := by omega
        go_wp2_with fail
        go_region
        all_goals go_wp2_with fail
        have S2 := HV.out.1.swapG HG.out 1 i2 j2 (by rw [hsz.out]; omega) (by rw [hsz.out]; omega)
        have e2 := Hd.out.2
        rw [part_goU HU.out.2 HV.out.2 (by omega)] at e2
        have s2 : (Sort.swp d1 i2 j2).size = n := by rw [Sort.size_swp]; exact hsz.out
        have H2 := Lib.hid (And.intro S2 (And.intro s2 e2))
        clear S2 e2 s2 HU HV Hd hcw hfw hsz HG
        go_loopw [10, 11] (PoRel w blk off a b n R) (fun v u _ => (Lib.intOf u + 1 - Lib.intOf v + 1).toNat)
        case atStart => exact ⟨i2 + 1, j2 - 1, _, _, rfl, by go_num, by congr 1; omega, by omega, by omega, by omega, H2.out.2.1, H2.out.1, H2.out.2.2⟩
        case round =>
          clear H2 hi1 hi2 hj1 hj2 hij hijz hlt hik hjk g1 g2 g3 hk1 hk2
          obtain ⟨i, j, dk, wr, rfl, rfl, rfl, g1, g2, g3, g4, g5, g6⟩ := hrel
          have Hd := Lib.hid (And.intro g5 g6)
          have hsz := Lib.hid g4
          clear g4 g5 g6
          go_upto_block 6 with fail
          go_cut [10] from 99 to 114 (fun v wx => UpEnd w blk off dk (fun x => ltU x dk[a]!) j i v wx)
          case first =>
            go_wp2_with fail
            go_loopw [10] (UpRel w blk off dk (fun x => ltU x dk[a]!) j i) (fun v _ => j + 1 - (Lib.intOf v).toNat)
            case atStart => exact ⟨i, _, rfl, rfl, Nat.le_refl _, by omega, Hd.out.1, rfl⟩
            case round =>
              obtain ⟨k, wr, rfl, rfl, h1, h2, h3, h4⟩ := hrel
              obtain ⟨G, hG, hcw, hfw⟩ := h3.row.fam n hsz.out
              have HG := Lib.hid hG
              have Hk := Lib.hid (And.intro h3 h4)
              clear hG h3 h4
              by_cases hkj : k ≤ j
              · have hkz : (k : Int) ≤ (j : Int) := by omega
                have hk1 : k < n := by omega
                go_wp2_with fail
                go_quiet (first | (go_at_call 127; refine Calls.quiet_of_same (less_u _ _ _)))
                go_wp2_with fail
                · have hl : ltU (G k) (G a) = true := by first | assumption | exact notT (by assumption) | exact notF (by assumption)
                  refine ⟨⟨k + 1, _, rfl, by go_num, by omega, by omega, Hk.out.1.drewN _, ?_⟩, by simp [Lib.intOf]; omega⟩
                  rw [← Hk.out.2, scanUp_goU hkj (by show _ = true; rw [HG.out, HG.out] at hl; simpa using hl)]
                · have hl : ltU (G k) (G a) = false := by first | assumption | exact notT (by assumption) | exact notF (by assumption)
                  go_meet
                  exact ⟨k, _, rfl, rfl, h1, h2, Hk.out.1.drewN _, by rw [← Hk.out.2, scanUp_endU (Or.inr (by show _ = false; rw [HG.out, HG.out] at hl; simpa using hl))]⟩
              · have hkz : decide ((k : Int) ≤ (j : Int)) = false := decide_eq_false (by omega)
                go_wp2_with fail
                go_quiet (first | (go_at_call 127; refine Calls.quiet_of_same (less_u _ _ _)))
                go_wp2_with fail
                go_meet
                exact ⟨k, _, rfl, rfl, h1, h2, Hk.out.1.drewN _, by rw [← Hk.out.2, scanUp_endU (Or.inl hkj)]⟩
          case rest =>
            obtain ⟨i2, w2, rfl, rfl, hi1, hi2, hi3, hi4⟩ := hcut
            have HU := Lib.hid (And.intro hi3 hi4)
            clear hi3 hi4
            go_upto_block 8 with fail
            go_cut [11] from 115 to 131 (fun v wx => DownEnd w blk off dk (fun x => !ltU x dk[a]!) i2 j v wx)
            case first =>
              go_wp2_with fail
              go_loopw [11] (DownRel w blk off dk (fun x => !ltU x dk[a]!) i2 j) (fun v _ => (Lib.intOf v + 1).toNat)
              case atStart => exact ⟨j, _, rfl, rfl, Nat.le_refl _, by omega, HU.out.1, rfl⟩
              case round =>
                obtain ⟨k, wr, rfl, rfl, h1, h2, h3, h4⟩ := hrel
                obtain ⟨G, hG, hcw, hfw⟩ := h3.row.fam n hsz.out
                have HG := Lib.hid hG
                have Hk := Lib.hid (And.intro h3 h4)
                clear hG h3 h4
                by_cases hkj : i2 ≤ k
                · have hkz : (i2 : Int) ≤ (k : Int) := by omega
                  have hk1 : k < n := by omega
                  go_wp2_with fail
                  go_quiet (first | (go_at_call 127; refine Calls.quiet_of_same (less_u _ _ _)))
                  go_wp2_with fail
                  · have hl : ltU (G k) (G a) = false := by first | assumption | exact notT (by assumption) | exact notF (by assumption)
                    refine ⟨⟨k - 1, _, rfl, by congr 1; omega, by omega, by omega, Hk.out.1.drewN _, ?_⟩, by simp [Lib.intOf]⟩
                    rw [← Hk.out.2, scanDown_goU hkj (by omega) (by show _ = true; rw [HG.out, HG.out] at hl; simpa using hl)]
                  · have hl : ltU (G k) (G a) = true := by first | assumption | exact notT (by assumption) | exact notF (by assumption)
                    go_meet
                    exact ⟨k, _, rfl, rfl, h1, h2, Hk.out.1.drewN _, by rw [← Hk.out.2, scanDown_endU (Or.inr (by show _ = false; rw [HG.out, HG.out] at hl; simpa using hl))]⟩
                · have hkz : decide ((i2 : Int) ≤ (k : Int)) = false := decide_eq_false (by omega)
                  go_wp2_with fail
                  go_quiet (first | (go_at_call 127; refine Calls.quiet_of_same (less_u _ _ _)))
                  go_wp2_with fail
                  go_meet
                  exact ⟨k, _, rfl, rfl, h1, h2, Hk.out.1.drewN _, by rw [← Hk.out.2, scanDown_endU (Or.inl hkj)]⟩
            case rest =>
              obtain ⟨j2, w3, rfl, rfl, hj1, hj2, hj3, hj4⟩ := hcut
              have HV := Lib.hid (And.intro hj3 hj4)
              clear hj3 hj4
              by_cases hij : j2 < i2
              · have hijz : (i2 : Int) > (j2 : Int) := by omega
                obtain ⟨G, hG, hcw, hfw⟩ := HV.out.1.row.fam n hsz.out
                obtain ⟨u2, hu2⟩ := HV.out.1.row.second j2 a (by rw [hsz.out]; omega) (by rw [hsz.out]; omega) (.int .u64 (G a : Int))
                have hk2 : j2 < n := by omega
                have hka : a < n := by omega
                have HG := Lib.hid hG
                clear hG
                go_wp2_with fail
                go_region
                all_goals go_wp2_with fail
                refine bodyPost_ret (v := .tuple #[.int .i64 (j2 : Int), .bool false]) (by simp [results, Try.results129, go_sem]) rfl ?_
                have e := part_breakU HU.out.2 HV.out.2 hij
                rw [Hd.out.2] at e
                subst e
                exact ⟨false, rfl, HV.out.1.swapG HG.out _ j2 a (by rw [hsz.out]; omega) (by rw [hsz.out]; omega)⟩
              · have hijz : ¬ (i2 : Int) > (j2 : Int) := by omega
                have hlt := scans_ltU (p := fun x => ltU x dk[a]!) (q := fun x => !ltU x dk[a]!) (fun x => by simp) (by omega) HU.out.2 HV.out.2 (by omega)
                obtain ⟨G, hG, hcw, hfw⟩ := HV.out.1.row.fam n hsz.out
                have hk1 : i2 < n := by omega
                have hk2 : j2 < n := by omega
                have HG := Lib.hid hG
                clear hG
                go_wp2_with fail
                go_region
                all_goals go_wp2_with fail
                refine ⟨⟨i2 + 1, j2 - 1, Sort.swp dk i2 j2, _, rfl, by go_num, by congr 1; omega, by omega, by omega, by omega, by rw [Sort.size_swp]; exact hsz.out, HV.out.1.swapG HG.out _ i2 j2 (by rw [hsz.out]; omega) (by rw [hsz.out]; omega), ?_⟩, by simp [Lib.intOf]; omega⟩
                rw [← Hd.out.2, part_goU HU.out.2 HV.out.2 (by omega)]
end Go.Proofs.Ytmmaimopombepaa