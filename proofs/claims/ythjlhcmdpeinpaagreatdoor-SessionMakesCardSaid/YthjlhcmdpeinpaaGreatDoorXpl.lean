/- slices.Equal of kept keys; skipped's Like. -/
import Derived.Test.YthjlhcmdpeinpaaGreatDoorBg20
import Derived.Test.YthjlhcmdpeinpaaGreatDoorBg19
import Derived.Laws.AppendOwnNone
import Derived.Lib.AppendZeros
namespace Go.Proofs.YthjlhcmdpeinpaaGreatDoor
open Go.RowKit Go.Sort
set_option maxRecDepth 100000
set_option maxHeartbeats 4000000 in
theorem EqualK_any (a b : Option Addr) (c c' : Nat) (l m : List Kk) (hl : l.length ≤ 1000) (w : World) (hp : KSl w a l) (hq : KSl w b m) :
    Calls Tryz.prog 59 #[.slice a l.length c, .slice b m.length c'] w fun e w' => e = .returned (.bool (decide (l = m))) ∧ Below w.heap.size w w' := by
  have HP := Lib.hid hp; have HQ := Lib.hid hq; have HL := Lib.hid hl
  clear hp hq hl
  by_cases hlen : l.length = m.length
  case neg =>
    have hn : ¬ (l.length : Int) = (m.length : Int) := by omega
    rw [decide_eq_false fun e => hlen (by rw [e])]
    clear hlen HP HQ HL
    go_enter Tryz.func59, Tryz.ntmps59
    go_wp2_with fail
    go_ret
    exact ⟨rfl, Below.refl _ _⟩
  case pos =>
    rw [show m.length = l.length from hlen.symm]
    have HLN := Lib.hid hlen
    clear hlen
    go_enter Tryz.func59, Tryz.ntmps59
    go_wp2_with fail
    go_loopw [13] (SameRelK w l m) (fun i _ => l.length - (intOf i).toNat)
    case atStart => exact ⟨0, Nat.zero_le _, rfl, fun j hj => absurd hj (Nat.not_lt_zero j), Below.refl _ _⟩
    case round =>
      obtain ⟨k, hk, rfl, hd, hB⟩ := hrel
      by_cases hlt : k < l.length
      · have h1 : (k : Int) < (l.length : Int) := by omega
        have h1k : (k : Int) < 1000 := by have := HL.out; omega
        obtain ⟨g, off, rfl, hbl, hc⟩ := HP.out (by omega)
        obtain ⟨g', off', rfl, hbl', hc'⟩ := HQ.out (by have := HLN.out; omega)
        have hpt := (hc k hlt).below hB hbl
        have hpt' := (hc' k (by have := HLN.out; omega)).below hB hbl'
        have hno : l.getD k k00 ≠ m.getD k k00 → l ≠ m := same_not
        have hyes : l.getD k k00 = m.getD k k00 → ∀ j, j < k + 1 → l.getD j k00 = m.getD j k00 := fun h j hj => by
          by_cases e : j = k
          · subst e; exact h
          · exact hd j (by omega)
        obtain ⟨p, ep⟩ : ∃ p, l.getD k k00 = p := ⟨_, rfl⟩
        obtain ⟨q, eq⟩ : ∃ q, m.getD k k00 = q := ⟨_, rfl⟩
        rw [ep] at hpt hno hyes
        rw [eq] at hpt' hno hyes
        obtain ⟨r, n, s⟩ := p
        obtain ⟨r', n', s'⟩ := q
        obtain ⟨c0, c1, c2⟩ := hpt
        obtain ⟨d0, d1, d2⟩ := hpt'
        simp only at c0 c1 c2 d0 d1 d2
        have q1 := str_eqK r r'
        have q2 := nat_eqK n n'
        have q3 := str_eqK s s'
        have HB := Lib.hid hB; have HN := Lib.hid hno; have HY := Lib.hid hyes
        clear hB hc hc' ep eq hd hbl hbl' hno hyes
        go_upto_region 6 with fail
        by_cases e1 : r = r' ∧ n = n' ∧ s = s'
        · obtain ⟨rfl, rfl, rfl⟩ := e1
          have HY2 := Lib.hid (HY.out rfl)
          clear HY HN q1 q2 q3
          go_quiet (fail)
          go_wp2_with fail
          exact ⟨⟨k + 1, by omega, by simp, HY2.out, below_redrawn HB.out (by first | rfl | simp) (by first | rfl | simp) (by first | rfl | simp) (by first | rfl | simp)⟩, by simp [intOf]; omega⟩
        · have HN2 := Lib.hid (decide_eq_false (HN.out fun h => e1 (by cases h; exact ⟨rfl, rfl, rfl⟩)))
          clear HN HY
          by_cases f1 : r = r'
          · subst f1
            clear q1
            by_cases f2 : n = n'
            · subst f2
              have f3 : s ≠ s' := fun h => e1 ⟨rfl, rfl, h⟩
              rw [decide_eq_false f3] at q3
              clear q2 e1 f3
              go_quiet (fail)
              go_wp2_with fail
              go_ret
              exact ⟨by rw [HN2.out]; rfl, below_redrawn HB.out (by first | rfl | simp) (by first | rfl | simp) (by first | rfl | simp) (by first | rfl | simp)⟩
            · rw [decide_eq_false f2] at q2
              clear q3 e1 f2
              go_quiet (fail)
              go_wp2_with fail
              go_ret
              exact ⟨by rw [HN2.out]; rfl, below_redrawn HB.out (by first | rfl | simp) (by first | rfl | simp) (by first | rfl | simp) (by first | rfl | simp)⟩
          · rw [decide_eq_false f1] at q1
            clear q2 q3 e1 f1
            go_quiet (fail)
            go_wp2_with fail
            go_ret
            exact ⟨by rw [HN2.out]; rfl, below_redrawn HB.out (by first | rfl | simp) (by first | rfl | simp) (by first | rfl | simp) (by first | rfl | simp)⟩
      · obtain rfl : k = l.length := by omega
        have hn : ¬ (l.length : Int) < (l.length : Int) := by omega
        have HD := Lib.hid (decide_eq_true (same_all HLN.out hd)); have HB := Lib.hid hB
        clear hB hd
        go_wp2_with fail
        go_ret
        exact ⟨by rw [HD.out]; rfl, HB.out⟩
set_option maxHeartbeats 400000 in
theorem Like_any (a b : Option Addr) (c c' : Nat) (l m : List Kk) (hl : l.length ≤ 1000) (w : World) (hp : KSl w a l) (hq : KSl w b m) :
    Calls Tryz.prog 31 #[.slice a l.length c, .slice b m.length c'] w fun e w' => e = .returned (.bool (decide (l = m))) ∧ Below w.heap.size w w' := by
  have H := Lib.hid (EqualK_any a b c c' l m hl w hp hq)
  clear hl hp hq
  go_enter Tryz.func31, Tryz.ntmps31
  go_wp2_with fail
  refine H.out.mono ?_
  rintro e w1 ⟨rfl, hb⟩
  have HB := Lib.hid hb
  clear hb H
  go_wp2_with fail
  go_ret
  exact ⟨rfl, HB.out⟩
end Go.Proofs.YthjlhcmdpeinpaaGreatDoor