/- The contracts of the reference's functions over digits: least. -/
import Derived.Test.YtccjhlipcgpkmaaDoorRefe
namespace Go.Proofs.YtccjhlipcgpkmaaDoor
open Go.RowKit

theorem valD_append (a : List Int) : ∀ b, valD (a ++ b) = valD a + 65536 ^ a.length * valD b := by
  induction a with
  | nil => intro b; simp [valD]
  | cons x r ih =>
    intro b
    simp only [List.cons_append, valD, ih, List.length_cons, Int.pow_succ]
    grind
theorem valD_at (l : List Int) (j : Nat) (hj : j < l.length) : valD l = valD (l.take j) + 65536 ^ j * (l[j] + 65536 * valD (l.drop (j + 1))) := by
  have e : l = l.take j ++ (l[j] :: l.drop (j + 1)) := by rw [← List.drop_eq_getElem_cons hj, List.take_append_drop]
  have := congrArg valD e
  rw [valD_append, List.length_take, Nat.min_eq_left (by omega)] at this
  exact this
theorem lex_cmp {l : List Int} (hs : Small l) (j : Nat) (hj : j < l.length) (hp : j < primeDigits.length) (hd : l.drop (j + 1) = primeDigits.drop (j + 1)) (hne : l[j] ≠ primeDigits[j]) :
    decide (Pr ≤ valD l) = decide (primeDigits[j] < l[j]) := by
  have e1 := valD_at l j hj
  have e2 := valD_at primeDigits j hp
  rw [valD_prime] at e2
  rw [hd] at e1
  have r1 := valD_range (l.take j) (small_take hs j)
  have r2 := valD_range (primeDigits.take j) (small_take prime_small_digits j)
  rw [List.length_take, Nat.min_eq_left (by omega)] at r1 r2
  rw [e1, e2]
  generalize valD (l.take j) = a at *
  generalize valD (primeDigits.take j) = b at *
  generalize valD (primeDigits.drop (j + 1)) = t at *
  generalize l[j] = x at *
  generalize primeDigits[j] = y at *
  have hp0 : (0 : Int) < 65536 ^ j := Int.pow_pos (by omega)
  generalize (65536 : Int) ^ j = p at *
  clear e1 e2 hd
  rw [Int.mul_add, Int.mul_add]
  generalize p * (65536 * t) = z at *
  by_cases h : y < x
  · have h1 : p * y + p ≤ p * x := by
      have := Int.mul_le_mul_of_nonneg_left (show y + 1 ≤ x by omega) (Int.le_of_lt hp0)
      rw [Int.mul_add, Int.mul_one] at this
      exact this
    rw [decide_eq_true h, decide_eq_true (by omega)]
  · have h1 : p * x + p ≤ p * y := by
      have := Int.mul_le_mul_of_nonneg_left (show x + 1 ≤ y by omega) (Int.le_of_lt hp0)
      rw [Int.mul_add, Int.mul_one] at this
      exact this
    rw [decide_eq_false h, decide_eq_false (by omega)]

def LeastRel (w : World) (l : List Int) (v : Value) (wr : World) : Prop := ∃ i : Int, (-1 ≤ i ∧ i ≤ 15) ∧ v = .int .i64 i ∧ l.drop (i + 1).toNat = primeDigits.drop (i + 1).toNat ∧ Below w.heap.size w wr

set_option maxHeartbeats 1000000 in
theorem least_any (v : Value) (l : List Int) (hl : l.length = 16) (hsm : Small l) (w : World) (hI : IntsAt w v l) :
    Calls Tryd.prog 41 #[v] w fun e w' => e = .returned (.bool (decide (Pr ≤ valD l))) ∧ Below w.heap.size w w' := by
  obtain ⟨b, cp, rfl, hb, hc⟩ := hI
  have HC := Lib.hid hc; have HL := Lib.hid hl; have HM := Lib.hid hsm
  clear hc hsm
  rw [hl]
  clear hl
  obtain ⟨r, hr⟩ : ∃ r, r = decide (Pr ≤ valD l) := ⟨_, rfl⟩
  rw [← hr]
  have HR := Lib.hid hr
  clear hr
  go_enter Tryd.func41, Tryd.ntmps41
  go_wp2_with fail
  refine (refPrime_any _).mono ?_
  rintro e w1 ⟨pv, rfl, hP, hB1⟩
  obtain ⟨pb, pc, rfl, hpb, hpc⟩ := hP.at (by decide)
  have HP := Lib.hid hpc; have HB1 := Lib.hid hB1
  have hsz1 := hB1.size
  clear hpc hP hB1
  rw [prime_length]
  go_wp2_with fail
  go_loopw [4] (LeastRel w1 l) (fun i _ => (intOf i + 1).toNat)
  case atStart => exact ⟨15, by omega, rfl, by rw [show ((15 : Int) + 1).toNat = 16 from rfl, List.drop_of_length_le (by rw [HL.out]; exact Nat.le_refl _)]; rfl, by go_grown⟩
  case round =>
    obtain ⟨i, hi, rfl, hdr, hB⟩ := hrel
    have HD := Lib.hid hdr
    have hsz := hB.size
    clear hdr
    obtain ⟨i0, i1⟩ := hi
    by_cases h0 : 0 ≤ i
    · obtain ⟨j, rfl⟩ := Int.eq_ofNat_of_zero_le h0
      have hj : j < 16 := by omega
      have hlj : j < l.length := by rw [HL.out]; exact hj
      have hpj : j < primeDigits.length := by rw [prime_length]; exact hj
      have hd := HM.out _ (List.getElem_mem hlj)
      have hcell : wr.cell? ⟨b, j, none⟩ = some (.int .i64 l[j]) := by
        rw [hB.cell (p := ⟨b, j, none⟩) (show b < w1.heap.size by omega), HB1.out.cell (p := ⟨b, j, none⟩) hb]
        exact at_cell HC.out j hlj
      have hpcell : wr.cell? ⟨pb, j, none⟩ = some (.int .i64 primeDigits[j]) := by
        rw [hB.cell (p := ⟨pb, j, none⟩) hpb]
        exact at_cell HP.out j hpj
      have hlb : b < wr.heap.size := by omega
      have hlpb : pb < wr.heap.size := by omega
      have h16 : (j : Int) < 16 := by omega
      have hdd : l.drop (j + 1) = primeDigits.drop (j + 1) := by have := HD.out; rwa [show ((j : Int) + 1).toNat = j + 1 by omega] at this
      by_cases hne : l[j] = primeDigits[j]
      · have hb1 : (l[j] != primeDigits[j]) = false := by rw [bne_eq_false_iff_eq]; exact hne
        have hb2 : (l[j] == primeDigits[j]) = true := by rw [beq_iff_eq]; exact hne
        have HN : Hid (l.drop j = primeDigits.drop j) := by
          show l.drop j = primeDigits.drop j
          rw [List.drop_eq_getElem_cons hlj, List.drop_eq_getElem_cons hpj, hne, hdd]
        clear hne hdd
        generalize l[j] = x at *
        generalize primeDigits[j] = y at *
        go_wp2_with fail
        go_quiet (fail)
        go_wp2_with fail
        refine ⟨⟨(j : Int) - 1, by omega, rfl, ?_, below_quiet hB _⟩, by simp [intOf]⟩
        rw [show ((j : Int) - 1 + 1).toNat = j by omega]
        exact HN.out
      · have hlex := lex_cmp HM.out j hlj hpj hdd hne
        rw [← HR.out] at hlex
        have hb1 : (l[j] != primeDigits[j]) = true := by rw [bne_iff_ne]; exact hne
        have hb2 : (l[j] == primeDigits[j]) = false := by rw [beq_eq_false_iff_ne]; exact hne
        have HX := Lib.hid hlex
        clear hlex hdd hne
        generalize l[j] = x at *
        generalize primeDigits[j] = y at *
        go_wp2_with fail
        go_quiet (fail)
        go_wp2_with fail
        go_quiet (fail)
        go_wp2_with fail
        go_ret
        refine ⟨?_, HB1.out.trans ((below_quiet (below_quiet hB _) _).mono hsz1)⟩
        rw [HX.out]
        rfl
    · obtain rfl : i = -1 := by omega
      go_wp2_with fail
      go_ret
      have e : l = primeDigits := by have := HD.out; simpa using this
      have hr : r = true := by rw [HR.out, e, valD_prime]; simp
      rw [hr]
      exact ⟨rfl, HB1.out.trans (hB.mono hsz1)⟩
end Go.Proofs.YtccjhlipcgpkmaaDoor
