/- The contract of the reference's primes: the first so many prime numbers. -/
import Derived.Test.YtolobdeilfgmnaaDoorDroot
namespace Go.Proofs.YtolobdeilfgmnaaDoor
open Go.RowKit
/-- does none of the first j numbers of the list divide n? -/
def noneS (l : List Nat) (n : Nat) : Nat → Bool
  | 0 => true
  | j + 1 => noneS l n j && decide (n % l.getD j 0 ≠ 0)
/-- the prime numbers among 2 to k + 1 -/
def primU : Nat → List Nat
  | 0 => []
  | k + 1 => if noneS (primU k) (k + 2) (primU k).length then primU k ++ [k + 2] else primU k
theorem primU_le (k : Nat) : (primU k).length ≤ k := by
  induction k with
  | zero => simp [primU]
  | succ k ih =>
    rw [primU]
    split
    · simp; omega
    · omega
theorem primU_mem (k : Nat) : ∀ x ∈ primU k, 2 ≤ x ∧ x ≤ k + 1 := by
  induction k with
  | zero => simp [primU]
  | succ k ih =>
    rw [primU]
    intro x hx
    split at hx
    · rcases List.mem_append.1 hx with h | h
      · have := ih x h; omega
      · have : x = k + 2 := by simpa using h
        omega
    · have := ih x hx; omega
theorem primU_get (k j : Nat) (hj : j < (primU k).length) : 2 ≤ (primU k).getD j 0 ∧ (primU k).getD j 0 ≤ k + 1 := by
  have : (primU k).getD j 0 = (primU k)[j] := by simp [List.getD, hj]
  rw [this]
  exact primU_mem k _ (List.getElem_mem hj)
theorem primU_pre (k K : Nat) (h : k ≤ K) : ∃ t, primU K = primU k ++ t := by
  induction h with
  | refl => exact ⟨[], by simp⟩
  | @step m _ ih =>
    obtain ⟨t, ht⟩ := ih
    have e : primU (m + 1) = if noneS (primU m) (m + 2) (primU m).length then primU m ++ [m + 2] else primU m := rfl
    rw [e]
    split
    · exact ⟨t ++ [m + 2], by rw [ht]; simp⟩
    · exact ⟨t, ht⟩

def PrimOuter (w : World) (K : Nat) (v n : Value) (wr : World) : Prop :=
  ∃ k g cap : Nat, k ≤ K ∧ n = .int .i64 ((k + 2 : Nat) : Int) ∧ v = .slice (some ⟨g, 0, none⟩) (primU k).length cap ∧ OwnI wr w.heap.size v (primU k) ∧ Below w.heap.size w wr
def PrimInner (w0 : World) (l : List Nat) (n : Nat) (s i : Value) (wr : World) : Prop :=
  ∃ j : Nat, j ≤ l.length ∧ i = .int .i64 (j : Int) ∧ s = .bool (noneS l n j) ∧ Bel w0 wr

set_option maxRecDepth 100000 in
set_option maxHeartbeats 4000000 in
theorem primes_any (m K : Nat) (hm : m ≤ 1000) (hK : (primU K).length = m) (hK2 : K ≤ 1000) (w : World) :
    Calls Tryd.prog 27 #[.int .i64 (m : Int)] w fun e w' => ∃ v, e = .returned v ∧ OwnI w' w.heap.size v (primU K) ∧ Below w.heap.size w w' := by
  go_enter Tryd.func27, Tryd.ntmps27
  go_wp2_with fail
  go_loopw [3, 4] (PrimOuter w K) (fun _ n _ => K + 2 - (intOf n).toNat)
  case atStart => exact ⟨0, _, _, by omega, rfl, rfl, OwnI.empty w _ (Nat.le_refl _), by go_grown⟩
  case round =>
    obtain ⟨k, g, cap, hk, rfl, rfl, hI, hbl⟩ := hrel
    have hsz := hbl.size
    have hmem := primU_get k
    have hle := primU_le k
    have hpre := primU_pre k K hk
    have hstep : primU (k + 1) = if noneS (primU k) (k + 2) (primU k).length then primU k ++ [k + 2] else primU k := rfl
    have HS := Lib.hid hstep; have HPR := Lib.hid hpre; have HM := Lib.hid hmem
    clear hstep hpre hmem
    obtain ⟨l, hl⟩ : ∃ l, primU k = l := ⟨_, rfl⟩
    rw [hl] at hI hle HS HPR HM ⊢
    have HL := Lib.hid hl
    clear hl
    have hd := hI.at
    have HI := Lib.hid hI
    clear hI
    by_cases hlt : l.length < m
    · have l1 : (l.length : Int) < (m : Int) := by omega
      have hkK : k < K := by
        rcases Nat.lt_or_ge k K with h | h
        · exact h
        · exfalso
          obtain rfl : k = K := by omega
          rw [HL.out] at hK
          omega
      obtain ⟨n, hn⟩ : ∃ n, k + 2 = n := ⟨_, rfl⟩
      have hn2 : n ≤ 1001 := by omega
      have w1 : IntKind.i64.wrap ((n : Int) + 1) = ((n + 1 : Nat) : Int) := by rw [← Int.natCast_one, ← Int.natCast_add]; exact IntWalk.i64_in _ (by omega)
      rw [hn] at HS ⊢
      have HN := Lib.hid hn
      have HA : Hid (0 < l.length → IntsAt wr (.slice (some ⟨g, 0, none⟩) l.length cap) l) := hd
      clear hd hn
      go_wp2_with fail
      obtain ⟨wo, rfl⟩ : ∃ wo : World, wo = wr := ⟨_, rfl⟩
      go_loopw [5, 17] (PrimInner wo l n) (fun _ j _ => l.length - (intOf j).toNat)
      case atStart => exact ⟨0, by omega, rfl, rfl, Bel.refl _⟩
      case round =>
        obtain ⟨j, hj, rfl, rfl, hbel⟩ := hrel
        by_cases hjl : j < l.length
        · have l2 : (j : Int) < (l.length : Int) := by omega
          obtain ⟨g', c', e', hg', hc'⟩ := HA.out (by omega)
          obtain ⟨rfl, rfl⟩ : g = g' ∧ cap = c' := by simpa using e'
          have c1 : wr.cell? ⟨g, j, none⟩ = some (.int .i64 ((l.getD j 0 : Nat) : Int)) := by
            rw [hbel.b.cell (p := ⟨g, j, none⟩) hg']; exact hc' j hjl
          have hmj := HM.out j (by omega)
          have hst : noneS l n (j + 1) = (noneS l n j && decide (n % l.getD j 0 ≠ 0)) := rfl
          obtain ⟨p, hp⟩ : ∃ p, l.getD j 0 = p := ⟨_, rfl⟩
          rw [hp] at c1 hmj hst
          have hp0 : ¬ (p : Int) = 0 := by omega
          have m1 : (n : Int).tmod (p : Int) = ((n % p : Nat) : Int) := by
            rw [Int.natCast_emod, Int.tmod_eq_emod_of_nonneg (by omega)]
          have m2 : IntKind.i64.wrap ((n % p : Nat) : Int) = ((n % p : Nat) : Int) := IntWalk.i64_in _ (by have := Nat.mod_le n p; omega)
          obtain ⟨q, hq⟩ : ∃ q, n % p = q := ⟨_, rfl⟩
          rw [hq] at hst m1 m2
          have HST := Lib.hid hst
          clear hst hc' e'
          obtain ⟨t, ht⟩ : ∃ t, noneS l n j = t := ⟨_, rfl⟩
          rw [ht] at HST ⊢
          clear ht
          cases t
          · go_wp2_with fail
            all_goals (
              refine ⟨⟨j + 1, by omega, by simp, by rw [HST.out]; rfl, hbel⟩, by simp [intOf]; omega⟩)
          · go_wp2_with fail
            all_goals (
              refine ⟨⟨j + 1, by omega, by simp, ?_, hbel⟩, by simp [intOf]; omega⟩
              rw [HST.out]
              by_cases hq0 : q = 0
              · subst hq0; rfl
              · have hq1 : ¬ (q : Int) = 0 := by omega
                simp [hq0])
        · have ej : j = l.length := by omega
          have l2 : ¬ (j : Int) < (l.length : Int) := by omega
          have hI' := HI.out.on hbel.b
          have hB' : Below w.heap.size w wr := hbl.trans (hbel.b.mono hsz)
          have hsr := hB'.size
          have HI2 := Lib.hid hI'
          clear hI'
          obtain ⟨t, ht⟩ : ∃ t, noneS l n l.length = t := ⟨_, rfl⟩
          have hS := HS.out
          rw [ht] at hS
          rw [ej, ht]
          have HS2 := Lib.hid hS
          clear HS hS ht
          cases t
          · go_wp2_with fail
            all_goals (
              have e : primU (k + 1) = l := by rw [HS2.out]; rfl
              refine ⟨⟨k + 1, g, cap, by omega, ?_, by rw [e], by rw [e]; exact HI2.out, hB'⟩, ?_⟩
              · rw [show k + 1 + 2 = n + 1 by have := HN.out; omega]; simp
              · have := HN.out
                simp [intOf]; omega)
          · go_wp2_with (at_builtin; refine append_i rfl _ _ rfl w.heap.size _ l n wr.heap.size rfl ?c0 ?c1 ?c2 ?c3 ?c4 ?_)
            case c0 => exact OwnI.alloc HI2.out _
            case c3 => omega
            case c4 => first | omega | (simp; omega)
            intro g' cap' w' hI3 hg'
            have hB2 := HI2.out.below hB' hsr hg'
            have HI3 := Lib.hid hI3
            clear hI3 hg' hB'
            go_wp2_with fail
            all_goals (
              have e : primU (k + 1) = l ++ [n] := by rw [HS2.out]; rfl
              refine ⟨⟨k + 1, g', cap', by omega, ?_, by rw [e]; simp, by rw [e]; exact HI3.out, hB2⟩, ?_⟩
              · rw [show k + 1 + 2 = n + 1 by have := HN.out; omega]; simp
              · have := HN.out
                simp [intOf]; omega)
    · have l1 : ¬ (l.length : Int) < (m : Int) := by omega
      go_wp2_with fail
      go_ret
      refine ⟨_, rfl, ?_, hbl⟩
      obtain ⟨t, ht⟩ := HPR.out
      have hl := congrArg List.length ht
      rw [List.length_append, hK] at hl
      have : t = [] := List.eq_nil_of_length_eq_zero (by omega)
      subst this
      rw [ht, List.append_nil]
      exact HI.out
end Go.Proofs.YtolobdeilfgmnaaDoor