/- The package's first: the record that bytes begin with. -/
import Derived.Test.YtimijdmigdlhfaaUf
import Derived.Test.YtimijdmigdlhfaaPp
import Derived.Test.YtimijdmigdlhfaaTj
namespace Go.Proofs.Ytimijdmigdlhfaa
open Go.RowKit
set_option maxRecDepth 100000
theorem ahead_longer (r : List UInt8) (n k m : Nat) (h : ahead r = some (n, k)) (hm : k ≤ m) : ahead (r.take m) = some (n, k) := by
  obtain ⟨h1, h2, h3, h4, -, -⟩ := ahead_some _ _ _ h
  have e : r.take m = numB n ++ (r.drop k).take (m - k) := by
    rw [← h1, take_more]; congr 1; omega
  rw [e, ahead_numB _ _ h4, ← h2]
theorem unpackT_eq (r : List UInt8) : unpackL r [116] = match ahead r with
    | none => ([], 0, 4)
    | some (n, k) => if n ≤ 1024 ∧ k + n ≤ r.length then (if k + n < r.length then ([], k + n, 4) else ([⟨true, 0, strL ((r.drop k).take n)⟩], 0, 0)) else ([], 0, 4) := by
  unfold unpackL
  rw [if_pos (by decide)]
  have hs : stepKs r [116] ([], 0) = stepT r ([], 0) := by
    have e : stepK r 116 ([], 0) = stepT r ([], 0) := rfl
    rw [stepKs, e]
    cases h : (stepT r ([], 0)).2
    · rfl
    · rw [if_pos rfl, stepKs, ← h]
  rw [hs]
  unfold stepT
  simp only [List.drop_zero]
  cases ha : ahead r with
  | none => simp
  | some p =>
    obtain ⟨n, k⟩ := p
    simp only [Nat.zero_add, List.nil_append]
    by_cases hc : n ≤ 1024 ∧ k + n ≤ r.length
    · rw [if_pos hc, if_pos hc]; simp
    · rw [if_neg hc, if_neg hc]; simp
/-- what the package's first finds: no text, or a text whose crc is still to be looked at -/
theorem first_cases (C : Ck) (r : List UInt8) :
    ((unpackL r [116]).2.1 = 0 ∧ (unpackL (r.take 0) [116]).2.2 = 4 ∧ aheadR C r = none) ∨
    (∃ (m : Nat) (t : ByteArray), (unpackL r [116]).2.1 = m ∧ unpackL (r.take m) [116] = ([⟨true, 0, t⟩], 0, 0) ∧ m ≤ r.length ∧ t.size ≤ 1024 ∧ txB t = r.take m ∧
      aheadR C r = if m + 4 ≤ r.length ∧ (r.drop m).take 4 = C.f t then some (t, m + 4) else none) := by
  have h0 : (unpackL (r.take 0) [116]).2.2 = 4 := by rw [unpackT_eq]; rfl
  have hU := unpackT_eq r
  unfold aheadR
  cases ha : ahead r with
  | none => left; rw [ha] at hU; exact ⟨by rw [hU], h0, rfl⟩
  | some p =>
    obtain ⟨n, k⟩ := p
    obtain ⟨a1, a2, a3, a4, a5, a6⟩ := ahead_some _ _ _ ha
    rw [ha] at hU
    simp only at hU ⊢
    by_cases hc : n ≤ 1024 ∧ k + n ≤ r.length
    · rw [if_pos hc] at hU
      by_cases hlt : k + n < r.length
      · rw [if_pos hlt] at hU
        right
        have hlen : ((r.drop k).take n).length = n := by rw [List.length_take, List.length_drop]; omega
        refine ⟨k + n, strL ((r.drop k).take n), by rw [hU], ?_, by omega, by rw [strL_size, hlen]; omega, ?_, ?_⟩
        · rw [unpackT_eq, ahead_longer r n k _ ha (by omega)]
          simp only
          have e1 : (r.take (k + n)).length = k + n := by rw [List.length_take]; omega
          rw [if_pos ⟨hc.1, by omega⟩, if_neg (by omega), List.drop_take, List.take_take]
          congr 5
          omega
        · unfold txB
          rw [strL_size, hlen, bl_strL, ← a1, take_more]
        · by_cases h4 : k + n + 4 ≤ r.length ∧ (r.drop (k + n)).take 4 = C.f (strL ((r.drop k).take n))
          · rw [if_pos ⟨hc.1, h4.1, h4.2⟩, if_pos h4]
          · rw [if_neg (fun h => h4 ⟨h.2.1, h.2.2⟩), if_neg h4]
      · left
        rw [if_neg hlt] at hU
        exact ⟨by rw [hU], h0, if_neg (fun h => hlt (by omega))⟩
    · left
      rw [if_neg hc] at hU
      exact ⟨by rw [hU], h0, if_neg (fun h => hc ⟨h.1, by omega⟩)⟩
def fstS (X : Option (ByteArray × Nat)) : ByteArray := match X with | none => ⟨#[]⟩ | some p => p.1
def fstK (X : Option (ByteArray × Nat)) : Nat := match X with | none => 0 | some p => p.2
def fstB (X : Option (ByteArray × Nat)) : Bool := X.isSome
theorem pre_eq (s : ByteArray) (m : Nat) (l : List UInt8) (hl : l.length = 4) : preS (strL ((bl s).drop m)) (strL l) = decide (m + 4 ≤ (bl s).length ∧ ((bl s).drop m).take 4 = l) := by
  unfold preS
  rw [strL_size, strL_size, bl_strL, bl_strL, hl, List.length_drop]
  by_cases h1 : m + 4 ≤ (bl s).length
  · rw [decide_eq_true (show 4 ≤ (bl s).length - m by omega), Bool.true_and]
    congr 1
    simp [h1]
  · rw [decide_eq_false (show ¬ 4 ≤ (bl s).length - m by omega), Bool.false_and, decide_eq_false (fun h => h1 h.1)]
theorem cut_behind (s : ByteArray) (m : Nat) (hm : m ≤ s.size) (W : World) : (Instr.slice 9 (.string s) (some (.int .i64 (m : Int))) none none).run Try.prog W = .ok (.string (strL ((bl s).drop m))) W := by
  have h1 : (m : Int) ≤ (s.size : Int) := by omega
  have hb : s.extract m s.size = strL ((bl s).drop m) := bl_inj (by rw [bl_extract, bl_strL, List.take_of_length_le (Nat.le_of_eq (bl_length s))])
  rw [← hb]
  go_simp
theorem cut_ahead (s : ByteArray) (m : Nat) (hm : m ≤ s.size) (W : World) : (Instr.slice 9 (.string s) none (some (.int .i64 (m : Int))) none).run Try.prog W = .ok (.string (strL ((bl s).take m))) W := by
  refine cut_to s _ m hm ?_ W
  exact bl_inj (by rw [bl_extract, bl_strL, List.drop_zero])
end Go.Proofs.Ytimijdmigdlhfaa