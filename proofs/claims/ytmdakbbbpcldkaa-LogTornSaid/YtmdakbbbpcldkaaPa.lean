/- Records as bytes, in plain mathematics: a number's bytes, what stands at a place, and that what is packed is unpacked as it was. -/
import Derived.Test.YtmdakbbbpcldkaaKa
namespace Go.Proofs.Ytmdakbbbpcldkaa
set_option maxRecDepth 100000
theorem revRec {α : Type} {M : List α → Prop} (h0 : M []) (h1 : ∀ l a, M l → M (l ++ [a])) (l : List α) : M l := by
  have h : ∀ r : List α, M r.reverse := fun r => by
    induction r with
    | nil => exact h0
    | cons a r ih => rw [List.reverse_cons]; exact h1 _ _ ih
  have := h l.reverse
  rwa [List.reverse_reverse] at this
/-- a number's bytes without those that are 0 ahead, the highest first -/
def digL (n : Nat) : List UInt8 := if _h : n = 0 then [] else digL (n / 256) ++ [UInt8.ofNat (n % 256)]
termination_by n
decreasing_by omega
def valL (l : List UInt8) : Nat := l.foldl (fun a d => 256 * a + d.toNat) 0
def numB (n : Nat) : List UInt8 := UInt8.ofNat (digL n).length :: digL n

theorem digL_zero : digL 0 = [] := by rw [digL]; simp
theorem digL_pos (n : Nat) (h : n ≠ 0) : digL n = digL (n / 256) ++ [UInt8.ofNat (n % 256)] := by
  rw [digL, dif_neg h]
theorem valL_nil : valL [] = 0 := rfl
theorem valL_snoc (l : List UInt8) (d : UInt8) : valL (l ++ [d]) = 256 * valL l + d.toNat := by
  unfold valL; rw [List.foldl_append]; rfl
theorem ofNat_mod (n : Nat) : (UInt8.ofNat (n % 256)).toNat = n % 256 := by
  rw [UInt8.toNat_ofNat']; omega
theorem valL_digL (n : Nat) : valL (digL n) = n := by
  induction n using Nat.strongRecOn with
  | _ n ih =>
    by_cases h : n = 0
    · subst h; rw [digL_zero]; rfl
    · rw [digL_pos n h, valL_snoc, ih (n / 256) (by omega), ofNat_mod]; omega
theorem digL_len_le (k n : Nat) (h : n < 256 ^ k) : (digL n).length ≤ k := by
  induction k generalizing n with
  | zero => have : n = 0 := by simpa using h
            subst this; rw [digL_zero]; simp
  | succ k ih =>
    by_cases h0 : n = 0
    · subst h0; rw [digL_zero]; simp
    · rw [digL_pos n h0, List.length_append]
      have := ih (n / 256) (by rw [Nat.pow_succ] at h; omega)
      simp; omega
theorem valL_lt (l : List UInt8) : valL l < 256 ^ l.length := by
  induction l using revRec with
  | h0 => simp [valL]
  | h1 l d ih =>
    rw [valL_snoc, List.length_append, List.length_singleton, Nat.pow_succ]
    have := d.toNat_lt
    omega
theorem digL_lt (n : Nat) : n < 256 ^ (digL n).length := by
  have := valL_lt (digL n); rwa [valL_digL] at this
theorem digL_head (n : Nat) : (digL n).head? ≠ some 0 := by
  induction n using Nat.strongRecOn with
  | _ n ih =>
    by_cases h : n = 0
    · subst h; rw [digL_zero]; simp
    · rw [digL_pos n h]
      by_cases h2 : n / 256 = 0
      · rw [h2, digL_zero]
        intro e
        simp at e
        have := ofNat_mod n
        rw [e] at this
        have h3 : (0 : UInt8).toNat = 0 := rfl
        omega
      · have := ih (n / 256) (by omega)
        rw [digL_pos _ h2] at this ⊢
        simpa [List.head?_append] using this
/-- bytes with no 0 ahead are those of their value -/
theorem digL_valL (l : List UInt8) (h : l.head? ≠ some 0) : digL (valL l) = l := by
  induction l using revRec with
  | h0 => rw [valL_nil, digL_zero]
  | h1 l d ih =>
    have hd := d.toNat_lt
    have e1 : UInt8.ofNat (valL (l ++ [d]) % 256) = d := by
      rw [valL_snoc]
      apply UInt8.toNat_inj.1
      rw [ofNat_mod]; omega
    have e2 : valL (l ++ [d]) / 256 = valL l := by rw [valL_snoc]; omega
    by_cases h0 : l = []
    · subst h0
      have hne : d ≠ 0 := by intro e; subst e; simp at h
      have hne2 : d.toNat ≠ 0 := fun e => hne (UInt8.toNat_inj.1 e)
      rw [digL_pos _ (by rw [valL_snoc]; omega), e1, e2, valL_nil, digL_zero]
    · have hh : l.head? ≠ some 0 := by
        rcases l with _ | ⟨a, t⟩
        · exact absurd rfl h0
        · simpa using h
      have il := ih hh
      have hv : valL l ≠ 0 := by
        intro e; rw [e, digL_zero] at il; exact h0 il.symm
      rw [digL_pos _ (by rw [valL_snoc]; omega), e1, e2, il]
theorem pow256_8 : (256 : Nat) ^ 8 = 18446744073709551616 := by decide
theorem digL_len8 (n : Nat) (h : n < 18446744073709551616) : (digL n).length ≤ 8 := digL_len_le 8 n (by rw [pow256_8]; exact h)
/-- how many bytes a number has, told by how many bits -/
theorem digL_len_bits (n L : Nat) (h1 : n < 2 ^ L) (h2 : L = 0 ∨ 2 ^ (L - 1) ≤ n) : (digL n).length = (L + 7) / 8 := by
  have hp : ∀ k, (256 : Nat) ^ k = 2 ^ (8 * k) := fun k => by rw [show (256 : Nat) = 2 ^ 8 from rfl, ← Nat.pow_mul]
  apply Nat.le_antisymm
  · apply digL_len_le
    rw [hp]
    exact Nat.lt_of_lt_of_le h1 (Nat.pow_le_pow_right (by omega) (by omega))
  · rcases h2 with h2 | h2
    · subst h2; simp
    · by_cases hL : L = 0
      · subst hL; simp
      · rcases Nat.lt_or_ge (digL n).length ((L + 7) / 8) with hlt | hge
        · exfalso
          have := digL_lt n
          rw [hp] at this
          have h3 : 2 ^ (8 * (digL n).length) ≤ 2 ^ (L - 1) := Nat.pow_le_pow_right (by omega) (by omega)
          omega
        · exact hge
/-- a number's byte at a place -/
theorem digL_get (n i : Nat) (h : i < (digL n).length) : (digL n).getD i 0 = UInt8.ofNat (n / 256 ^ ((digL n).length - 1 - i) % 256) := by
  induction n using Nat.strongRecOn generalizing i with
  | _ n ih =>
    by_cases h0 : n = 0
    · subst h0; rw [digL_zero] at h; simp at h
    · have e := digL_pos n h0
      have el : (digL n).length = (digL (n / 256)).length + 1 := by rw [e]; simp
      rw [el] at h ⊢
      rw [e]
      by_cases hi : i < (digL (n / 256)).length
      · rw [show (digL (n / 256) ++ [UInt8.ofNat (n % 256)]).getD i 0 = (digL (n / 256)).getD i 0 by simp [List.getD, List.getElem?_append_left hi], ih (n / 256) (by omega) i hi, Nat.div_div_eq_div_mul, ← Nat.pow_succ']
        rw [show (digL (n / 256)).length + 1 - 1 - i = ((digL (n / 256)).length - 1 - i).succ by omega]
      · obtain rfl : i = (digL (n / 256)).length := by omega
        rw [show (digL (n / 256)).length + 1 - 1 - (digL (n / 256)).length = 0 by omega]
        simp

/-- what number stands at the beginning of bytes, and how many bytes it has -/
def ahead (r : List UInt8) : Option (Nat × Nat) :=
  match r with
  | [] => none
  | m :: t => if m.toNat ≤ 8 ∧ m.toNat ≤ t.length ∧ (t.take m.toNat).head? ≠ some 0 then some (valL (t.take m.toNat), 1 + m.toNat) else none
theorem numB_length (n : Nat) : (numB n).length = 1 + (digL n).length := by unfold numB; simp; omega
theorem ahead_numB (n : Nat) (t : List UInt8) (h : n < 18446744073709551616) : ahead (numB n ++ t) = some (n, (numB n).length) := by
  have hl := digL_len8 n h
  have e : (UInt8.ofNat (digL n).length).toNat = (digL n).length := by rw [UInt8.toNat_ofNat']; omega
  unfold numB ahead
  simp only [List.cons_append, e]
  have e2 : (digL n ++ t).take (digL n).length = digL n := List.take_left
  rw [e2, if_pos ⟨hl, by simp, digL_head n⟩, valL_digL, List.length_cons, Nat.add_comm]
theorem ahead_some (r : List UInt8) (n k : Nat) (h : ahead r = some (n, k)) : r.take k = numB n ∧ k = (numB n).length ∧ k ≤ r.length ∧ n < 18446744073709551616 ∧ k ≤ 9 ∧ 1 ≤ k := by
  rcases r with _ | ⟨m, t⟩
  · simp [ahead] at h
  · rw [show ahead (m :: t) = if m.toNat ≤ 8 ∧ m.toNat ≤ t.length ∧ (t.take m.toNat).head? ≠ some 0 then some (valL (t.take m.toNat), 1 + m.toNat) else none from rfl] at h
    split at h
    · rename_i hc
      obtain ⟨h1, h2, h3⟩ := hc
      simp only [Option.some.injEq, Prod.mk.injEq] at h
      obtain ⟨rfl, rfl⟩ := h
      have hd := digL_valL _ h3
      have hlen : (t.take m.toNat).length = m.toNat := by rw [List.length_take]; omega
      have hm : UInt8.ofNat m.toNat = m := by simp
      have hN : numB (valL (t.take m.toNat)) = m :: t.take m.toNat := by
        unfold numB; rw [hd, hlen, hm]
      refine ⟨by rw [hN, Nat.add_comm, List.take_succ_cons], by rw [hN, List.length_cons, hlen]; omega, by simp; omega, ?_, by omega, by omega⟩
      have := valL_lt (t.take m.toNat)
      rw [hlen] at this
      have h8 : (256 : Nat) ^ m.toNat ≤ 256 ^ 8 := Nat.pow_le_pow_right (by omega) h1
      rw [pow256_8] at h8
      omega
    · simp at h
/-- a part -/
structure Pt where
  text : Bool
  n : Nat
  s : ByteArray
def partB (p : Pt) : List UInt8 := if p.text then numB p.s.size ++ bl p.s else numB p.n
def packL (l : List Pt) : List UInt8 := l.flatMap partB
def longP (p : Pt) : Bool := p.text && decide (1024 < p.s.size)
def longL (l : List Pt) : Bool := l.any longP
theorem packL_append (a b : List Pt) : packL (a ++ b) = packL a ++ packL b := List.flatMap_append
theorem packL_one (p : Pt) : packL [p] = partB p := List.flatMap_singleton ..
theorem longL_append (a b : List Pt) : longL (a ++ b) = (longL a || longL b) := List.any_append

/-- parts that are told so far, and the place -/
abbrev St := List Pt × Nat
def stepN (s : List UInt8) (most : Nat) (st : St) : St × Bool :=
  match ahead (s.drop st.2) with
  | none => (st, false)
  | some (n, k) => if n ≤ most then ((st.1 ++ [⟨false, n, ⟨#[]⟩⟩], st.2 + k), true) else (st, false)
def stepT (s : List UInt8) (st : St) : St × Bool :=
  match ahead (s.drop st.2) with
  | none => (st, false)
  | some (n, k) => if n ≤ 1024 ∧ st.2 + k + n ≤ s.length then ((st.1 ++ [⟨true, 0, strL ((s.drop (st.2 + k)).take n)⟩], st.2 + k + n), true) else (st, false)
def stepTs (s : List UInt8) : Nat → St → St × Bool
  | 0, st => (st, true)
  | j + 1, st => if (stepT s st).2 then stepTs s j (stepT s st).1 else stepT s st
def manyAt (s : List UInt8) (p : Nat) : Nat := match ahead (s.drop p) with | none => 0 | some (n, _) => n
def stepM (s : List UInt8) (st : St) : St × Bool :=
  if (stepN s 32 st).2 then stepTs s (manyAt s st.2) (stepN s 32 st).1 else stepN s 32 st
def stepK (s : List UInt8) (k : UInt8) (st : St) : St × Bool :=
  if k = 110 then stepN s 18446744073709551615 st else if k = 116 then stepT s st else stepM s st
def stepKs (s : List UInt8) : List UInt8 → St → St × Bool
  | [], st => (st, true)
  | k :: ks, st => if (stepK s k st).2 then stepKs s ks (stepK s k st).1 else stepK s k st
def isKind (k : UInt8) : Bool := k == 110 || k == 116 || k == 42
def unpackL (s ks : List UInt8) : List Pt × Nat × Nat :=
  if ks.all isKind then
    (if (stepKs s ks ([], 0)).2 then (if (stepKs s ks ([], 0)).1.2 < s.length then ([], (stepKs s ks ([], 0)).1.2, 4) else ((stepKs s ks ([], 0)).1.1, 0, 0))
     else ([], (stepKs s ks ([], 0)).1.2, 4))
  else ([], 0, 1)

/-- the parts so far are those that the bytes up to the place tell -/
structure Told (s : List UInt8) (st : St) : Prop where
  le : st.2 ≤ s.length
  pack : packL st.1 = s.take st.2
  long : longL st.1 = false
  num : ∀ p ∈ st.1, p.n < 18446744073709551616
theorem Told.nil (s : List UInt8) : Told s ([], 0) := ⟨by simp, by simp [packL], rfl, by simp⟩
theorem take_more (s : List UInt8) (p k : Nat) : s.take p ++ (s.drop p).take k = s.take (p + k) := (List.take_add ..).symm
end Go.Proofs.Ytmdakbbbpcldkaa