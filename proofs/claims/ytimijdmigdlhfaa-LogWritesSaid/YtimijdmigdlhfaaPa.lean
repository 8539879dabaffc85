/- Records as bytes, in plain mathematics: a number's bytes, what stands at a place, and that what is packed is unpacked as it was. -/
import Derived.Test.YtimijdmigdlhfaaKa
namespace Go.Proofs.Ytimijdmigdlhfaa
set_option maxRecDepth 100000
theorem revRec {α : Type} {M : List α → Prop} (h0 : M []) (h1 : ∀ l a, M l → M (l ++ [a])) (l : List α) : M l := by
  have h : ∀ r : List α, M r.reverse := fun r => by
    induction r with
    | nil => exact h0
    | cons a r ih => rw [List.reverse_cons]; exact h1 _ _ ih
  have := h l.reverse
  rwa [List.reverse_reverse] at this
/-- a number's bytes without those that are 0 ahead, the highest first -/
def digL (n : Nat) : List UInt8 := if _h : n = 0 then [] else digL (n / 256) ++ [UInt8.ofNat (n % 256)]
termination_by n
decreasing_by omega
def valL (l : List UInt8) : Nat := l.foldl (fun a d => 256 * a + d.toNat) 0
def numB (n : Nat) : List UInt8 := UInt8.ofNat (digL n).length :: digL n

theorem digL_zero : digL 0 = [] := by rw [digL]; simp
theorem digL_pos (n : Nat) (h : n ≠ 0) : digL n = digL (n / 256) ++ [UInt8.ofNat (n % 256)] := by
  rw [digL, dif_neg h]
theorem valL_nil : valL [] = 0 := rfl
theorem valL_snoc (l : List UInt8) (d : UInt8) : valL (l ++ [d]) = 256 * valL l + d.toNat := by
  unfold valL; rw [List.foldl_append]; rfl
theorem ofNat_mod (n : Nat) : (UInt8.ofNat (n % 256)).toNat = n % 256 := by
  rw [UInt8.toNat_ofNat']; omega
theorem valL_digL (n : Nat) : valL (digL n) = n := by
  induction n using Nat.strongRecOn with
  | _ n ih =>
    by_cases h : n = 0
    · subst h; rw [digL_zero]; rfl
    · rw [digL_pos n h, valL_snoc, ih (n / 256) (by omega), ofNat_mod]; omega
theorem digL_len_le (k n : Nat) (h : n < 256 ^ k) : (digL n).length ≤ k := by
  induction k generalizing n with
  | zero => have : n = 0 := by simpa using h
            subst this; rw [digL_zero]; simp
  | succ k ih =>
    by_cases h0 : n = 0
    · subst h0; rw [digL_zero]; simp
    · rw [digL_pos n h0, List.length_append]
      have := ih (n / 256) (by rw [Nat.pow_succ] at h; omega)
      simp; omega
theorem valL_lt (l : List UInt8) : valL l < 256 ^ l.length := by
  induction l using revRec with
  | h0 => simp [valL]
  | h1 l d ih =>
    rw [valL_snoc, List.length_append, List.length_singleton, Nat.pow_succ]
    have := d.toNat_lt
    omega
theorem digL_lt (n : Nat) : n < 256 ^ (digL n).length := by
  have := valL_lt (digL n); rwa [valL_digL] at this
theorem digL_len_iff (n k : Nat) : (digL n).length ≤ k ↔ n < 256 ^ k :=
  ⟨fun h => Nat.lt_of_lt_of_le (digL_lt n) (Nat.pow_le_pow_right (by omega) h), digL_len_le k n⟩
theorem digL_head (n : Nat) : (digL n).head? ≠ some 0 := by
  induction n using Nat.strongRecOn with
  | _ n ih =>
    by_cases h : n = 0
    · subst h; rw [digL_zero]; simp
    · rw [digL_pos n h]
      by_cases h2 : n / 256 = 0
      · rw [h2, digL_zero]
        intro e
        simp at e
        have := ofNat_mod n
        rw [e] at this
        have h3 : (0 : UInt8).toNat = 0 := rfl
        omega
      · have := ih (n / 256) (by omega)
        rw [digL_pos _ h2] at this ⊢
        simpa [List.head?_append] using this
/-- bytes with no 0 ahead are those of their value -/
theorem digL_valL (l : List UInt8) (h : l.head? ≠ some 0) : digL (valL l) = l := by
  induction l using revRec with
  | h0 => rw [valL_nil, digL_zero]
  | h1 l d ih =>
    have hd := d.toNat_lt
    have e1 : UInt8.ofNat (valL (l ++ [d]) % 256) = d := by
      rw [valL_snoc]
      apply UInt8.toNat_inj.1
      rw [ofNat_mod]; omega
    have e2 : valL (l ++ [d]) / 256 = valL l := by rw [valL_snoc]; omega
    by_cases h0 : l = []
    · subst h0
      have hne : d ≠ 0 := by intro e; subst e; simp at h
      have hne2 : d.toNat ≠ 0 := fun e => hne (UInt8.toNat_inj.1 e)
      rw [digL_pos _ (by rw [valL_snoc]; omega), e1, e2, valL_nil, digL_zero]
    · have hh : l.head? ≠ some 0 := by
        rcases l with _ | ⟨a, t⟩
        · exact absurd rfl h0
        · simpa using h
      have il := ih hh
      have hv : valL l ≠ 0 := by
        intro e; rw [e, digL_zero] at il; exact h0 il.symm
      rw [digL_pos _ (by rw [valL_snoc]; omega), e1, e2, il]
/-- with a 0 ahead a value has fewer bytes -/
theorem digL_short (l : List UInt8) (h : l.head? = some 0) : (digL (valL l)).length < l.length := by
  rcases l with _ | ⟨a, t⟩
  · simp at h
  · have ha : a = 0 := by simpa using h
    subst ha
    have e : valL (0 :: t) = valL t := rfl
    rw [e]
    have := digL_len_le t.length (valL t) (valL_lt t)
    simp; omega
theorem pow256_8 : (256 : Nat) ^ 8 = 18446744073709551616 := by decide
theorem digL_len8 (n : Nat) (h : n < 18446744073709551616) : (digL n).length ≤ 8 := digL_len_le 8 n (by rw [pow256_8]; exact h)
/-- how many bytes a number has, told by how many bits -/
theorem digL_len_bits (n L : Nat) (h1 : n < 2 ^ L) (h2 : L = 0 ∨ 2 ^ (L - 1) ≤ n) : (digL n).length = (L + 7) / 8 := by
  have hp : ∀ k, (256 : Nat) ^ k = 2 ^ (8 * k) := fun k => by rw [show (256 : Nat) = 2 ^ 8 from rfl, ← Nat.pow_mul]
  apply Nat.le_antisymm
  · apply digL_len_le
    rw [hp]
    exact Nat.lt_of_lt_of_le h1 (Nat.pow_le_pow_right (by omega) (by omega))
  · rcases h2 with h2 | h2
    · subst h2; simp
    · by_cases hL : L = 0
      · subst hL; simp
      · rcases Nat.lt_or_ge (digL n).length ((L + 7) / 8) with hlt | hge
        · exfalso
          have := digL_lt n
          rw [hp] at this
          have h3 : 2 ^ (8 * (digL n).length) ≤ 2 ^ (L - 1) := Nat.pow_le_pow_right (by omega) (by omega)
          omega
        · exact hge
/-- a number's byte at a place -/
theorem digL_get (n i : Nat) (h : i < (digL n).length) : (digL n).getD i 0 = UInt8.ofNat (n / 256 ^ ((digL n).length - 1 - i) % 256) := by
  induction n using Nat.strongRecOn generalizing i with
  | _ n ih =>
    by_cases h0 : n = 0
    · subst h0; rw [digL_zero] at h; simp at h
    · have e := digL_pos n h0
      have el : (digL n).length = (digL (n / 256)).length + 1 := by rw [e]; simp
      rw [el] at h ⊢
      rw [e]
      by_cases hi : i < (digL (n / 256)).length
      · rw [show (digL (n / 256) ++ [UInt8.ofNat (n % 256)]).getD i 0 = (digL (n / 256)).getD i 0 by simp [List.getD, List.getElem?_append_left hi], ih (n / 256) (by omega) i hi, Nat.div_div_eq_div_mul, ← Nat.pow_succ']
        rw [show (digL (n / 256)).length + 1 - 1 - i = ((digL (n / 256)).length - 1 - i).succ by omega]
      · obtain rfl : i = (digL (n / 256)).length := by omega
        rw [show (digL (n / 256)).length + 1 - 1 - (digL (n / 256)).length = 0 by omega]
        simp

/-- what number stands at the beginning of bytes, and how many bytes it has -/
def ahead (r : List UInt8) : Option (Nat × Nat) :=
  match r with
  | [] => none
  | m :: t => if m.toNat ≤ 8 ∧ m.toNat ≤ t.length ∧ (t.take m.toNat).head? ≠ some 0 then some (valL (t.take m.toNat), 1 + m.toNat) else none
theorem numB_length (n : Nat) : (numB n).length = 1 + (digL n).length := by unfold numB; simp; omega
theorem ahead_numB (n : Nat) (t : List UInt8) (h : n < 18446744073709551616) : ahead (numB n ++ t) = some (n, (numB n).length) := by
  have hl := digL_len8 n h
  have e : (UInt8.ofNat (digL n).length).toNat = (digL n).length := by rw [UInt8.toNat_ofNat']; omega
  unfold numB ahead
  simp only [List.cons_append, e]
  have e2 : (digL n ++ t).take (digL n).length = digL n := List.take_left
  rw [e2, if_pos ⟨hl, by simp, digL_head n⟩, valL_digL, List.length_cons, Nat.add_comm]
theorem ahead_some (r : List UInt8) (n k : Nat) (h : ahead r = some (n, k)) : r.take k = numB n ∧ k = (numB n).length ∧ k ≤ r.length ∧ n < 18446744073709551616 ∧ k ≤ 9 ∧ 1 ≤ k := by
  rcases r with _ | ⟨m, t⟩
  · simp [ahead] at h
  · rw [show ahead (m :: t) = if m.toNat ≤ 8 ∧ m.toNat ≤ t.length ∧ (t.take m.toNat).head? ≠ some 0 then some (valL (t.take m.toNat), 1 + m.toNat) else none from rfl] at h
    split at h
    · rename_i hc
      obtain ⟨h1, h2, h3⟩ := hc
      simp only [Option.some.injEq, Prod.mk.injEq] at h
      obtain ⟨rfl, rfl⟩ := h
      have hd := digL_valL _ h3
      have hlen : (t.take m.toNat).length = m.toNat := by rw [List.length_take]; omega
      have hm : UInt8.ofNat m.toNat = m := by simp
      have hN : numB (valL (t.take m.toNat)) = m :: t.take m.toNat := by
        unfold numB; rw [hd, hlen, hm]
      refine ⟨by rw [hN, Nat.add_comm, List.take_succ_cons], by rw [hN, List.length_cons, hlen]; omega, by simp; omega, ?_, by omega, by omega⟩
      have := valL_lt (t.take m.toNat)
      rw [hlen] at this
      have h8 : (256 : Nat) ^ m.toNat ≤ 256 ^ 8 := Nat.pow_le_pow_right (by omega) h1
      rw [pow256_8] at h8
      omega
    · simp at h
theorem numB_inj (a b : Nat) (h : numB a = numB b) : a = b := by
  unfold numB at h
  have := (List.cons.inj h).2
  rw [← valL_digL a, this, valL_digL]

/-- a part -/
structure Pt where
  text : Bool
  n : Nat
  s : ByteArray
def partB (p : Pt) : List UInt8 := if p.text then numB p.s.size ++ bl p.s else numB p.n
def packL (l : List Pt) : List UInt8 := l.flatMap partB
def longP (p : Pt) : Bool := p.text && decide (1024 < p.s.size)
def longL (l : List Pt) : Bool := l.any longP
def sameP (p q : Pt) : Bool := p.text == q.text && (if p.text then decide (p.s = q.s) else decide (p.n = q.n))
def sameL : List Pt → List Pt → Bool
  | [], [] => true
  | p :: l, q :: m => sameP p q && sameL l m
  | _, _ => false
def kindP (p : Pt) : UInt8 := if p.text then 116 else 110
def kindsL (l : List Pt) : List UInt8 := l.map kindP
def normP (p : Pt) : Pt := if p.text then ⟨true, 0, p.s⟩ else ⟨false, p.n, ⟨#[]⟩⟩
theorem sameP_norm (p : Pt) : sameP (normP p) p = true := by
  unfold sameP normP
  cases h : p.text <;> simp
theorem sameL_norm (l : List Pt) : sameL (l.map normP) l = true := by
  induction l with
  | nil => rfl
  | cons p l ih => simp [sameL, sameP_norm, ih]
theorem sameP_refl (p : Pt) : sameP p p = true := by
  unfold sameP
  cases h : p.text <;> simp
theorem sameL_refl (l : List Pt) : sameL l l = true := by
  induction l with
  | nil => rfl
  | cons p l ih => simp [sameL, sameP_refl, ih]
theorem packL_append (a b : List Pt) : packL (a ++ b) = packL a ++ packL b := List.flatMap_append
theorem packL_one (p : Pt) : packL [p] = partB p := List.flatMap_singleton ..
theorem longL_append (a b : List Pt) : longL (a ++ b) = (longL a || longL b) := List.any_append

/-- parts that are told so far, and the place -/
abbrev St := List Pt × Nat
def stepN (s : List UInt8) (most : Nat) (st : St) : St × Bool :=
  match ahead (s.drop st.2) with
  | none => (st, false)
  | some (n, k) => if n ≤ most then ((st.1 ++ [⟨false, n, ⟨#[]⟩⟩], st.2 + k), true) else (st, false)
def stepT (s : List UInt8) (st : St) : St × Bool :=
  match ahead (s.drop st.2) with
  | none => (st, false)
  | some (n, k) => if n ≤ 1024 ∧ st.2 + k + n ≤ s.length then ((st.1 ++ [⟨true, 0, strL ((s.drop (st.2 + k)).take n)⟩], st.2 + k + n), true) else (st, false)
def stepTs (s : List UInt8) : Nat → St → St × Bool
  | 0, st => (st, true)
  | j + 1, st => if (stepT s st).2 then stepTs s j (stepT s st).1 else stepT s st
def manyAt (s : List UInt8) (p : Nat) : Nat := match ahead (s.drop p) with | none => 0 | some (n, _) => n
def stepM (s : List UInt8) (st : St) : St × Bool :=
  if (stepN s 32 st).2 then stepTs s (manyAt s st.2) (stepN s 32 st).1 else stepN s 32 st
def stepK (s : List UInt8) (k : UInt8) (st : St) : St × Bool :=
  if k = 110 then stepN s 18446744073709551615 st else if k = 116 then stepT s st else stepM s st
def stepKs (s : List UInt8) : List UInt8 → St → St × Bool
  | [], st => (st, true)
  | k :: ks, st => if (stepK s k st).2 then stepKs s ks (stepK s k st).1 else stepK s k st
def isKind (k : UInt8) : Bool := k == 110 || k == 116 || k == 42
def unpackL (s ks : List UInt8) : List Pt × Nat × Nat :=
  if ks.all isKind then
    (if (stepKs s ks ([], 0)).2 then (if (stepKs s ks ([], 0)).1.2 < s.length then ([], (stepKs s ks ([], 0)).1.2, 4) else ((stepKs s ks ([], 0)).1.1, 0, 0))
     else ([], (stepKs s ks ([], 0)).1.2, 4))
  else ([], 0, 1)

/-- the parts so far are those that the bytes up to the place tell -/
structure Told (s : List UInt8) (st : St) : Prop where
  le : st.2 ≤ s.length
  pack : packL st.1 = s.take st.2
  long : longL st.1 = false
  num : ∀ p ∈ st.1, p.n < 18446744073709551616
theorem Told.nil (s : List UInt8) : Told s ([], 0) := ⟨by simp, by simp [packL], rfl, by simp⟩
theorem take_more (s : List UInt8) (p k : Nat) : s.take p ++ (s.drop p).take k = s.take (p + k) := (List.take_add ..).symm
theorem Told.stepN {s : List UInt8} {st : St} (h : Told s st) (most : Nat) : Told s (stepN s most st).1 := by
  unfold Go.Proofs.Ytimijdmigdlhfaa.stepN
  split
  · exact h
  · rename_i n k he
    obtain ⟨h1, h2, h3, h4, h5⟩ := ahead_some _ _ _ he
    split
    · have hle := h.le
      rw [List.length_drop] at h3
      refine ⟨by show st.2 + k ≤ s.length; omega, ?_, ?_, ?_⟩
      · show packL (st.1 ++ [_]) = s.take (st.2 + k)
        rw [packL_append, packL_one, h.pack, ← take_more, h1]
        rfl
      · show longL (st.1 ++ [_]) = false
        rw [longL_append, h.long]; rfl
      · intro p hp
        rcases List.mem_append.1 hp with hp | hp
        · exact h.num p hp
        · obtain rfl := List.mem_singleton.1 hp
          exact h4
    · exact h
theorem Told.stepT {s : List UInt8} {st : St} (h : Told s st) : Told s (stepT s st).1 := by
  unfold Go.Proofs.Ytimijdmigdlhfaa.stepT
  split
  · exact h
  · rename_i n k he
    obtain ⟨h1, h2, h3, h4, h5⟩ := ahead_some _ _ _ he
    split
    · rename_i hc
      obtain ⟨hc1, hc2⟩ := hc
      have hsz : ((s.drop (st.2 + k)).take n).length = n := by rw [List.length_take, List.length_drop]; omega
      refine ⟨hc2, ?_, ?_, ?_⟩
      · show packL (st.1 ++ [_]) = s.take (st.2 + k + n)
        rw [packL_append, packL_one, h.pack, ← take_more, ← take_more, h1, List.append_assoc]
        unfold partB
        simp only [if_true]
        rw [strL_size, hsz, bl_strL]
      · show longL (st.1 ++ [_]) = false
        rw [longL_append, h.long]
        simp only [longL, List.any_cons, List.any_nil, longP, strL_size, hsz]
        simp; omega
      · intro p hp
        rcases List.mem_append.1 hp with hp | hp
        · exact h.num p hp
        · obtain rfl := List.mem_singleton.1 hp
          show 0 < _
          omega
    · exact h
theorem Told.stepTs {s : List UInt8} (j : Nat) {st : St} (h : Told s st) : Told s (stepTs s j st).1 := by
  induction j generalizing st with
  | zero => exact h
  | succ j ih =>
    unfold Go.Proofs.Ytimijdmigdlhfaa.stepTs
    split
    · exact ih h.stepT
    · exact h.stepT
theorem Told.stepM {s : List UInt8} {st : St} (h : Told s st) : Told s (stepM s st).1 := by
  unfold Go.Proofs.Ytimijdmigdlhfaa.stepM
  split
  · exact (h.stepN 32).stepTs _
  · exact h.stepN 32
theorem Told.stepK {s : List UInt8} {st : St} (h : Told s st) (k : UInt8) : Told s (stepK s k st).1 := by
  unfold Go.Proofs.Ytimijdmigdlhfaa.stepK
  split
  · exact h.stepN _
  · split
    · exact h.stepT
    · exact h.stepM
theorem Told.stepKs {s : List UInt8} (ks : List UInt8) {st : St} (h : Told s st) : Told s (stepKs s ks st).1 := by
  induction ks generalizing st with
  | nil => exact h
  | cons k ks ih =>
    unfold Go.Proofs.Ytimijdmigdlhfaa.stepKs
    split
    · exact ih (h.stepK k)
    · exact h.stepK k
/-- what is unpacked, packed, is those bytes -/
theorem unpackL_packs (s ks : List UInt8) (h : (unpackL s ks).2.2 = 0) : packL (unpackL s ks).1 = s ∧ longL (unpackL s ks).1 = false ∧ (unpackL s ks).2.1 = 0 ∧ ∀ p ∈ (unpackL s ks).1, p.n < 18446744073709551616 := by
  have ht := (Told.nil s).stepKs ks
  unfold unpackL at h ⊢
  split at h
  · rename_i h1
    split at h
    · rename_i h2
      split at h
      · simp at h
      · rename_i h3
        rw [if_pos h1, if_pos h2, if_neg h3]
        refine ⟨?_, ht.long, rfl, ht.num⟩
        show packL _ = s
        rw [ht.pack, List.take_of_length_le (by omega)]
    · simp at h
  · simp at h
theorem unpackL_place (s ks : List UInt8) : (unpackL s ks).2.1 ≤ s.length := by
  have ht := (Told.nil s).stepKs ks
  unfold unpackL
  split
  · split
    · split
      · exact ht.le
      · exact Nat.zero_le _
    · exact ht.le
  · exact Nat.zero_le _
theorem unpackL_none (s ks : List UInt8) (h : (unpackL s ks).2.2 ≠ 0) : (unpackL s ks).1 = [] := by
  unfold unpackL at h ⊢
  split
  · rename_i h1
    rw [if_pos h1] at h
    split
    · rename_i h2
      rw [if_pos h2] at h
      split
      · rfl
      · rename_i h3
        rw [if_neg h3] at h
        simp at h
    · rfl
  · rfl
/-- a part that is packed is unpacked, whatever stands ahead of it and behind it -/
theorem stepK_part (p : Pt) (a b : List UInt8) (l : List Pt) (hn : p.n < 18446744073709551616) (hl : longP p = false) : stepK (a ++ partB p ++ b) (kindP p) (l, a.length) = ((l ++ [normP p], a.length + (partB p).length), true) := by
  have hd : (a ++ partB p ++ b).drop a.length = partB p ++ b := by rw [List.append_assoc, List.drop_left]
  unfold stepK
  cases ht : p.text
  · have hP : partB p = numB p.n := by unfold partB; rw [ht]; rfl
    have hK : kindP p = 110 := by unfold kindP; rw [ht]; rfl
    rw [if_pos hK]
    unfold stepN
    show (match ahead (List.drop a.length _) with | none => _ | some (n, k) => _) = _
    rw [hd, hP, ahead_numB _ _ hn]
    simp only
    rw [if_pos (by omega)]
    unfold normP
    rw [ht]
    rfl
  · have hsz : p.s.size ≤ 1024 := by unfold longP at hl; rw [ht] at hl; simpa using hl
    have hP : partB p = numB p.s.size ++ bl p.s := by unfold partB; rw [ht]; rfl
    have hK : kindP p = 116 := by unfold kindP; rw [ht]; rfl
    rw [hK, if_neg (by decide), if_pos rfl]
    unfold stepT
    show (match ahead (List.drop a.length _) with | none => _ | some (n, k) => _) = _
    rw [hd, hP, List.append_assoc, ahead_numB _ _ (by omega)]
    simp only
    have hb : (bl p.s).length = p.s.size := rfl
    rw [if_pos ⟨hsz, by simp only [List.length_append, hb]; omega⟩]
    have e : (List.drop (a.length + (numB p.s.size).length) (a ++ (numB p.s.size ++ bl p.s) ++ b)).take p.s.size = bl p.s := by
      rw [show a ++ (numB p.s.size ++ bl p.s) ++ b = (a ++ numB p.s.size) ++ (bl p.s ++ b) by simp only [List.append_assoc], ← List.length_append, List.drop_left, ← hb, List.take_left]
    rw [e, strL_bl]
    unfold normP
    rw [ht]
    simp only [if_true, List.length_append, hb, Nat.add_assoc]
theorem isKind_kindP (p : Pt) : isKind (kindP p) = true := by unfold kindP; cases p.text <;> rfl
theorem stepKs_parts (m : List Pt) (a b : List UInt8) (l : List Pt) (hn : ∀ p ∈ m, p.n < 18446744073709551616) (hl : longL m = false) :
    stepKs (a ++ packL m ++ b) (kindsL m) (l, a.length) = ((l ++ m.map normP, a.length + (packL m).length), true) := by
  induction m generalizing a l with
  | nil => simp [packL, kindsL, stepKs]
  | cons p m ih =>
    have hc : packL (p :: m) = partB p ++ packL m := by unfold packL; rw [List.flatMap_cons]
    have hl1 : longP p = false ∧ longL m = false := by
      unfold longL at hl; rw [List.any_cons, Bool.or_eq_false_iff] at hl; exact hl
    have h1 := stepK_part p a (packL m ++ b) l (hn p (by simp)) hl1.1
    have e : a ++ packL (p :: m) ++ b = a ++ partB p ++ (packL m ++ b) := by rw [hc]; simp only [List.append_assoc]
    show stepKs _ (kindP p :: kindsL m) _ = _
    rw [e, stepKs, h1, if_pos rfl]
    have h2 := ih (a ++ partB p) (l ++ [normP p]) (fun q hq => hn q (by simp [hq])) hl1.2
    rw [List.length_append] at h2
    rw [show a ++ partB p ++ (packL m ++ b) = a ++ partB p ++ packL m ++ b by simp only [List.append_assoc]]
    show stepKs _ _ (l ++ [normP p], a.length + (partB p).length) = _
    rw [h2, hc]
    simp [Nat.add_assoc]
/-- what is packed is unpacked as it was -/
theorem unpackL_packed (m : List Pt) (hn : ∀ p ∈ m, p.n < 18446744073709551616) (hl : longL m = false) : unpackL (packL m) (kindsL m) = (m.map normP, 0, 0) := by
  have h := stepKs_parts m [] [] [] hn hl
  simp only [List.nil_append, List.append_nil, List.length_nil, Nat.zero_add] at h
  unfold unpackL
  have hk : (kindsL m).all isKind = true := by
    unfold kindsL; rw [List.all_map]; exact List.all_eq_true.2 fun p _ => isKind_kindP p
  rw [if_pos hk, h, if_pos rfl, if_neg (Nat.lt_irrefl _)]

/-- bytes of one length are in order as their values are -/
def lexB : List UInt8 → List UInt8 → Bool
  | [], [] => false
  | [], _ :: _ => true
  | _ :: _, [] => false
  | a :: s, b :: t => decide (a < b) || (a == b && lexB s t)
theorem valL_cons (a : UInt8) (t : List UInt8) : valL (a :: t) = a.toNat * 256 ^ t.length + valL t := by
  induction t using revRec generalizing a with
  | h0 => simp [valL]
  | h1 t d ih =>
    rw [← List.cons_append, valL_snoc, ih, valL_snoc, List.length_append, List.length_singleton, Nat.pow_succ]
    rw [Nat.mul_add, ← Nat.mul_assoc (a.toNat), Nat.mul_comm 256 (a.toNat * _)]
    omega
theorem lexB_val (s t : List UInt8) (h : s.length = t.length) : lexB s t = decide (valL s < valL t) := by
  induction s generalizing t with
  | nil => rcases t with _ | ⟨b, t⟩
           · simp [lexB, valL]
           · simp at h
  | cons a s ih =>
    rcases t with _ | ⟨b, t⟩
    · simp at h
    · have hl : s.length = t.length := by simpa using h
      unfold lexB
      rw [ih t hl, valL_cons, valL_cons, hl]
      have h1 := valL_lt s
      have h2 := valL_lt t
      rw [hl] at h1
      obtain ⟨E, hE⟩ : ∃ E, 256 ^ t.length = E := ⟨_, rfl⟩
      rw [hE] at h1 h2 ⊢
      have hab : a < b ↔ a.toNat < b.toNat := UInt8.lt_iff_toNat_lt
      rcases Nat.lt_trichotomy a.toNat b.toNat with h3 | h3 | h3
      · have h4 : (a.toNat + 1) * E ≤ b.toNat * E := Nat.mul_le_mul_right _ h3
        rw [Nat.add_mul] at h4
        simp only [hab.2 h3, decide_true, Bool.true_or]
        symm; rw [decide_eq_true_eq]; omega
      · have hE2 : a = b := UInt8.toNat_inj.1 h3
        subst hE2
        have h5 : ¬ a < a := fun h => by have := UInt8.lt_iff_toNat_lt.1 h; omega
        simp [h5]
      · have h4 : (b.toNat + 1) * E ≤ a.toNat * E := Nat.mul_le_mul_right _ h3
        rw [Nat.add_mul] at h4
        have h5 : ¬ a < b := fun h => by have := hab.1 h; omega
        have h6 : ¬ a = b := fun h => by subst h; omega
        have h7 : (a == b) = false := beq_eq_false_iff_ne.2 h6
        rw [h7]
        simp only [h5, decide_false, Bool.false_or, Bool.false_and]
        symm; rw [decide_eq_false_iff_not]; omega
/-- numbers' bytes are in order as the numbers are -/
theorem numB_lex (n m : Nat) (hn : n < 18446744073709551616) (hm : m < 18446744073709551616) : lexB (numB n) (numB m) = decide (n < m) := by
  have ln := digL_len8 n hn
  have lm := digL_len8 m hm
  have en : (UInt8.ofNat (digL n).length).toNat = (digL n).length := by rw [UInt8.toNat_ofNat']; omega
  have em : (UInt8.ofNat (digL m).length).toNat = (digL m).length := by rw [UInt8.toNat_ofNat']; omega
  unfold numB
  rw [lexB]
  have hab : UInt8.ofNat (digL n).length < UInt8.ofNat (digL m).length ↔ (digL n).length < (digL m).length := by rw [UInt8.lt_iff_toNat_lt, en, em]
  rcases Nat.lt_trichotomy (digL n).length (digL m).length with h3 | h3 | h3
  · simp only [hab.2 h3, decide_true, Bool.true_or]
    symm; rw [decide_eq_true_eq]
    have h4 := digL_lt n
    rcases Nat.lt_or_ge n m with h | h
    · exact h
    · exfalso
      have := (digL_len_iff m _).2 (Nat.lt_of_le_of_lt h h4)
      omega
  · have h5 : ¬ UInt8.ofNat (digL n).length < UInt8.ofNat (digL m).length := fun h => by have := hab.1 h; omega
    rw [decide_eq_false h5, Bool.false_or, h3, beq_self_eq_true, Bool.true_and]
    rw [lexB_val _ _ h3, valL_digL, valL_digL]
  · have h5 : ¬ UInt8.ofNat (digL n).length < UInt8.ofNat (digL m).length := fun h => by have := hab.1 h; omega
    have h6 : (UInt8.ofNat (digL n).length == UInt8.ofNat (digL m).length) = false := by
      rw [beq_eq_false_iff_ne]; intro e
      have := congrArg UInt8.toNat e
      rw [en, em] at this; omega
    simp only [h5, decide_false, Bool.false_or, h6, Bool.false_and]
    symm; rw [decide_eq_false_iff_not]
    intro hlt
    have h4 := digL_lt m
    have := (digL_len_iff n _).2 (Nat.lt_trans hlt h4)
    omega
end Go.Proofs.Ytimijdmigdlhfaa