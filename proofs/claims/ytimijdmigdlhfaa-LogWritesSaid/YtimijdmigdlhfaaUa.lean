/- Logs in plain mathematics: the crc, a record with whatever four bytes behind it, what is scanned, torn, recovered. -/
import Derived.Test.YtimijdmigdlhfaaPa
import Derived.Test.YtimijdmigdlhfaaBv
namespace Go.Proofs.Ytimijdmigdlhfaa
set_option maxRecDepth 100000
def crcPoly : BitVec 32 := 3988292384#32
/-- one of eight steps -/
def crc1 (c : BitVec 32) : BitVec 32 := if c.toNat % 2 = 1 then (c >>> 1) ^^^ crcPoly else c >>> 1
def crcN : Nat → BitVec 32 → BitVec 32
  | 0, c => c
  | n + 1, c => crc1 (crcN n c)
def byte32 (b : UInt8) : BitVec 32 := BitVec.ofNat 32 b.toNat
def crcB (c : BitVec 32) (b : UInt8) : BitVec 32 := crcN 8 (c ^^^ byte32 b)
def crcL (l : List UInt8) : BitVec 32 := l.foldl crcB 4294967295#32
/-- a text's crc -/
def crc (l : List UInt8) : BitVec 32 := ~~~ (crcL l)
theorem crcL_snoc (l : List UInt8) (b : UInt8) : crcL (l ++ [b]) = crcB (crcL l) b := by unfold crcL; rw [List.foldl_append]; rfl
/-- four bytes, the highest first -/
def be4 (c : BitVec 32) : List UInt8 := [UInt8.ofNat (c.toNat / 16777216), UInt8.ofNat (c.toNat / 65536 % 256), UInt8.ofNat (c.toNat / 256 % 256), UInt8.ofNat (c.toNat % 256)]
theorem crc_alive : crc [49, 50, 51, 52, 53, 54, 55, 56, 57] = 3421780262#32 := by decide +kernel

/-- a text's bytes -/
def txB (s : ByteArray) : List UInt8 := numB s.size ++ bl s
/-- a crc of a text, whatever it is made of -/
structure Ck where
  f : ByteArray → List UInt8
  four : ∀ s, (f s).length = 4
def recL (C : Ck) (s : ByteArray) : List UInt8 := txB s ++ C.f s
def logL (C : Ck) (l : List ByteArray) : List UInt8 := l.flatMap (recL C)
def longS (most : Nat) (l : List ByteArray) : Bool := l.any fun s => decide (most < s.size)
theorem logL_nil (C : Ck) : logL C [] = [] := rfl
theorem logL_cons (C : Ck) (s : ByteArray) (l : List ByteArray) : logL C (s :: l) = recL C s ++ logL C l := by unfold logL; rw [List.flatMap_cons]
theorem logL_append (C : Ck) (a b : List ByteArray) : logL C (a ++ b) = logL C a ++ logL C b := List.flatMap_append
theorem logL_one (C : Ck) (s : ByteArray) : logL C [s] = recL C s := by rw [logL_cons, logL_nil, List.append_nil]
theorem recL_length (C : Ck) (s : ByteArray) : (recL C s).length = (numB s.size).length + s.size + 4 := by
  unfold recL txB; rw [List.length_append, List.length_append, C.four, bl_length]
theorem longS_append (m : Nat) (a b : List ByteArray) : longS m (a ++ b) = (longS m a || longS m b) := List.any_append
theorem longS_cons (m : Nat) (s : ByteArray) (l : List ByteArray) : longS m (s :: l) = (decide (m < s.size) || longS m l) := List.any_cons
theorem longS_take {m : Nat} {l : List ByteArray} (h : longS m l = false) (k : Nat) : longS m (l.take k) = false := by
  rw [← List.take_append_drop k l, longS_append, Bool.or_eq_false_iff] at h
  exact h.1
/-- the text whose record stands at the beginning of bytes, and how many bytes the record has -/
def aheadR (C : Ck) (r : List UInt8) : Option (ByteArray × Nat) :=
  match ahead r with
  | none => none
  | some (n, k) => if n ≤ 1024 ∧ k + n + 4 ≤ r.length ∧ (r.drop (k + n)).take 4 = C.f (strL ((r.drop k).take n)) then some (strL ((r.drop k).take n), k + n + 4) else none
theorem aheadR_some (C : Ck) (r : List UInt8) (t : ByteArray) (k : Nat) (h : aheadR C r = some (t, k)) : r.take k = recL C t ∧ k = (recL C t).length ∧ k ≤ r.length ∧ 5 ≤ k ∧ t.size ≤ 1024 := by
  unfold aheadR at h
  split at h
  · simp at h
  · rename_i n j he
    obtain ⟨h1, h2, h3, h4, h5, h6⟩ := ahead_some _ _ _ he
    split at h
    · rename_i hc
      obtain ⟨c1, c2, c3⟩ := hc
      simp only [Option.some.injEq, Prod.mk.injEq] at h
      obtain ⟨rfl, rfl⟩ := h
      have hsz : ((r.drop j).take n).length = n := by rw [List.length_take, List.length_drop]; omega
      have hs : (strL ((r.drop j).take n)).size = n := by rw [strL_size, hsz]
      have hr : recL C (strL ((r.drop j).take n)) = r.take (j + n + 4) := by
        unfold recL txB
        rw [hs, bl_strL, ← h1, ← c3, take_more, take_more]
      refine ⟨hr.symm, by rw [hr, List.length_take]; omega, c2, by omega, by omega⟩
    · simp at h
theorem aheadR_rec (C : Ck) (s : ByteArray) (t : List UInt8) (h : s.size ≤ 1024) : aheadR C (recL C s ++ t) = some (s, (recL C s).length) := by
  have e1 : recL C s ++ t = numB s.size ++ (bl s ++ (C.f s ++ t)) := by unfold recL txB; simp only [List.append_assoc]
  have hl := recL_length C s
  unfold aheadR
  rw [e1, ahead_numB _ _ (by omega)]
  simp only
  have d1 : (numB s.size ++ (bl s ++ (C.f s ++ t))).drop (numB s.size).length = bl s ++ (C.f s ++ t) := List.drop_left
  have hb : (bl s).length = s.size := bl_length s
  have d2 : (bl s ++ (C.f s ++ t)).take s.size = bl s := by rw [← hb, List.take_left]
  have d3 : (numB s.size ++ (bl s ++ (C.f s ++ t))).drop ((numB s.size).length + s.size) = C.f s ++ t := by
    rw [← List.drop_drop, d1, ← hb, List.drop_left]
  have d4 : (C.f s ++ t).take 4 = C.f s := by
    have := C.four s
    rw [← this, List.take_left]
  rw [d1, d2, d3, d4, strL_bl, if_pos ⟨h, by simp only [List.length_append, hb, C.four]; omega, rfl⟩, hl]
theorem ahead_take (r : List UInt8) (k : Nat) (p : Nat × Nat) (h : ahead (r.take k) = some p) : ahead r = some p := by
  obtain ⟨n, j⟩ := p
  obtain ⟨h1, h2, h3, h4, -, -⟩ := ahead_some _ _ _ h
  have hj : j ≤ k := by rw [List.length_take] at h3; omega
  rw [List.take_take, Nat.min_eq_left hj] at h1
  have e : r = numB n ++ r.drop j := by rw [← h1, List.take_append_drop]
  rw [e, ahead_numB _ _ h4, ← h2]
/-- a record that is cut is none -/
theorem aheadR_cut (C : Ck) (s : ByteArray) (h : s.size ≤ 1024) (k : Nat) (hk : k < (recL C s).length) : aheadR C ((recL C s).take k) = none := by
  have hl := recL_length C s
  have e1 : recL C s = numB s.size ++ (bl s ++ C.f s) := by unfold recL txB; simp only [List.append_assoc]
  have ha : ahead (recL C s) = some (s.size, (numB s.size).length) := by rw [e1, ahead_numB _ _ (by omega)]
  unfold aheadR
  split
  · rfl
  · rename_i n j he
    have := ahead_take _ _ _ he
    rw [ha] at this
    simp only [Option.some.injEq, Prod.mk.injEq] at this
    obtain ⟨rfl, rfl⟩ := this
    rw [if_neg]
    rintro ⟨-, h2, -⟩
    rw [List.length_take] at h2
    omega
theorem aheadR_nil (C : Ck) : aheadR C [] = none := rfl
/-- the texts of bytes, and where they end -/
def scanL (C : Ck) (r : List UInt8) : List ByteArray × Nat :=
  match _h : aheadR C r with
  | none => ([], 0)
  | some (t, k) => (t :: (scanL C (r.drop k)).1, k + (scanL C (r.drop k)).2)
termination_by r.length
decreasing_by
  all_goals
    obtain ⟨-, -, h3, h4, -⟩ := aheadR_some C r t k _h
    rw [List.length_drop]; omega
theorem scanL_none (C : Ck) (r : List UInt8) (h : aheadR C r = none) : scanL C r = ([], 0) := by
  rw [scanL]; split
  · rfl
  · rename_i e; rw [h] at e; simp at e
theorem scanL_some (C : Ck) (r : List UInt8) (t : ByteArray) (k : Nat) (h : aheadR C r = some (t, k)) : scanL C r = (t :: (scanL C (r.drop k)).1, k + (scanL C (r.drop k)).2) := by
  rw [scanL]; split
  · rename_i e; rw [h] at e; simp at e
  · rename_i t' k' e; rw [h] at e
    simp only [Option.some.injEq, Prod.mk.injEq] at e
    obtain ⟨rfl, rfl⟩ := e
    rfl
/-- a log is scanned as it was written, and what is behind it as it is -/
theorem scanL_log (C : Ck) (l : List ByteArray) (t : List UInt8) (h : longS 1024 l = false) : scanL C (logL C l ++ t) = (l ++ (scanL C t).1, (logL C l).length + (scanL C t).2) := by
  induction l with
  | nil => rw [logL_nil]; simp
  | cons s l ih =>
    rw [longS_cons, Bool.or_eq_false_iff] at h
    have hs : s.size ≤ 1024 := by simpa using h.1
    have ha := aheadR_rec C s (logL C l ++ t) hs
    rw [logL_cons, List.append_assoc, scanL_some C _ _ _ ha, List.drop_left, ih h.2]
    simp [Nat.add_assoc]
theorem scanL_nil (C : Ck) : scanL C [] = ([], 0) := scanL_none C _ rfl
theorem scanL_whole (C : Ck) (l : List ByteArray) (h : longS 1024 l = false) : scanL C (logL C l) = (l, (logL C l).length) := by
  have := scanL_log C l [] h
  rwa [scanL_nil, List.append_nil, List.append_nil] at this
theorem logL_split (C : Ck) (l : List ByteArray) (i : Nat) (h : i < l.length) : logL C l = logL C (l.take i) ++ (recL C (l.getD i ⟨#[]⟩) ++ logL C (l.drop (i + 1))) := by
  have e : l = l.take i ++ (l.getD i ⟨#[]⟩ :: l.drop (i + 1)) := by
    have : l.getD i ⟨#[]⟩ = l[i] := by simp [List.getD, h]
    rw [this, List.getElem_cons_drop, List.take_append_drop]
  conv => lhs; rw [e]
  rw [logL_append, logL_cons]
theorem take_next (l : List ByteArray) (i : Nat) (h : i < l.length) : l.take (i + 1) = l.take i ++ [l.getD i ⟨#[]⟩] := by
  rw [List.take_succ_eq_append_getElem h]; simp [List.getD, h]
/-- a log that is cut is scanned as far as its records stand whole -/
theorem scanL_torn (C : Ck) (l : List ByteArray) (h : longS 1024 l = false) (i k : Nat) (hi : i < l.length) (h1 : (logL C (l.take i)).length ≤ k) (h2 : k < (logL C (l.take (i + 1))).length) :
    scanL C ((logL C l).take k) = (l.take i, (logL C (l.take i)).length) := by
  rw [take_next l i hi, logL_append, logL_one, List.length_append] at h2
  have hs : (l.getD i ⟨#[]⟩).size ≤ 1024 := by
    have e : l.getD i ⟨#[]⟩ = l[i] := by simp [List.getD, hi]
    have : ∀ s ∈ l, ¬ 1024 < s.size := fun s hs hlt => by
      have : longS 1024 l = true := List.any_eq_true.2 ⟨s, hs, by simpa using hlt⟩
      rw [h] at this; cases this
    rw [e]
    exact Nat.le_of_not_lt (this _ (List.getElem_mem hi))
  have e : (logL C l).take k = logL C (l.take i) ++ (recL C (l.getD i ⟨#[]⟩)).take (k - (logL C (l.take i)).length) := by
    rw [logL_split C l i hi, List.take_append, List.take_of_length_le h1, List.take_append_of_le_length (by omega)]
  rw [e, scanL_log C _ _ (longS_take h i), scanL_none C _ (aheadR_cut C _ hs _ (by omega))]
  simp
theorem scanL_le (C : Ck) (r : List UInt8) : (scanL C r).2 ≤ r.length ∧ 5 * (scanL C r).1.length ≤ (scanL C r).2 := by
  generalize hn : r.length = n
  induction n using Nat.strongRecOn generalizing r with
  | _ n ih =>
    cases ha : aheadR C r with
    | none => rw [scanL_none C r ha]; simp
    | some p =>
      obtain ⟨t, k⟩ := p
      obtain ⟨-, -, h3, h4, -⟩ := aheadR_some C r t k ha
      obtain ⟨i1, i2⟩ := ih (r.drop k).length (by rw [List.length_drop]; omega) (r.drop k) rfl
      rw [scanL_some C r t k ha]
      rw [List.length_drop] at i1
      simp only [List.length_cons]
      omega

/-- a text's bytes behind its first -/
def tailS (t : ByteArray) : ByteArray := strL ((bl t).drop 1)
def isState (t : ByteArray) : Bool := decide ((bl t).head? = some 115)
def isChange (t : ByteArray) : Bool := decide ((bl t).head? = some 99)
def stepV (v : ByteArray × List ByteArray) (t : ByteArray) : ByteArray × List ByteArray :=
  if isState t then (tailS t, []) else if isChange t then (v.1, v.2 ++ [tailS t]) else v
def noState : List ByteArray → Bool := fun l => l.all fun t => !isState t
def changesL (l : List ByteArray) : List ByteArray := (l.filter isChange).map tailS
/-- what is recovered of texts -/
def recoverL (l : List ByteArray) : ByteArray × List ByteArray := l.foldl stepV (⟨#[]⟩, [])
theorem fold_noState (l : List ByteArray) (v : ByteArray × List ByteArray) (h : noState l = true) : l.foldl stepV v = (v.1, v.2 ++ changesL l) := by
  induction l generalizing v with
  | nil => simp [changesL]
  | cons t l ih =>
    unfold noState at h
    rw [List.all_cons, Bool.and_eq_true] at h
    have hs : isState t = false := by simpa using h.1
    rw [List.foldl_cons, ih _ h.2]
    unfold stepV
    rw [hs]
    cases hc : isChange t
    · simp [changesL, hc]
    · simp [changesL, hc, List.append_assoc]
theorem recoverL_none (l : List ByteArray) (h : noState l = true) : recoverL l = (⟨#[]⟩, changesL l) := by
  unfold recoverL; rw [fold_noState _ _ h]; simp
theorem recoverL_state (a b : List ByteArray) (t : ByteArray) (ht : isState t = true) (h : noState b = true) : recoverL (a ++ t :: b) = (tailS t, changesL b) := by
  unfold recoverL
  rw [List.foldl_append, List.foldl_cons, fold_noState _ _ h]
  unfold stepV
  rw [ht]; simp
theorem recoverL_snoc (l : List ByteArray) (t : ByteArray) : recoverL (l ++ [t]) = stepV (recoverL l) t := by unfold recoverL; rw [List.foldl_append]; rfl
theorem fold_len (l : List ByteArray) (v : ByteArray × List ByteArray) : (l.foldl stepV v).2.length ≤ v.2.length + l.length := by
  induction l generalizing v with
  | nil => simp
  | cons y l ih =>
    rw [List.foldl_cons]
    refine Nat.le_trans (ih _) ?_
    have : (stepV v y).2.length ≤ v.2.length + 1 := by
      unfold stepV
      split
      · simp
      · split
        · simp
        · omega
    rw [List.length_cons]; omega
/-- no more changes are recovered than texts are there -/
theorem recoverL_len (l : List ByteArray) : (recoverL l).2.length ≤ l.length := by
  have := fold_len l (⟨#[]⟩, [])
  unfold recoverL
  simpa using this
theorem changesL_append (a b : List ByteArray) : changesL (a ++ b) = changesL a ++ changesL b := by unfold changesL; rw [List.filter_append, List.map_append]
theorem noState_append (a b : List ByteArray) : noState (a ++ b) = (noState a && noState b) := by unfold noState; exact List.all_append
/-- texts with their marks -/
def sT (s : ByteArray) : ByteArray := ⟨#[115]⟩ ++ s
def cT (s : ByteArray) : ByteArray := ⟨#[99]⟩ ++ s
theorem bl_append' (a b : ByteArray) : bl (a ++ b) = bl a ++ bl b := by
  unfold bl
  simp
theorem bl_sT (s : ByteArray) : bl (sT s) = 115 :: bl s := by unfold sT; rw [bl_append']; rfl
theorem bl_cT (s : ByteArray) : bl (cT s) = 99 :: bl s := by unfold cT; rw [bl_append']; rfl
theorem size_sT (s : ByteArray) : (sT s).size = s.size + 1 := by rw [← bl_length, bl_sT, List.length_cons, bl_length]
theorem size_cT (s : ByteArray) : (cT s).size = s.size + 1 := by rw [← bl_length, bl_cT, List.length_cons, bl_length]
theorem isState_sT (s : ByteArray) : isState (sT s) = true := by unfold isState; rw [bl_sT]; rfl
theorem isState_cT (s : ByteArray) : isState (cT s) = false := by unfold isState; rw [bl_cT]; rfl
theorem isChange_cT (s : ByteArray) : isChange (cT s) = true := by unfold isChange; rw [bl_cT]; rfl
theorem tailS_sT (s : ByteArray) : tailS (sT s) = s := by unfold tailS; rw [bl_sT, List.drop_one, List.tail_cons, strL_bl]
theorem tailS_cT (s : ByteArray) : tailS (cT s) = s := by unfold tailS; rw [bl_cT, List.drop_one, List.tail_cons, strL_bl]
theorem noState_cT (l : List ByteArray) : noState (l.map cT) = true := by
  unfold noState; rw [List.all_map]; exact List.all_eq_true.2 fun s _ => by simp [Function.comp, isState_cT]
theorem changesL_cT (l : List ByteArray) : changesL (l.map cT) = l := by
  induction l with
  | nil => rfl
  | cons s l ih =>
    unfold changesL at ih ⊢
    rw [List.map_cons, List.filter_cons, if_pos (isChange_cT s), List.map_cons, ih, tailS_cT]
/-- the texts of a packed log -/
def packT (st : ByteArray) (l : List ByteArray) : List ByteArray := sT st :: l.map cT
theorem recoverL_pack (st : ByteArray) (l : List ByteArray) (a : List ByteArray) : recoverL (a ++ packT st l) = (st, l) := by
  unfold packT
  rw [recoverL_state a _ _ (isState_sT st) (noState_cT l), tailS_sT, changesL_cT]
theorem longS_cT (m : Nat) (l : List ByteArray) : longS (m + 1) (l.map cT) = longS m l := by
  unfold longS
  rw [List.any_map]
  congr 1
  funext s
  simp [Function.comp, size_cT]
theorem longS_pack (m : Nat) (st : ByteArray) (l : List ByteArray) : longS (m + 1) (packT st l) = (decide (m < st.size) || longS m l) := by
  unfold packT
  rw [longS_cons, longS_cT, size_sT]
  congr 1
  simp
/-- a log's bytes, or none -/
def wrS (C : Ck) (l : List ByteArray) : ByteArray := if longS 1024 l then ⟨#[]⟩ else strL (logL C l)
def wrE (l : List ByteArray) : Nat := if longS 1024 l then 2 else 0
end Go.Proofs.Ytimijdmigdlhfaa