/- Keys that are told, in plain mathematics: which key covers a frame, the frame changed; a session without its first used keys. -/
import Derived.Test.YtdnjieffbgmagaaDoorBRg1
import Derived.Test.YtdnjieffbgmagaaDoorBg9
import Derived.Test.YtdnjieffbgmagaaDoorBg15
namespace Go.Proofs.YtdnjieffbgmagaaDoor
open Go.RowKit
set_option maxRecDepth 100000

/-- a frame's bytes ahead of the tag -/
def hidB (f : Fr) : ByteArray := f.body.extract 0 (f.body.size - 32)
theorem hidB_size (f : Fr) (h : 32 ≤ f.body.size) : (hidB f).size = f.body.size - 32 := by unfold hidB; rw [ByteArray.size_extract]; omega
/-- bytes, and behind them their tag -/
def againS (k h x : ByteArray) : ByteArray := strL (againL (bl k) (bl h) (bl x))
theorem againS_size (k h x : ByteArray) : (againS k h x).size = x.size + 32 := by
  have e : (tagOfL (bl k) (bl h) (bl x)).length = 32 := ofL_length _
  unfold againS againL
  rw [strL_size, List.length_append, e, bl_length]
/-- the first key that covers a head, bytes, and all of them; none: an empty one -/
def firstK (h x y : ByteArray) : List ByteArray → ByteArray
  | [] => ⟨#[]⟩
  | k :: l => if k.size = 32 ∧ againS k h x = y then k else firstK h x y l
theorem firstK_yes (h x y : ByteArray) (l : List ByteArray) (k : Nat) (hk : k < l.length) (h1 : (l.getD k ⟨#[]⟩).size = 32) (h2 : againS (l.getD k ⟨#[]⟩) h x = y) : firstK h x y (l.drop k) = l.getD k ⟨#[]⟩ := by
  have e : l.getD k ⟨#[]⟩ = l[k] := by simp [List.getD, hk]
  rw [e] at h1 h2 ⊢
  rw [List.drop_eq_getElem_cons hk, firstK, if_pos ⟨h1, h2⟩]
theorem firstK_no (h x y : ByteArray) (l : List ByteArray) (k : Nat) (hk : k < l.length) (h1 : ¬ ((l.getD k ⟨#[]⟩).size = 32 ∧ againS (l.getD k ⟨#[]⟩) h x = y)) : firstK h x y (l.drop k) = firstK h x y (l.drop (k + 1)) := by
  have e : l.getD k ⟨#[]⟩ = l[k] := by simp [List.getD, hk]
  rw [e] at h1
  rw [List.drop_eq_getElem_cons hk, firstK, if_neg h1]
theorem firstK_end (h x y : ByteArray) (l : List ByteArray) : firstK h x y (l.drop l.length) = ⟨#[]⟩ := by rw [List.drop_length]; rfl
theorem firstK_or (h x y : ByteArray) (l : List ByteArray) : (firstK h x y l).size = 0 ∨ ((firstK h x y l).size = 32 ∧ againS (firstK h x y l) h x = y) := by
  induction l with
  | nil => exact Or.inl rfl
  | cons k l ih =>
    rw [firstK]
    by_cases hc : k.size = 32 ∧ againS k h x = y
    · rw [if_pos hc]; exact Or.inr hc
    · rw [if_neg hc]; exact ih
/-- why a frame may not be asked for -/
def whyF (f : Fr) : Int := if ¬ (rightF f = true ∧ f.kind ≠ 2) then 1 else if f.body.size < 32 then 2 else 0
def whySeal (f : Fr) : List Value := if whyF f = 0 then [.string (strL (headF f)), .string (hidB f), .string f.body] else [.string ⟨#[]⟩, .string ⟨#[]⟩, .string ⟨#[]⟩]
/-- the key that covers a frame -/
def keyF (f : Fr) (l : List ByteArray) : ByteArray := firstK (strL (headF f)) (hidB f) f.body l
def xor3 (a b c : List UInt8) : List UInt8 := (List.range a.length).map fun i => a.getD i 0 ^^^ b.getD i 0 ^^^ c.getD i 0
theorem xor3_length (a b c : List UInt8) : (xor3 a b c).length = a.length := by simp [xor3]
/-- the frame changed -/
def changeF (k : ByteArray) (f : Fr) (o t : ByteArray) : Fr := { f with body := againS k (strL (headF f)) (strL (xor3 (bl (hidB f)) (bl o) (bl t))) }
/-- what Change tells -/
def changeE (f : Fr) (l : List ByteArray) (o t : ByteArray) : Int :=
  if whyF f ≠ 0 then whyF f else if (keyF f l).size = 0 then 5 else if ¬ (o.size = f.body.size - 32 ∧ t.size = f.body.size - 32) then 2 else 0
theorem tpZ_len (s : ByteArray) (h : s.size ≤ 32) : (partB (tp s)).length ≤ 41 := by
  have e : partB (tp s) = numB s.size ++ bl s := rfl
  have := numB_le9 s.size (by omega)
  rw [e, List.length_append, bl_length]; omega
theorem npZ_len (n : Nat) (h : n < 18446744073709551616) : (partB (np n)).length ≤ 9 := numB_le9 n h
structure Able (f : Fr) : Prop where
  kind : f.kind = 0 ∨ f.kind = 1
  body : f.body.size ≤ 1024
  head : (strL (headF f)).size ≤ 1024
  none : f.keys = []
theorem able_of {f : Fr} (h : rightF f = true) (hk : f.kind ≠ 2) (ho : FrOk f) : Able f := by
  have hs := right_sz f h
  have hid : f.ident.size ≤ 32 ∧ f.base.size ≤ 32 ∧ f.ratchet.size ≤ 32 ∧ f.body.size ≤ 1024 ∧ f.keys = [] := by
    unfold rightF at h
    by_cases h0 : f.kind = 0
    · rw [if_pos h0] at h
      simp only [Bool.and_eq_true, decide_eq_true_eq] at h
      exact ⟨by omega, by omega, by omega, by omega, List.eq_nil_of_length_eq_zero h.2⟩
    · rw [if_neg h0] at h
      split at h
      · rename_i h1
        by_cases h2 : f.kind = 1
        · rw [if_pos h2] at h
          simp only [Bool.and_eq_true, decide_eq_true_eq] at h
          exact ⟨by omega, by omega, by omega, by omega, List.eq_nil_of_length_eq_zero h.2⟩
        · have := hs.kind; omega
      · cases h
  have hk2 : f.kind = 0 ∨ f.kind = 1 := by have := hs.kind; omega
  refine ⟨hk2, hid.2.2.2.1, ?_, hid.2.2.2.2⟩
  rw [strL_size]
  unfold headF headP packL
  have n1 := npZ_len f.frm ho.frm; have n2 := npZ_len f.dst ho.dst; have n3 := npZ_len f.id ho.id
  have n4 := npZ_len f.signed ho.signed; have n5 := npZ_len f.once ho.once
  have n6 := npZ_len f.prev ho.prev; have n7 := npZ_len f.num ho.num
  have n8 := npZ_len f.kind.toNat (by omega)
  have t1 := tpZ_len f.ident hid.1; have t2 := tpZ_len f.base hid.2.1; have t3 := tpZ_len f.ratchet hid.2.2.1
  rcases hk2 with h0 | h0
  · rw [if_pos h0, if_pos (by omega)]
    simp only [List.flatMap_append, List.flatMap_cons, List.flatMap_nil, List.length_append, List.length_nil]
    omega
  · rw [if_neg (by omega), if_pos (by omega)]
    simp only [List.flatMap_append, List.flatMap_cons, List.flatMap_nil, List.length_append, List.length_nil]
    omega
theorem whyF_zero {f : Fr} (h : whyF f = 0) : rightF f = true ∧ f.kind ≠ 2 ∧ 32 ≤ f.body.size := by
  unfold whyF at h
  by_cases h1 : rightF f = true ∧ f.kind ≠ 2
  · rw [if_neg (by simpa using h1)] at h
    by_cases h2 : f.body.size < 32
    · rw [if_pos h2] at h; cases h
    · exact ⟨h1.1, h1.2, by omega⟩
  · rw [if_pos h1] at h; cases h
/-- a session without its first used keys -/
def takeE (s : Se) (m : Int) : Int := if ¬ rightS s then 1 else if m < 0 ∨ 32 < m then 2 else 0
def takeS (s : Se) (n : Nat) : Se := { s with used := s.used.drop n }
theorem results_zt {P : Program} {fn : Func} {p q : Tmp} {T : TypeId} (h : fn.results = #[.cell p T, .tmp q]) (tmps : Array Value) (w : World) (B : Nat) {t : TypeId} {l : List Value} {d : TypeDesc}
    (hp : tmps.getD p undef = .pointer (some ⟨B, 0, none⟩)) (hb : BlkV w B t l) (hu : P.underlying T = some d) (hd : d.isRow = true) (hi : (P.info? T).map (·.size) = some l.length) (v : Value) (hv : tmps.getD q undef = v) :
    (results fn tmps).run P w = .ok (.tuple #[.agg l.toArray, v]) w := by
  have hp' : tmps[p]?.getD undef = .pointer (some ⟨B, 0, none⟩) := by simpa using hp
  have hv' : tmps[q]?.getD undef = v := by simpa using hv
  have hl := run_loadVar_row (P := P) w B t T l.toArray (0, 0) d hb hu (by cases d <;> simp_all) (by rw [List.size_toArray]; exact hi)
  simp [results, h, hp', hv', asAddr, hl]
theorem results_ztt {P : Program} {fn : Func} {p q r : Tmp} {T : TypeId} (h : fn.results = #[.cell p T, .tmp q, .tmp r]) (tmps : Array Value) (w : World) (B : Nat) {t : TypeId} {l : List Value} {d : TypeDesc}
    (hp : tmps.getD p undef = .pointer (some ⟨B, 0, none⟩)) (hb : BlkV w B t l) (hu : P.underlying T = some d) (hd : d.isRow = true) (hi : (P.info? T).map (·.size) = some l.length) (v u : Value) (hv : tmps.getD q undef = v) (hu2 : tmps.getD r undef = u) :
    (results fn tmps).run P w = .ok (.tuple #[.agg l.toArray, v, u]) w := by
  have hp' : tmps[p]?.getD undef = .pointer (some ⟨B, 0, none⟩) := by simpa using hp
  have hv' : tmps[q]?.getD undef = v := by simpa using hv
  have hu' : tmps[r]?.getD undef = u := by simpa using hu2
  have hl := run_loadVar_row (P := P) w B t T l.toArray (0, 0) d hb hu (by cases d <;> simp_all) (by rw [List.size_toArray]; exact hi)
  simp [results, h, hp', hv', hu', asAddr, hl]
end Go.Proofs.YtdnjieffbgmagaaDoor
