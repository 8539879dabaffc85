/- Parts in memory; the contracts of wire's Number, fits, samePart. -/
import Derived.Test.YtimijdmigdlhfaaPc
namespace Go.Proofs.Ytimijdmigdlhfaa
open Go.RowKit
set_option maxRecDepth 100000
def p0 : Pt := ⟨false, 0, ⟨#[]⟩⟩
def pv (p : Pt) : Value := .agg #[.bool p.text, .int .u64 (p.n : Int), .string p.s]
structure PtOk (p : Pt) : Prop where
  n : p.n < 18446744073709551616
  s : p.s.size ≤ maxLen
def PsOk (l : List Pt) : Prop := ∀ p ∈ l, PtOk p
theorem PsOk.at {l : List Pt} (h : PsOk l) (i : Nat) (hi : i < l.length) : PtOk (l.getD i p0) := by
  have e : l.getD i p0 = l[i] := by simp [List.getD, hi]
  rw [e]; exact h _ (List.getElem_mem hi)
/-- three cells that are a part -/
structure PtAt (w : World) (b o : Nat) (p : Pt) : Prop where
  c0 : w.cell? ⟨b, o, none⟩ = some (.bool p.text)
  c1 : w.cell? ⟨b, o + 1, none⟩ = some (.int .u64 (p.n : Int))
  c2 : w.cell? ⟨b, o + 2, none⟩ = some (.string p.s)
theorem PtAt.on {w w' : World} {b o : Nat} {p : Pt} (h : PtAt w b o p) (hb : Below w.heap.size w w') : PtAt w' b o p := by
  have hlt := World.block_lt_of_cell? w _ h.c0
  exact ⟨by rw [hb.cell (p := ⟨b, o, none⟩) hlt]; exact h.c0, by rw [hb.cell (p := ⟨b, o + 1, none⟩) hlt]; exact h.c1, by rw [hb.cell (p := ⟨b, o + 2, none⟩) hlt]; exact h.c2⟩
theorem PtAt.below {w w' : World} {n b o : Nat} {p : Pt} (h : PtAt w b o p) (hb : Below n w w') (hB : b < n) : PtAt w' b o p :=
  ⟨by rw [hb.cell (p := ⟨b, o, none⟩) hB]; exact h.c0, by rw [hb.cell (p := ⟨b, o + 1, none⟩) hB]; exact h.c1, by rw [hb.cell (p := ⟨b, o + 2, none⟩) hB]; exact h.c2⟩
theorem PtAt.fresh (w : World) (p : Pt) (t : TypeId) : PtAt (w.alloc (.cells #[.bool p.text, .int .u64 (p.n : Int), .string p.s] t)) w.heap.size 0 p := by
  have hH := heap_alloc_new w (.cells #[.bool p.text, .int .u64 (p.n : Int), .string p.s] t)
  exact ⟨by rw [cell_of_row _ _ _ _ _ _ hH]; rfl, by rw [cell_of_row _ _ _ _ _ _ hH]; rfl, by rw [cell_of_row _ _ _ _ _ _ hH]; rfl⟩
/-- a slice of parts, nil or not, that reads as l -/
def PSl (w : World) (a : Option Addr) (l : List Pt) : Prop :=
  0 < l.length → ∃ b off : Nat, a = some ⟨b, off, none⟩ ∧ b < w.heap.size ∧ ∀ i, i < l.length → PtAt w b (off + i * 3) (l.getD i p0)
theorem PSl.on {w w' : World} {a : Option Addr} {l : List Pt} (h : PSl w a l) (hb : Below w.heap.size w w') : PSl w' a l := by
  intro h0
  obtain ⟨b, off, ha, hlt, hc⟩ := h h0
  exact ⟨b, off, ha, Nat.lt_of_lt_of_le hlt hb.size, fun i hi => (hc i hi).on hb⟩
theorem PSl.nil (w : World) (a : Option Addr) : PSl w a [] := fun h => absurd h (Nat.lt_irrefl 0)
theorem PSl.take {w : World} {a : Option Addr} {l : List Pt} (h : PSl w a l) (k : Nat) : PSl w a (l.take k) := by
  intro h0
  rw [List.length_take] at h0
  obtain ⟨b, off, ha, hlt, hc⟩ := h (by omega)
  refine ⟨b, off, ha, hlt, fun i hi => ?_⟩
  rw [List.length_take] at hi
  have e : (l.take k).getD i p0 = l.getD i p0 := by
    rw [List.getD_eq_getElem?_getD, List.getD_eq_getElem?_getD, List.getElem?_take, if_pos (by omega)]
  rw [e]; exact hc i (by omega)

theorem numB_258 : numB 258 = [2, 1, 2] := by
  have e : digL 258 = [1, 2] := by
    rw [digL_pos 258 (by omega), show 258 / 256 = 1 from rfl, digL_pos 1 (by omega), show 1 / 256 = 0 from rfl, digL_zero]; rfl
  unfold numB
  rw [e]; rfl
theorem str_eq (s t : ByteArray) : (s.toList == t.toList) = decide (s = t) := by
  rw [Lib.toList_data, Lib.toList_data]
  by_cases h : s = t
  · subst h; simp
  · rw [decide_eq_false h, beq_eq_false_iff_ne]
    exact fun e => h (bl_inj e)
theorem str_lit (s : ByteArray) (l m : List UInt8) (hs : bl s = l) : (s.toList == m) = decide (l = m) := by
  rw [Lib.toList_data]
  show (bl s == m) = _
  rw [hs]
  by_cases h : l = m
  · subst h; simp
  · rw [decide_eq_false h, beq_eq_false_iff_ne]; exact h
theorem nat_eq (n m : Nat) : ((n : Int) == (m : Int)) = decide (n = m) := by
  by_cases h : n = m
  · subst h; simp
  · rw [decide_eq_false h, beq_eq_false_iff_ne]; omega
set_option maxHeartbeats 400000 in
theorem fits_any (p : Pt) (hp : PtOk p) (w : World) :
    Calls Try.prog 43 #[pv p] w fun e w' => e = .returned (.bool (!longP p)) ∧ Below w.heap.size w w' := by
  obtain ⟨t, n, s⟩ := p
  have hb : Below w.heap.size w (w.alloc (.cells #[.bool t, .int .u64 (n : Int), .string s] 65)) := (Below.refl _ _).alloc (Nat.le_refl _) _
  have HB := Lib.hid hb
  clear hp hb
  unfold pv
  simp only
  cases t
  · go_enter Try.func43, Try.ntmps43
    go_wp2_with fail
    go_ret
    exact ⟨rfl, HB.out⟩
  · by_cases h : 1024 < s.size
    · have l1 : ¬ (s.size : Int) ≤ 1024 := by omega
      have l2 : (1024 : Int) < (s.size : Int) := by omega
      have e : longP ⟨true, n, s⟩ = true := by unfold longP; simp [h]
      rw [e]
      clear e h
      go_enter Try.func43, Try.ntmps43
      go_wp2_with fail
      go_ret
      exact ⟨rfl, HB.out⟩
    · have l1 : (s.size : Int) ≤ 1024 := by omega
      have e : longP ⟨true, n, s⟩ = false := by unfold longP; simp [h]
      rw [e]
      clear e h
      go_enter Try.func43, Try.ntmps43
      go_wp2_with fail
      go_ret
      exact ⟨rfl, HB.out⟩
end Go.Proofs.Ytimijdmigdlhfaa