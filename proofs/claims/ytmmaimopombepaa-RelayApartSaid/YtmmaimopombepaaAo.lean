/- Rows of whatever structs that came in: they can be read. -/
import Derived.Test.YtmmaimopombepaaAg
import Derived.Deep.Strs
import Derived.Lib.SmallJoins
import Derived.Carry
namespace Go.Proofs.Ytmmaimopombepaa
open Go.RowKit Go.ChangeShapes Go.WideShapes Go.Deep
set_option maxRecDepth 100000
theorem cell_plainE {w : World} {a : Addr} {v : Value} (h : w.cell? a = some v) : a = ⟨a.block, a.off, none⟩ ∧ a.block < w.heap.size := by
  have hlt := World.block_lt_of_cell? w a h
  refine ⟨?_, hlt⟩
  obtain ⟨b, o, s⟩ := a
  cases s with
  | none => rfl
  | some s =>
    unfold World.cell? at h
    split at h
    · simp at h
    · cases h
theorem open_rows {T : Type} [Inhabited T] (E : Enc T) {P : Program} {ts t : TypeId} (ht : P.underlying ts = some (.slice t)) (hz : P.cellsOf t = E.z) {H : Type} {enc : TypeId × Value → H} {W : World} {base : Nat} {spare : Nat → Bool} {held : Bool} {n1 : Nat} {v : Value} {y : DataW H × List MemPlace}
    (hf : DataW.trod enc P W base spare held n1 ts [v] = some y) (R : T → Prop)
    (hel : ∀ (n : Nat) (cs : List Value) (z : DataW H × List MemPlace), cs.length = E.z → DataW.trod enc P W base spare held n t cs = some z → ∃ x : T, E.enc x = cs ∧ R x) :
    ∃ (a : Option Addr) (c : Nat) (l : List T), v = .slice a l.length c ∧ l.length ≤ maxLen ∧ l.length ≤ c ∧ Sl E W a l ∧ (a = none → c = 0 ∧ l = []) ∧ ∀ x ∈ l, R x := by
  rcases open_slice ht hf with ⟨hcs, -⟩ | ⟨a, len, cap, m, n, D, Pl, hcs, -, hlc, hcm, hmm, -, hi⟩
  · obtain rfl : v = .slice none 0 0 := by simpa using hcs
    exact ⟨none, 0, [], rfl, Nat.zero_le _, Nat.le_refl _, Sl.nil _ _ _, fun _ => ⟨rfl, rfl⟩, fun x hx => by cases hx⟩
  · obtain rfl : v = .slice (some a) len cap := by simpa using hcs
    have hle : len ≤ m := by rw [hmm]; split <;> omega
    have each : ∀ i, i < len → ∃ q : T, R q ∧ ∀ j u, (E.enc q)[j]? = some u → W.cell? ((a.add (i * E.z)).add j) = some u := by
      intro i him
      obtain ⟨cs', hc, htr⟩ := hi i (by omega)
      rw [hz] at hc
      obtain ⟨-, hlen, hat⟩ := World.cells?_some hc
      obtain ⟨x, hx, hR⟩ := hel _ cs' _ hlen htr
      refine ⟨x, hR, fun j u hu => ?_⟩
      rw [hx] at hu
      have hj := (List.getElem?_eq_some_iff.1 hu).1
      rw [hat j (by rw [← hlen]; exact hj)]
      exact hu
    obtain ⟨F, hF⟩ := choose_lt each
    have hget : ∀ i, (hin : i < ((List.range len).map F).length) → ((List.range len).map F)[i] = F i := fun i hin => by simp
    refine ⟨some a, cap, (List.range len).map F, by simp, by simp; omega, by simp; exact hlc, ?_, ?_, fun x hx => ?_⟩
    rotate_left
    · intro e; cases e
    rotate_left
    · by_cases h0 : 0 < len
      · have h1 := E.pos
        obtain ⟨v0, hv0⟩ : ∃ v0, (E.enc (F 0))[0]? = some v0 := ⟨_, List.getElem?_eq_getElem (by rw [E.len]; exact h1)⟩
        have g0 := (hF 0 h0).2 0 v0 hv0
        rw [Nat.zero_mul, show (a.add 0).add 0 = a from rfl] at g0
        obtain ⟨hap, hab⟩ := cell_plainE g0
        rw [hap]
        refine Sl.of hab fun i hin j u hu => ?_
        rw [hget i hin] at hu
        have := (hF i (by simpa using hin)).2 j u hu
        rw [hap, Addr.add_mid, Addr.add_mid] at this
        exact this
      · intro h
        simp at h
        omega
    · obtain ⟨i, hi2, rfl⟩ := List.mem_map.1 hx
      exact (hF i (List.mem_range.1 hi2)).1
end Go.Proofs.Ytmmaimopombepaa