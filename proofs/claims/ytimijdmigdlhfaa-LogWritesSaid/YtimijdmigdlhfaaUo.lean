/- Texts that came in: that they can be read, and how long they may be. -/
import Derived.Test.YtimijdmigdlhfaaUn
import Derived.Deep.Strs
import Derived.SizedLaws
import Derived.WideShapes
import Derived.ChangeShapes
namespace Go.Proofs.Ytimijdmigdlhfaa
open Go.RowKit Go.ChangeShapes Go.WideShapes Go.Deep
set_option maxRecDepth 100000
theorem cellsStr9 : Try.prog.cellsOf 9 = 1 := by kernel_rfl
theorem weights_all {H : Type} (P : Program) (e : TypeId) (L : List (DataW H)) (x : DataW H) (hx : x ∈ L) (n : Nat) (hn : n ∈ x.weights P e) : n ∈ DataW.weightsAll P e L := by
  induction L with
  | nil => cases hx
  | cons d r ih =>
    rw [DataW.weightsAll, List.mem_append]
    rcases List.mem_cons.1 hx with rfl | h
    · exact .inl hn
    · exact .inr (ih h)
theorem open_texts {H : Type} {enc : TypeId × Value → H} {W : World} {r : Reach} {b0 base : Nat} {spare : Nat → Bool} {held : Bool} {v : Value} {d : DataW H} {p : List MemPlace}
    (hval : Value.okWide Try.prog W r b0 22 v) (h : DataW.Trod enc Try.prog W base spare held 22 v d p) :
    ∃ (a : Option Addr) (c : Nat) (l : List ByteArray), v = .slice a l.length c ∧ l.length ≤ maxLen ∧ Fit l ∧ Rd9 W a c l ∧ ∀ x ∈ l, x.size ∈ d.weights Try.prog 22 := by
  obtain ⟨a0, n0, c0, rfl⟩ := okWide_slice Try.underlying22 hval
  obtain ⟨fuel, hf⟩ := h
  have hf' : DataW.trod enc Try.prog W base spare held fuel 22 [.slice a0 n0 c0] = some (d, p) := by simpa [Value.cells] using hf
  rcases open_strs Try.underlying22 Try.underlying9 cellsStr9 hf' with ⟨e0, -⟩ | ⟨a, len, cap, m, S, e0, -, hlc, hcm, hmm, hd, hi⟩
  · have e1 : Value.slice a0 n0 c0 = .slice none 0 0 := by simpa using e0
    rw [e1]
    exact ⟨none, 0, [], rfl, Nat.zero_le _, fun k hk => (by cases hk), ⟨SSl.nil _ _, Nat.le_refl _, fun _ => ⟨rfl, rfl⟩⟩, fun x hx => (by cases hx)⟩
  · have e1 : Value.slice a0 n0 c0 = .slice (some a) len cap := by simpa using e0
    rw [e1]
    have hle : len ≤ m := by rw [hmm]; split <;> omega
    obtain ⟨rfl, -⟩ := Prod.mk.inj hd
    refine ⟨some a, cap, (List.range len).map S, by simp, by simp; omega, fun k hk => ?_, ⟨fun hpos => ?_, by simp; exact hlc, fun e => by cases e⟩, fun x hx => ?_⟩
    · rw [List.mem_map] at hk
      obtain ⟨i, hin, rfl⟩ := hk
      exact (hi i (by have := List.mem_range.1 hin; omega)).2
    · simp only [List.length_map, List.length_range] at hpos
      have hc0 := (hi 0 (by omega)).1
      rw [show a.add 0 = a from rfl] at hc0
      obtain ⟨hap, hab⟩ := cell_plain hc0
      refine ⟨a.block, a.off, by rw [← hap], hab, fun i hin => ?_⟩
      simp only [List.length_map, List.length_range] at hin
      have hci := (hi i (by omega)).1
      have hadd : a.add i = ⟨a.block, a.off + i, none⟩ := by rw [hap]; exact Addr.add_mid _ _ _
      rw [hadd] at hci
      rw [hci]
      simp [List.getD, hin]
    · rw [List.mem_map] at hx
      obtain ⟨i, hin, rfl⟩ := hx
      rw [DataW.weights, Try.underlying22]
      refine List.mem_cons_of_mem _ (List.mem_append_left _ (weights_all _ _ _ (.lit (.string (S i).data.toList)) (List.mem_map.2 ⟨i, hin, rfl⟩) _ ?_))
      rw [DataW.weights, List.mem_singleton, Array.length_toList]
      rfl
end Go.Proofs.Ytimijdmigdlhfaa