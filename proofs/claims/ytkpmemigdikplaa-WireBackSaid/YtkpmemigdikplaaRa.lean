/- A row of parts that came in: it can be read, and its numbers and texts are Go's. -/
import Derived.Test.YtkpmemigdikplaaPd
import Derived.Deep.Strs
import Derived.Carry
namespace Go.Proofs.Ytkpmemigdikplaa
open Go.RowKit Go.ChangeShapes Go.WideShapes Go.Deep
set_option maxRecDepth 100000

theorem cellsPart : Try.prog.cellsOf 34 = 3 := by kernel_rfl
theorem cellsBool : Try.prog.cellsOf 4 = 1 := by kernel_rfl
theorem cellsU64 : Try.prog.cellsOf 22 = 1 := by kernel_rfl
theorem cellsStr : Try.prog.cellsOf 9 = 1 := by kernel_rfl
theorem open_parts {H : Type} {enc : TypeId × Value → H} {W : World} {r : Reach} {b0 base : Nat} {spare : Nat → Bool} {held : Bool} {v : Value} {d : DataW H} {p : List MemPlace}
    (hval : Value.okWide Try.prog W r b0 23 v) (h : DataW.Trod enc Try.prog W base spare held 23 v d p) :
    ∃ (a : Option Addr) (c : Nat) (l : List Pt), v = .slice a l.length c ∧ l.length ≤ maxLen ∧ l.length ≤ c ∧ PsOk l ∧ PSl W a l := by
  obtain ⟨a0, n0, c0, rfl⟩ := okWide_slice Try.underlying23 hval
  obtain ⟨fuel, hf⟩ := h
  have hf' : DataW.trod enc Try.prog W base spare held fuel 23 [.slice a0 n0 c0] = some (d, p) := by simpa [Value.cells] using hf
  rcases open_slice Try.underlying23 hf' with ⟨hcs, -⟩ | ⟨a, len, cap, m, n, D, Pl, hcs, -, hlc, hcm, hmm, -, hi⟩
  · simp only [List.cons.injEq, Value.slice.injEq, and_true] at hcs
    obtain ⟨rfl, rfl, rfl⟩ := hcs
    exact ⟨none, 0, [], rfl, Nat.zero_le _, Nat.le_refl _, fun q hq => (by cases hq), PSl.nil _ _⟩
  · simp only [List.cons.injEq, Value.slice.injEq, and_true] at hcs
    obtain ⟨rfl, rfl, rfl⟩ := hcs
    have hle : n0 ≤ m := by rw [hmm]; split <;> omega
    have each : ∀ i, i < n0 → ∃ q : Pt, PtOk q ∧ W.cell? (a.add (i * 3)) = some (.bool q.text) ∧ W.cell? ((a.add (i * 3)).add 1) = some (.int .u64 (q.n : Int)) ∧ W.cell? ((a.add (i * 3)).add 2) = some (.string q.s) := by
      intro i him
      obtain ⟨cs', hc, ht⟩ := hi i (by omega)
      rw [cellsPart] at hc
      obtain ⟨-, hlen, hat⟩ := World.cells?_some hc
      match cs', hlen with
      | [v0, v1, v2], _ =>
        obtain ⟨y0, y1, y2, k, -, -, h0, h1, h2⟩ := trod_struct3 Try.underlying34 ht
        simp only [cellsBool, cellsU64, cellsStr, List.drop_zero, List.drop_succ_cons, List.take_succ_cons, List.take_zero] at h0 h1 h2
        obtain ⟨b, e0, -⟩ := DataW.trod_bool Try.underlying4 h0
        obtain ⟨z, e1, -, hz⟩ := DataW.trod_int Try.underlying22 h1
        obtain ⟨x, e2, -, hx⟩ := DataW.trod_string Try.underlying9 h2
        obtain rfl : v0 = .bool b := by simpa using e0
        obtain rfl : v1 = .int .u64 z := by simpa using e1
        obtain rfl : v2 = .string x := by simpa using e2
        have hz' : 0 ≤ z ∧ z < 18446744073709551616 := by
          simp [Lit.wf] at hz
          have e : IntKind.u64.max = 18446744073709551615 := by rfl
          have e' : IntKind.u64.min = 0 := by rfl
          omega
        obtain ⟨q, rfl⟩ := Int.eq_ofNat_of_zero_le hz'.1
        have g0 := hat 0 (by omega)
        have g1 := hat 1 (by omega)
        have g2 := hat 2 (by omega)
        rw [show (a.add (i * 3)).add 0 = a.add (i * 3) from rfl] at g0
        exact ⟨⟨b, q, x⟩, ⟨by show q < _; omega, hx⟩, by simpa using g0, by simpa using g1, by simpa using g2⟩
    haveI : Inhabited Pt := ⟨p0⟩
    obtain ⟨F, hF⟩ := choose_lt each
    have hget : ∀ i, i < n0 → ((List.range n0).map F).getD i p0 = F i := fun i hin => by simp [List.getD, hin]
    refine ⟨some a, c0, (List.range n0).map F, by simp, by simp; omega, by simp; exact hlc, fun q hq => ?_, fun h0 => ?_⟩
    · rw [List.mem_map] at hq
      obtain ⟨i, hin, rfl⟩ := hq
      exact (hF i (List.mem_range.1 hin)).1
    · simp only [List.length_map, List.length_range] at h0
      obtain ⟨-, g0, -, -⟩ := hF 0 h0
      rw [Nat.zero_mul, show a.add 0 = a from rfl] at g0
      obtain ⟨hap, hab⟩ := cell_plain g0
      refine ⟨a.block, a.off, by rw [← hap], hab, fun i hin => ?_⟩
      simp only [List.length_map, List.length_range] at hin
      rw [hget i hin]
      obtain ⟨-, g0, g1, g2⟩ := hF i hin
      have hadd : a.add (i * 3) = ⟨a.block, a.off + i * 3, none⟩ := by rw [hap]; exact Addr.add_mid _ _ _
      rw [hadd] at g0 g1 g2
      rw [Addr.add_mid] at g1 g2
      exact ⟨g0, g1, g2⟩
end Go.Proofs.Ytkpmemigdikplaa
