/- Kept keys that came in, a row of them or one: they can be read, and their numbers and texts are Go's. -/
import Derived.Test.YtfkfadcfafbmmaaDoorBg14
import Derived.Deep.Strs
import Derived.Lib.SmallJoins
import Derived.Carry
namespace Go.Proofs.YtfkfadcfafbmmaaDoor
open Go.RowKit Go.ChangeShapes Go.WideShapes Go.Deep
set_option maxRecDepth 100000
structure KkIn (q : Kk) : Prop where
  r : q.r.size ≤ maxLen
  n : q.n < 18446744073709551616
  k : q.k.size ≤ maxLen
def KksIn (l : List Kk) : Prop := ∀ q ∈ l, KkIn q
theorem cellsKept : Tryd.prog.cellsOf 47 = 3 := by kernel_rfl
theorem cellsStrK : Tryd.prog.cellsOf 9 = 1 := by kernel_rfl
theorem cellsU64K : Tryd.prog.cellsOf 23 = 1 := by kernel_rfl
theorem open_kepts {H : Type} {enc : TypeId × Value → H} {W : World} {r : Reach} {b0 base : Nat} {spare : Nat → Bool} {held : Bool} {v : Value} {d : DataW H} {p : List MemPlace}
    (hval : Value.okWide Tryd.prog W r b0 22 v) (h : DataW.Trod enc Tryd.prog W base spare held 22 v d p) :
    ∃ (a : Option Addr) (c : Nat) (l : List Kk), v = .slice a l.length c ∧ l.length ≤ maxLen ∧ l.length ≤ c ∧ KksIn l ∧ KSl W a l := by
  obtain ⟨a0, n0, c0, rfl⟩ := okWide_slice Tryd.underlying22 hval
  obtain ⟨fuel, hf⟩ := h
  have hf' : DataW.trod enc Tryd.prog W base spare held fuel 22 [.slice a0 n0 c0] = some (d, p) := by simpa [Value.cells] using hf
  rcases open_slice Tryd.underlying22 hf' with ⟨hcs, -⟩ | ⟨a, len, cap, m, n, D, Pl, hcs, -, hlc, hcm, hmm, -, hi⟩
  · simp only [List.cons.injEq, Value.slice.injEq, and_true] at hcs
    obtain ⟨rfl, rfl, rfl⟩ := hcs
    exact ⟨none, 0, [], rfl, Nat.zero_le _, Nat.le_refl _, fun q hq => (by cases hq), KSl.nil _ _⟩
  · simp only [List.cons.injEq, Value.slice.injEq, and_true] at hcs
    obtain ⟨rfl, rfl, rfl⟩ := hcs
    have hle : n0 ≤ m := by rw [hmm]; split <;> omega
    have each : ∀ i, i < n0 → ∃ q : Kk, KkIn q ∧ W.cell? (a.add (i * 3)) = some (.string q.r) ∧ W.cell? ((a.add (i * 3)).add 1) = some (.int .u64 (q.n : Int)) ∧ W.cell? ((a.add (i * 3)).add 2) = some (.string q.k) := by
      intro i him
      obtain ⟨cs', hc, ht⟩ := hi i (by omega)
      rw [cellsKept] at hc
      obtain ⟨-, hlen, hat⟩ := World.cells?_some hc
      match cs', hlen with
      | [v0, v1, v2], _ =>
        obtain ⟨y0, y1, y2, k, -, -, h0, h1, h2⟩ := trod_struct3 Tryd.underlying47 ht
        simp only [cellsStrK, cellsU64K, List.drop_zero, List.drop_succ_cons, List.take_succ_cons, List.take_zero] at h0 h1 h2
        obtain ⟨b, e0, -, hb0⟩ := DataW.trod_string Tryd.underlying9 h0
        obtain ⟨z, e1, -, hz⟩ := DataW.trod_int Tryd.underlying23 h1
        obtain ⟨x, e2, -, hx⟩ := DataW.trod_string Tryd.underlying9 h2
        obtain rfl : v0 = .string b := by simpa using e0
        obtain rfl : v1 = .int .u64 z := by simpa using e1
        obtain rfl : v2 = .string x := by simpa using e2
        have hz' : 0 ≤ z ∧ z < 18446744073709551616 := by
          simp [Lit.wf] at hz
          have e : IntKind.u64.max = 18446744073709551615 := by rfl
          have e' : IntKind.u64.min = 0 := by rfl
          omega
        obtain ⟨q, rfl⟩ := Int.eq_ofNat_of_zero_le hz'.1
        have g0 := hat 0 (by omega)
        have g1 := hat 1 (by omega)
        have g2 := hat 2 (by omega)
        rw [show (a.add (i * 3)).add 0 = a.add (i * 3) from rfl] at g0
        exact ⟨⟨b, q, x⟩, ⟨hb0, by show q < _; omega, hx⟩, by simpa using g0, by simpa using g1, by simpa using g2⟩
    haveI : Inhabited Kk := ⟨k00⟩
    obtain ⟨F, hF⟩ := choose_lt each
    have hget : ∀ i, i < n0 → ((List.range n0).map F).getD i k00 = F i := fun i hin => by simp [List.getD, hin]
    refine ⟨some a, c0, (List.range n0).map F, by simp, by simp; omega, by simp; exact hlc, fun q hq => ?_, fun h0 => ?_⟩
    · rw [List.mem_map] at hq
      obtain ⟨i, hin, rfl⟩ := hq
      exact (hF i (List.mem_range.1 hin)).1
    · simp only [List.length_map, List.length_range] at h0
      obtain ⟨-, g0, -, -⟩ := hF 0 h0
      rw [Nat.zero_mul, show a.add 0 = a from rfl] at g0
      obtain ⟨hap, hab⟩ := cell_plain g0
      refine ⟨a.block, a.off, by rw [← hap], hab, fun i hin => ?_⟩
      simp only [List.length_map, List.length_range] at hin
      rw [hget i hin]
      obtain ⟨-, g0, g1, g2⟩ := hF i hin
      have hadd : a.add (i * 3) = ⟨a.block, a.off + i * 3, none⟩ := by rw [hap]; exact Addr.add_mid _ _ _
      rw [hadd] at g0 g1 g2
      rw [Addr.add_mid] at g1 g2
      exact ⟨g0, g1, g2⟩
theorem open_kept {H : Type} {enc : TypeId × Value → H} {W : World} {r : Reach} {b0 : Nat} {spare : Nat → Bool} {v : Value} {d : DataW H} {p : List MemPlace}
    (hval : Value.okWide Tryd.prog W r b0 47 v) (h : DataW.Trod enc Tryd.prog W 0 spare true 47 v d p) :
    ∃ q : Kk, v = kkv q ∧ KkIn q := by
  obtain ⟨v0, v1, v2, y0, y1, y2, k, rfl, -, -, h0, h1, h2⟩ := Joins.open_agg3 Tryd.underlying47 (by kernel_rfl) cellsKept hval h
  obtain ⟨b, e0, -, hb0⟩ := DataW.trod_string Tryd.underlying9 h0
  obtain ⟨z, e1, -, hz⟩ := DataW.trod_int Tryd.underlying23 h1
  obtain ⟨x, e2, -, hx⟩ := DataW.trod_string Tryd.underlying9 h2
  obtain rfl : v0 = .string b := by simpa using e0
  obtain rfl : v1 = .int .u64 z := by simpa using e1
  obtain rfl : v2 = .string x := by simpa using e2
  have hz' : 0 ≤ z ∧ z < 18446744073709551616 := by
    simp [Lit.wf] at hz
    have e : IntKind.u64.max = 18446744073709551615 := by rfl
    have e' : IntKind.u64.min = 0 := by rfl
    omega
  obtain ⟨q, rfl⟩ := Int.eq_ofNat_of_zero_le hz'.1
  exact ⟨⟨b, q, x⟩, rfl, hb0, by show q < _; omega, hx⟩
end Go.Proofs.YtfkfadcfafbmmaaDoor