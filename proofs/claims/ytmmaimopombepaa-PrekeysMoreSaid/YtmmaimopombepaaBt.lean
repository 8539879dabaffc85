/- Shelves and points that came in: they can be read. -/
import Derived.Test.YtmmaimopombepaaBc
import Derived.Test.YtmmaimopombepaaAo
import Derived.ChangeSame
namespace Go.Proofs.Ytmmaimopombepaa
open Go.RowKit Go.ChangeShapes Go.WideShapes Go.Deep
set_option maxRecDepth 100000
theorem cellsPnT : Try.prog.cellsOf 25 = 2 := by kernel_rfl
theorem cellsShT : Try.prog.cellsOf 28 = 5 := by kernel_rfl
theorem cellsStrT : Try.prog.cellsOf 9 = 1 := by kernel_rfl
theorem cellsU64T : Try.prog.cellsOf 23 = 1 := by kernel_rfl
theorem cellsPnsT : Try.prog.cellsOf 26 = 1 := by kernel_rfl
theorem u64_nat (z : Int) (hz : (Lit.int .u64 z).wf = true) : ∃ n : Nat, z = (n : Int) ∧ n < 18446744073709551616 := by
  have e : IntKind.u64.min = 0 := by rfl
  have e2 : IntKind.u64.max = 18446744073709551615 := by rfl
  simp [Lit.wf, e, e2] at hz
  exact ⟨z.toNat, by omega, by omega⟩
theorem open_pn {H : Type} {enc : TypeId × Value → H} {W : World} {base : Nat} {spare : Nat → Bool} {held : Bool} {n : Nat} {v0 v1 : Value} {z : DataW H × List MemPlace}
    (h : DataW.trod enc Try.prog W base spare held n 25 [v0, v1] = some z) : ∃ p : Pn, v0 = .int .u64 (p.id : Int) ∧ v1 = .string p.pt ∧ p.id < 18446744073709551616 ∧ p.pt.size ≤ maxLen := by
  obtain ⟨y0, y1, k, -, -, h0, h1⟩ := trod_struct2 Try.underlying25 h
  simp only [cellsStrT, cellsU64T, List.drop_zero, List.drop_succ_cons, List.take_succ_cons, List.take_zero] at h0 h1
  obtain ⟨q, e0, -, hz⟩ := DataW.trod_int Try.underlying23 h0
  obtain ⟨x, e1, -, hx⟩ := DataW.trod_string Try.underlying9 h1
  obtain rfl : v0 = .int .u64 q := by simpa using e0
  obtain rfl : v1 = .string x := by simpa using e1
  obtain ⟨m, rfl, hm⟩ := u64_nat q hz
  exact ⟨⟨m, x⟩, rfl, rfl, hm, hx⟩
theorem open_pns {H : Type} {enc : TypeId × Value → H} {W : World} {base : Nat} {spare : Nat → Bool} {held : Bool} {n1 : Nat} {v : Value} {y : DataW H × List MemPlace}
    (hf : DataW.trod enc Try.prog W base spare held n1 26 [v] = some y) :
    ∃ (a : Option Addr) (c : Nat) (l : List Pn), v = .slice a l.length c ∧ l.length ≤ maxLen ∧ PP W a c l := by
  obtain ⟨a, c, l, rfl, h1, h2, h3, h4, -⟩ := open_rows ePn Try.underlying26 cellsPnT hf (fun _ => True) (fun n cs z hl hz => by
    match cs, hl with
    | [v0, v1], _ =>
      obtain ⟨p, rfl, rfl, -, -⟩ := open_pn hz
      exact ⟨p, rfl, trivial⟩)
  exact ⟨a, c, l, rfl, h1, h3, h2, h4⟩
/-- a shelf's cells that came in -/
theorem open_shC {H : Type} {enc : TypeId × Value → H} {W : World} {base : Nat} {spare : Nat → Bool} {held : Bool} {n : Nat} {v0 v1 v2 v3 v4 : Value} {z : DataW H × List MemPlace}
    (h : DataW.trod enc Try.prog W base spare held n 28 [v0, v1, v2, v3, v4] = some z) : ∃ m : ShM, [v0, v1, v2, v3, v4] = shL m ∧ PtsAt W m ∧ m.s.once.length ≤ maxLen ∧ m.s.user < 18446744073709551616 := by
  obtain ⟨y0, y1, y2, y3, k, -, -, h0, h1, h2, h3⟩ := Joins.trod_struct4 Try.underlying28 h
  simp only [cellsStrT, cellsU64T, cellsPnT, cellsPnsT, List.drop_zero, List.drop_succ_cons, List.take_succ_cons, List.take_zero] at h0 h1 h2 h3
  obtain ⟨q, e0, -, hz⟩ := DataW.trod_int Try.underlying23 h0
  obtain ⟨x, e1, -, hx⟩ := DataW.trod_string Try.underlying9 h1
  obtain rfl : v0 = .int .u64 q := by simpa using e0
  obtain rfl : v1 = .string x := by simpa using e1
  obtain ⟨m, rfl, hm⟩ := u64_nat q hz
  obtain ⟨p, rfl, rfl, -, -⟩ := open_pn h2
  obtain ⟨a, c, l, rfl, hl, hp⟩ := open_pns h3
  exact ⟨⟨⟨m, x, p, l⟩, a, c⟩, rfl, ⟨hp.at_, hp.cap, hp.nil⟩, hl, hm⟩
theorem open_shs {H : Type} {enc : TypeId × Value → H} {W : World} {r : Reach} {b0 base : Nat} {spare : Nat → Bool} {held : Bool} {v : Value} {d : DataW H} {p : List MemPlace}
    (hval : Value.okWide Try.prog W r b0 22 v) (h : DataW.Trod enc Try.prog W base spare held 22 v d p) :
    ∃ (a : Option Addr) (c : Nat) (L : List ShM), v = .slice a L.length c ∧ L.length ≤ maxLen ∧ (∀ m ∈ L, m.s.once.length ≤ maxLen) ∧ SS W a c L := by
  obtain ⟨a0, n0, c0, rfl⟩ := okWide_slice Try.underlying22 hval
  obtain ⟨fuel, hf⟩ := h
  have hf' : DataW.trod enc Try.prog W base spare held fuel 22 [.slice a0 n0 c0] = some (d, p) := by simpa [Value.cells] using hf
  obtain ⟨a, c, l, e, h1, h2, h3, h4, h5⟩ := open_rows eSh Try.underlying22 cellsShT hf' (fun m => PtsAt W m ∧ m.s.once.length ≤ maxLen) (fun n cs z hl hz => by
    match cs, hl with
    | [v0, v1, v2, v3, v4], _ =>
      obtain ⟨m, hm, hp, hl, -⟩ := open_shC hz
      exact ⟨m, hm.symm, hp, hl⟩)
  exact ⟨a, c, l, e, h1, fun m hm => (h5 m hm).2, ⟨⟨h3, fun m hm => (h5 m hm).1⟩, h2, h4⟩⟩
theorem open_points {H : Type} {enc : TypeId × Value → H} {W : World} {r : Reach} {b0 base : Nat} {spare : Nat → Bool} {held : Bool} {v : Value} {d : DataW H} {p : List MemPlace}
    (hval : Value.okWide Try.prog W r b0 26 v) (h : DataW.Trod enc Try.prog W base spare held 26 v d p) :
    ∃ (a : Option Addr) (c : Nat) (l : List Pn), v = .slice a l.length c ∧ l.length ≤ maxLen ∧ PP W a c l := by
  obtain ⟨a0, n0, c0, rfl⟩ := okWide_slice Try.underlying26 hval
  obtain ⟨fuel, hf⟩ := h
  exact open_pns (by simpa [Value.cells] using hf)
end Go.Proofs.Ytmmaimopombepaa