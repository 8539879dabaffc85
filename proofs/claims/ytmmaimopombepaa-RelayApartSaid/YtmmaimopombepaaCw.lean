/- Relays that came in: they can be read. -/
import Derived.Test.YtmmaimopombepaaCb
import Derived.Test.YtmmaimopombepaaAo
import Derived.ChangeSame
import Derived.Lib.SmallJoins
namespace Go.Proofs.Ytmmaimopombepaa
open Go.RowKit Go.ChangeShapes Go.WideShapes Go.Deep
set_option maxRecDepth 100000

theorem cellsMlC : Try.prog.cellsOf 82 = 3 := by kernel_rfl
theorem cellsBxC : Try.prog.cellsOf 101 = 2 := by kernel_rfl
theorem cellsRlC : Try.prog.cellsOf 56 = 3 := by kernel_rfl
theorem cellsStrC : Try.prog.cellsOf 9 = 1 := by kernel_rfl
theorem cellsU64C : Try.prog.cellsOf 23 = 1 := by kernel_rfl
theorem cellsMlsC : Try.prog.cellsOf 65 = 1 := by kernel_rfl
theorem cellsBxsC : Try.prog.cellsOf 54 = 1 := by kernel_rfl
theorem u64_natC (z : Int) (hz : (Lit.int .u64 z).wf = true) : ∃ n : Nat, z = (n : Int) ∧ n < 18446744073709551616 := by
  have e : IntKind.u64.min = 0 := by rfl
  have e2 : IntKind.u64.max = 18446744073709551615 := by rfl
  simp [Lit.wf, e, e2] at hz
  exact ⟨z.toNat, by omega, by omega⟩
theorem open_ml {H : Type} {enc : TypeId × Value → H} {W : World} {base : Nat} {spare : Nat → Bool} {held : Bool} {n : Nat} {v0 v1 v2 : Value} {z : DataW H × List MemPlace}
    (h : DataW.trod enc Try.prog W base spare held n 82 [v0, v1, v2] = some z) : ∃ p : Ml, v0 = .int .u64 (p.id : Int) ∧ v1 = .string p.b ∧ v2 = .int .u64 (p.born : Int) := by
  obtain ⟨y0, y1, y2, k, -, -, h0, h1, h2⟩ := trod_struct3 Try.underlying82 h
  simp only [cellsStrC, cellsU64C, List.drop_zero, List.drop_succ_cons, List.take_succ_cons, List.take_zero] at h0 h1 h2
  obtain ⟨q, e0, -, hz⟩ := DataW.trod_int Try.underlying23 h0
  obtain ⟨x, e1, -, hx⟩ := DataW.trod_string Try.underlying9 h1
  obtain ⟨q2, e2, -, hz2⟩ := DataW.trod_int Try.underlying23 h2
  obtain rfl : v0 = .int .u64 q := by simpa using e0
  obtain rfl : v1 = .string x := by simpa using e1
  obtain rfl : v2 = .int .u64 q2 := by simpa using e2
  obtain ⟨m, rfl, hm⟩ := u64_natC q hz
  obtain ⟨m2, rfl, hm2⟩ := u64_natC q2 hz2
  exact ⟨⟨m, x, m2⟩, rfl, rfl, rfl⟩
theorem open_mls {H : Type} {enc : TypeId × Value → H} {W : World} {base : Nat} {spare : Nat → Bool} {held : Bool} {n1 : Nat} {v : Value} {y : DataW H × List MemPlace}
    (hf : DataW.trod enc Try.prog W base spare held n1 65 [v] = some y) :
    ∃ (a : Option Addr) (c : Nat) (l : List Ml), v = .slice a l.length c ∧ l.length ≤ maxLen ∧ PM W a c l := by
  obtain ⟨a, c, l, rfl, h1, h2, h3, h4, -⟩ := open_rows eMl Try.underlying65 cellsMlC hf (fun _ => True) (fun n cs z hl hz => by
    match cs, hl with
    | [v0, v1, v2], _ =>
      obtain ⟨p, rfl, rfl, rfl⟩ := open_ml hz
      exact ⟨p, rfl, trivial⟩)
  exact ⟨a, c, l, rfl, h1, ⟨h3, h2, h4⟩⟩
theorem open_bxs {H : Type} {enc : TypeId × Value → H} {W : World} {base : Nat} {spare : Nat → Bool} {held : Bool} {n1 : Nat} {v : Value} {y : DataW H × List MemPlace}
    (hf : DataW.trod enc Try.prog W base spare held n1 54 [v] = some y) :
    ∃ (a : Option Addr) (c : Nat) (L : List BxM), v = .slice a L.length c ∧ L.length ≤ maxLen ∧ (∀ m ∈ L, m.s.ml.length ≤ maxLen) ∧ SB W a c L := by
  obtain ⟨a, c, l, e, h1, h2, h3, h4, h5⟩ := open_rows eBx Try.underlying54 cellsBxC hf (fun m => PM W m.a m.c m.s.ml ∧ m.s.ml.length ≤ maxLen) (fun n cs z hl hz => by
    match cs, hl with
    | [v0, v1], _ =>
      obtain ⟨y0, y1, k, -, -, g0, g1⟩ := trod_struct2 Try.underlying101 hz
      simp only [cellsU64C, cellsMlsC, List.drop_zero, List.drop_succ_cons, List.take_succ_cons, List.take_zero] at g0 g1
      obtain ⟨q, e0, -, hq⟩ := DataW.trod_int Try.underlying23 g0
      obtain rfl : v0 = .int .u64 q := by simpa using e0
      obtain ⟨m, rfl, hm⟩ := u64_natC q hq
      obtain ⟨a, c, l, rfl, hl, hp⟩ := open_mls g1
      exact ⟨⟨⟨m, l⟩, a, c⟩, rfl, hp, hl⟩)
  exact ⟨a, c, l, e, h1, fun m hm => (h5 m hm).2, ⟨h3, fun m hm => (h5 m hm).1, h2, h4⟩⟩
theorem open_relay {H : Type} {enc : TypeId × Value → H} {W : World} {r : Reach} {b0 : Nat} {spare : Nat → Bool} {v : Value} {d : DataW H} {p : List MemPlace}
    (hval : Value.okWide Try.prog W r b0 56 v) (h : DataW.Trod enc Try.prog W 0 spare true 56 v d p) :
    ∃ (a : Option Addr) (c : Nat) (L : List BxM) (now next : Nat), v = .agg #[.slice a L.length c, .int .u64 (now : Int), .int .u64 (next : Int)] ∧ now < 18446744073709551616 ∧ next < 18446744073709551616 ∧ L.length ≤ maxLen ∧ (∀ m ∈ L, m.s.ml.length ≤ maxLen) ∧ SB W a c L := by
  obtain ⟨v0, v1, v2, y0, y1, y2, k, rfl, -, -, h0, h1, h2⟩ := Joins.open_agg3 Try.underlying56 (by kernel_rfl) cellsRlC hval h
  obtain ⟨q1, e1, -, hz1⟩ := DataW.trod_int Try.underlying23 h1
  obtain ⟨q2, e2, -, hz2⟩ := DataW.trod_int Try.underlying23 h2
  obtain rfl : v1 = .int .u64 q1 := by simpa using e1
  obtain rfl : v2 = .int .u64 q2 := by simpa using e2
  obtain ⟨m1, rfl, hm1⟩ := u64_natC q1 hz1
  obtain ⟨m2, rfl, hm2⟩ := u64_natC q2 hz2
  obtain ⟨a, c, L, rfl, hl, hm, hs⟩ := open_bxs h0
  exact ⟨a, c, L, m1, m2, rfl, hm1, hm2, hl, hm, hs⟩
end Go.Proofs.Ytmmaimopombepaa
