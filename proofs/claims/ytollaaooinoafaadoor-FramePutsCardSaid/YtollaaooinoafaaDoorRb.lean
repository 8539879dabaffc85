/- A frame that came in: its fields, and that its keys can be read. -/
import Derived.Test.YtollaaooinoafaaDoorSb
import Derived.Test.YtollaaooinoafaaDoorRa
import Derived.Deep.Fields
namespace Go.Proofs.YtollaaooinoafaaDoor
open Go.RowKit Go.ChangeShapes Go.WideShapes Go.Deep
set_option maxRecDepth 100000
theorem cellsFrame : Tryd.prog.cellsOf 25 = 13 := by kernel_rfl
/-- its texts and its kind are Go's -/
structure FrIn (f : Fr) : Prop where
  kind : -9223372036854775808 ≤ f.kind ∧ f.kind ≤ 9223372036854775807
  ident : f.ident.size ≤ maxLen
  base : f.base.size ≤ maxLen
  ratchet : f.ratchet.size ≤ maxLen
  body : f.body.size ≤ maxLen
  keys : ∀ k ∈ f.keys, k.size ≤ maxLen
theorem u64_of (z : Int) (hz : (Lit.int .u64 z).wf = true) : ∃ n : Nat, z = (n : Int) ∧ n < 18446744073709551616 := by
  have e : IntKind.u64.min = 0 := by rfl
  have e2 : IntKind.u64.max = 18446744073709551615 := by rfl
  simp [Lit.wf, e, e2] at hz
  exact ⟨z.toNat, by omega, by omega⟩
theorem open_keys {H : Type} {enc : TypeId × Value → H} {W : World} {base : Nat} {spare : Nat → Bool} {held : Bool} {n : Nat} {v : Value} {y : DataW H × List MemPlace}
    (h : DataW.trod enc Tryd.prog W base spare held n 23 [v] = some y) :
    ∃ (a : Option Addr) (c : Nat) (l : List ByteArray), v = .slice a l.length c ∧ l.length ≤ maxLen ∧ l.length ≤ c ∧ (∀ k ∈ l, k.size ≤ maxLen) ∧ SSl W a l := by
  rcases open_strs Tryd.underlying23 Tryd.underlying9 cellsStr h with ⟨e0, -⟩ | ⟨a, len, cap, m, S, e0, -, hlc, hcm, hmm, -, hi⟩
  · obtain rfl : v = .slice none 0 0 := by simpa using e0
    exact ⟨none, 0, [], rfl, Nat.zero_le _, Nat.le_refl _, fun k hk => (by cases hk), fun h => absurd h (Nat.lt_irrefl 0)⟩
  · obtain rfl : v = .slice (some a) len cap := by simpa using e0
    have hle : len ≤ m := by rw [hmm]; split <;> omega
    refine ⟨some a, cap, (List.range len).map S, by simp, by simp; omega, by simp; exact hlc, fun k hk => ?_, fun hpos => ?_⟩
    · rw [List.mem_map] at hk
      obtain ⟨i, hin, rfl⟩ := hk
      exact (hi i (by have := List.mem_range.1 hin; omega)).2
    · simp only [List.length_map, List.length_range] at hpos
      have hc0 := (hi 0 (by omega)).1
      rw [show a.add 0 = a from rfl] at hc0
      obtain ⟨hap, hab⟩ := cell_plain hc0
      refine ⟨a.block, a.off, by rw [← hap], hab, fun i hin => ?_⟩
      simp only [List.length_map, List.length_range] at hin
      have hci := (hi i (by omega)).1
      have hadd : a.add i = ⟨a.block, a.off + i, none⟩ := by rw [hap]; exact Addr.add_mid _ _ _
      rw [hadd] at hci
      rw [hci]
      simp [List.getD, hin]
theorem fields_of {H : Type} {enc : TypeId × Value → H} {P : Program} {W : World} {base : Nat} {spare : Nat → Bool} {held : Bool} {t : TypeId} {fs : Array Field} {fuel : Nat} {l : List Value} {x : DataW H × List MemPlace}
    (hs : P.underlying t = some (.struct fs)) (hone : oneCellFields P fs = true) (hl : l.length = fs.size) (h : DataW.trod enc P W base spare held fuel t l = some x) :
    ∃ (n : Nat) (Y : Nat → DataW H × List MemPlace), ∀ (i : Nat) (f : Field), fs[i]? = some f → DataW.trod enc P W base spare held n f.type [l.getD i undef] = some (Y i) := by
  obtain ⟨xs, n, -, -, -, hxl, hf⟩ := DataW.trod_struct hs h
  refine ⟨n, fun i => xs.getD i (.nil, []), fun i f hi => ?_⟩
  have hlt : i < fs.size := (Array.getElem?_eq_some_iff.1 hi).1
  obtain ⟨ho, hc1⟩ := hone_of hone i f hi
  have g := hf i f hi
  rw [ho, hc1] at g
  rw [take1_drop l i undef (by omega), List.getElem?_eq_getElem (by omega)] at g
  rw [g]
  simp [List.getD, List.getElem?_eq_getElem (show i < xs.length by omega)]
set_option maxHeartbeats 4000000 in
theorem open_frame {H : Type} {enc : TypeId × Value → H} {W : World} {r : Reach} {b0 base : Nat} {spare : Nat → Bool} {held : Bool} {v : Value} {d : DataW H} {p : List MemPlace}
    (hval : Value.okWide Tryd.prog W r b0 25 v) (h : DataW.Trod enc Tryd.prog W base spare held 25 v d p) :
    ∃ (a : Option Addr) (c : Nat) (f : Fr), v = frV f a c ∧ f.keys.length ≤ maxLen ∧ f.keys.length ≤ c ∧ FrOk f ∧ FrIn f ∧ SSl W a f.keys := by
  obtain ⟨cs, rfl, hsz⟩ := okWide_struct Tryd.underlying25 hval
  rw [cellsFrame] at hsz
  obtain ⟨l⟩ := cs
  obtain ⟨fuel, hf⟩ := h
  clear hval
  match l, hsz with
  | [v0, v1, v2, v3, v4, v5, v6, v7, v8, v9, v10, v11, v12], _ =>
    obtain ⟨n, Y, hfi⟩ := fields_of Tryd.underlying25 (by kernel_rfl) rfl hf
    have h0 : DataW.trod enc Tryd.prog W base spare held n 3 [v0] = some (Y 0) := hfi 0 _ rfl
    have h1 : DataW.trod enc Tryd.prog W base spare held n 22 [v1] = some (Y 1) := hfi 1 _ rfl
    have h2 : DataW.trod enc Tryd.prog W base spare held n 22 [v2] = some (Y 2) := hfi 2 _ rfl
    have h3 : DataW.trod enc Tryd.prog W base spare held n 22 [v3] = some (Y 3) := hfi 3 _ rfl
    have h4 : DataW.trod enc Tryd.prog W base spare held n 9 [v4] = some (Y 4) := hfi 4 _ rfl
    have h5 : DataW.trod enc Tryd.prog W base spare held n 9 [v5] = some (Y 5) := hfi 5 _ rfl
    have h6 : DataW.trod enc Tryd.prog W base spare held n 22 [v6] = some (Y 6) := hfi 6 _ rfl
    have h7 : DataW.trod enc Tryd.prog W base spare held n 22 [v7] = some (Y 7) := hfi 7 _ rfl
    have h8 : DataW.trod enc Tryd.prog W base spare held n 9 [v8] = some (Y 8) := hfi 8 _ rfl
    have h9 : DataW.trod enc Tryd.prog W base spare held n 22 [v9] = some (Y 9) := hfi 9 _ rfl
    have h10 : DataW.trod enc Tryd.prog W base spare held n 22 [v10] = some (Y 10) := hfi 10 _ rfl
    have h11 : DataW.trod enc Tryd.prog W base spare held n 9 [v11] = some (Y 11) := hfi 11 _ rfl
    have h12 : DataW.trod enc Tryd.prog W base spare held n 23 [v12] = some (Y 12) := hfi 12 _ rfl
    clear hfi hf
    obtain ⟨z0, e0, -, hz0⟩ := DataW.trod_int Tryd.underlying3 h0
    obtain rfl : v0 = .int .i64 z0 := by simpa using e0
    obtain ⟨z1, e1, -, hz1⟩ := DataW.trod_int Tryd.underlying22 h1
    obtain rfl : v1 = .int .u64 z1 := by simpa using e1
    obtain ⟨fm, rfl, b1⟩ := u64_of z1 hz1
    obtain ⟨z2, e2, -, hz2⟩ := DataW.trod_int Tryd.underlying22 h2
    obtain rfl : v2 = .int .u64 z2 := by simpa using e2
    obtain ⟨dt, rfl, b2⟩ := u64_of z2 hz2
    obtain ⟨z3, e3, -, hz3⟩ := DataW.trod_int Tryd.underlying22 h3
    obtain rfl : v3 = .int .u64 z3 := by simpa using e3
    obtain ⟨fi, rfl, b3⟩ := u64_of z3 hz3
    obtain ⟨it, e4, -, b4⟩ := DataW.trod_string Tryd.underlying9 h4
    obtain rfl : v4 = .string it := by simpa using e4
    obtain ⟨bs, e5, -, b5⟩ := DataW.trod_string Tryd.underlying9 h5
    obtain rfl : v5 = .string bs := by simpa using e5
    obtain ⟨z6, e6, -, hz6⟩ := DataW.trod_int Tryd.underlying22 h6
    obtain rfl : v6 = .int .u64 z6 := by simpa using e6
    obtain ⟨sg, rfl, b6⟩ := u64_of z6 hz6
    obtain ⟨z7, e7, -, hz7⟩ := DataW.trod_int Tryd.underlying22 h7
    obtain rfl : v7 = .int .u64 z7 := by simpa using e7
    obtain ⟨oc, rfl, b7⟩ := u64_of z7 hz7
    obtain ⟨rt, e8, -, b8⟩ := DataW.trod_string Tryd.underlying9 h8
    obtain rfl : v8 = .string rt := by simpa using e8
    obtain ⟨z9, e9, -, hz9⟩ := DataW.trod_int Tryd.underlying22 h9
    obtain rfl : v9 = .int .u64 z9 := by simpa using e9
    obtain ⟨pv, rfl, b9⟩ := u64_of z9 hz9
    obtain ⟨z10, e10, -, hz10⟩ := DataW.trod_int Tryd.underlying22 h10
    obtain rfl : v10 = .int .u64 z10 := by simpa using e10
    obtain ⟨nm, rfl, b10⟩ := u64_of z10 hz10
    obtain ⟨bd, e11, -, b11⟩ := DataW.trod_string Tryd.underlying9 h11
    obtain rfl : v11 = .string bd := by simpa using e11
    obtain ⟨a, c, ks, rfl, k1, k2, k3, k4⟩ := open_keys h12
    refine ⟨a, c, ⟨z0, fm, dt, fi, it, bs, sg, oc, rt, pv, nm, bd, ks⟩, rfl, k1, k2, ⟨b1, b2, b3, b6, b7, b9, b10⟩, ⟨?_, b4, b5, b8, b11, k3⟩, k4⟩
    have e : IntKind.i64.min = -9223372036854775808 := by rfl
    have e2 : IntKind.i64.max = 9223372036854775807 := by rfl
    simp [Lit.wf, e, e2] at hz0
    exact hz0
end Go.Proofs.YtollaaooinoafaaDoor