/- The texts Xn, Xo, one behind the other. -/
import Derived.Test.YtfkfadcfafbmmaaBg3
import Derived.Test.YtfkfadcfafbmmaaBg2
import Derived.Deep.Strs
import Derived.Lib.SmallJoins
import Derived.Carry
/- The reference 12's Without. -/
namespace Go.Proofs.Ytfkfadcfafbmmaa
open Go.RowKit Go.Sort
set_option maxRecDepth 100000
/-- the first k keys, but for one place -/
def woK (l : List Kk) (i k : Nat) : List Kk := (l.take k).eraseIdx i
theorem woK_step (l : List Kk) (i k : Nat) (hk : k < l.length) (h : k ≠ i) : woK l i (k + 1) = woK l i k ++ [l.getD k k00] := by
  have e : l.getD k k00 = l[k] := by simp [List.getD, hk]
  have ht : (l.take k).length = k := by rw [List.length_take]; omega
  unfold woK
  rw [List.take_succ_eq_append_getElem hk, e]
  by_cases hik : i < k
  · rw [List.eraseIdx_append_of_lt_length (by omega)]
  · rw [List.eraseIdx_of_length_le (by simp; omega), List.eraseIdx_of_length_le (by omega)]
theorem woK_skip (l : List Kk) (k : Nat) (hk : k < l.length) : woK l k (k + 1) = woK l k k := by
  have ht : (l.take k).length = k := by rw [List.length_take]; omega
  unfold woK
  rw [List.take_succ_eq_append_getElem hk, List.eraseIdx_append_of_length_le (by omega), ht, Nat.sub_self, List.eraseIdx_of_length_le (by omega : (l.take k).length ≤ k)]
  simp
theorem woK_length (l : List Kk) (i k : Nat) : (woK l i k).length ≤ l.length := by
  have := List.length_eraseIdx_le (l.take k) i
  unfold woK
  rw [List.length_take] at this; omega
def WoRelK (w : World) (l : List Kk) (i : Nat) (o c : Value) (wr : World) : Prop :=
  ∃ k : Nat, k ≤ l.length ∧ c = .int .i64 (k : Int) ∧ OwnK wr w.heap.size o (woK l i k) ∧ Below w.heap.size w wr
set_option maxHeartbeats 4000000 in
theorem withoutR_any (a : Option Addr) (c : Nat) (l : List Kk) (at' : Nat) (hl : l.length ≤ 1000) (w : World) (hp : KSl w a l) :
    Calls Try.prog 14 #[.slice a l.length c, .int .i64 (at' : Int)] w fun e w' => ∃ v, e = .returned v ∧ OwnK w' w.heap.size v (withoutK l at') ∧ Below w.heap.size w w' := by
  have HP := Lib.hid hp; have HL := Lib.hid hl
  clear hp hl
  go_enter Try.func14, Try.ntmps14
  go_upto_region 3 with fail
  have hO := OwnK.empty w w.heap.size (Nat.le_refl _)
  have hB : Below w.heap.size w (w.alloc (.cells #[] 25)) := by go_grown
  have h0 : woK l at' 0 = [] := by unfold woK; simp
  go_loopw [5, 11] (fun o i wr => WoRelK w l at' o i wr) (fun _ i _ => l.length - (intOf i).toNat)
  case atStart => exact ⟨0, Nat.zero_le _, rfl, by rw [h0]; exact hO, hB⟩
  case round =>
    obtain ⟨k, hk, rfl, hO, hB⟩ := hrel
    by_cases hlt : k < l.length
    · have h1 : (k : Int) < (l.length : Int) := by omega
      have h1k : (k : Int) < 1000 := by have := HL.out; omega
      obtain ⟨g, off, rfl, hbl, hc⟩ := HP.out (by omega)
      have hpt := (hc k hlt).below hB hbl
      have hst := woK_step l at' k hlt
      have hsk := woK_skip l k hlt
      obtain ⟨q, eq⟩ : ∃ q, l.getD k k00 = q := ⟨_, rfl⟩
      rw [eq] at hpt hst
      obtain ⟨x, m, y⟩ := q
      obtain ⟨c0, c1, c2⟩ := hpt
      simp only at c0 c1 c2
      by_cases hki : k = at'
      · have q1 : ((k : Int) != (at' : Int)) = false := by rw [bne_eq_false_iff_eq]; omega
        have HSK := Lib.hid (show woK l at' (k + 1) = woK l at' k by rw [← hki]; exact hsk)
        have hO2 := hO.alloc (.cells #[.string x, .int .u64 (m : Int), .string y] 25)
        have hB2 := below_dnK hB (.cells #[.string x, .int .u64 (m : Int), .string y] 25)
        have HF := Lib.hid (And.intro hO2 hB2)
        clear hO hB hO2 hB2 hst hsk hc eq hbl hki
        go_wp2_with fail
        exact ⟨⟨k + 1, by omega, by simp, by rw [HSK.out]; exact HF.out.1, HF.out.2⟩, by simp [intOf]; omega⟩
      · have q1 : ((k : Int) != (at' : Int)) = true := by rw [bne_iff_ne]; omega
        have HST := Lib.hid (hst hki)
        have hO2 := (hO.alloc (.cells #[.string x, .int .u64 (m : Int), .string y] 25)).alloc (.cells #[.string x, .int .u64 (m : Int), .string y] 25)
        have hB2 := below_dnK (below_dnK hB (.cells #[.string x, .int .u64 (m : Int), .string y] 25)) (.cells #[.string x, .int .u64 (m : Int), .string y] 25)
        have hone := kk_fresh wr ⟨x, m, y⟩
        simp only at hone
        have HO2 := Lib.hid hO2; have HB2 := Lib.hid hB2; have HONE := Lib.hid hone
        clear hO hB hO2 hB2 hone hst hsk hc eq hbl hki
        go_wp2_with (at_builtin; refine append_ks rfl _ _ rfl w.heap.size _ (woK l at' k) (some ⟨wr.heap.size + 1, 0, none⟩) 1 1 [⟨x, m, y⟩] rfl rfl rfl HO2.out HONE.out (by have := HL.out; have := woK_length l at' k; simp; omega) HB2.out.size ?_)
        intro v' w' hO' hg'
        have HF := Lib.hid (And.intro hO' (OwnK.belowS HO2.out HB2.out (Nat.le_refl _) HB2.out.size hg'))
        clear hO' hg' HO2 HB2 HONE c0 c1 c2
        go_wp2_with fail
        exact ⟨⟨k + 1, by omega, by simp, by rw [HST.out]; exact HF.out.1, HF.out.2⟩, by simp [intOf]; omega⟩
    · obtain rfl : k = l.length := by omega
      have hn : ¬ (l.length : Int) < (l.length : Int) := by omega
      have HF := Lib.hid (And.intro (show OwnK wr w.heap.size _ (withoutK l at') by unfold woK at hO; rw [List.take_length] at hO; exact hO) hB)
      clear hO hB
      go_wp2_with fail
      go_ret
      exact ⟨_, rfl, HF.out.1, HF.out.2⟩
end Go.Proofs.Ytfkfadcfafbmmaa

/- Kept keys that came in, a row of them or one: they can be read, and their numbers and texts are Go's. -/
namespace Go.Proofs.Ytfkfadcfafbmmaa
open Go.RowKit Go.ChangeShapes Go.WideShapes Go.Deep
set_option maxRecDepth 100000
structure KkIn (q : Kk) : Prop where
  r : q.r.size ≤ maxLen
  n : q.n < 18446744073709551616
  k : q.k.size ≤ maxLen
def KksIn (l : List Kk) : Prop := ∀ q ∈ l, KkIn q
theorem cellsKept : Try.prog.cellsOf 25 = 3 := by kernel_rfl
theorem cellsStrK : Try.prog.cellsOf 9 = 1 := by kernel_rfl
theorem cellsU64K : Try.prog.cellsOf 23 = 1 := by kernel_rfl
theorem open_kepts {H : Type} {enc : TypeId × Value → H} {W : World} {r : Reach} {b0 base : Nat} {spare : Nat → Bool} {held : Bool} {v : Value} {d : DataW H} {p : List MemPlace}
    (hval : Value.okWide Try.prog W r b0 22 v) (h : DataW.Trod enc Try.prog W base spare held 22 v d p) :
    ∃ (a : Option Addr) (c : Nat) (l : List Kk), v = .slice a l.length c ∧ l.length ≤ maxLen ∧ l.length ≤ c ∧ KksIn l ∧ KSl W a l := by
  obtain ⟨a0, n0, c0, rfl⟩ := okWide_slice Try.underlying22 hval
  obtain ⟨fuel, hf⟩ := h
  have hf' : DataW.trod enc Try.prog W base spare held fuel 22 [.slice a0 n0 c0] = some (d, p) := by simpa [Value.cells] using hf
  rcases open_slice Try.underlying22 hf' with ⟨hcs, -⟩ | ⟨a, len, cap, m, n, D, Pl, hcs, -, hlc, hcm, hmm, -, hi⟩
  · simp only [List.cons.injEq, Value.slice.injEq, and_true] at hcs
    obtain ⟨rfl, rfl, rfl⟩ := hcs
    exact ⟨none, 0, [], rfl, Nat.zero_le _, Nat.le_refl _, fun q hq => (by cases hq), KSl.nil _ _⟩
  · simp only [List.cons.injEq, Value.slice.injEq, and_true] at hcs
    obtain ⟨rfl, rfl, rfl⟩ := hcs
    have hle : n0 ≤ m := by rw [hmm]; split <;> omega
    have each : ∀ i, i < n0 → ∃ q : Kk, KkIn q ∧ W.cell? (a.add (i * 3)) = some (.string q.r) ∧ W.cell? ((a.add (i * 3)).add 1) = some (.int .u64 (q.n : Int)) ∧ W.cell? ((a.add (i * 3)).add 2) = some (.string q.k) := by
      intro i him
      obtain ⟨cs', hc, ht⟩ := hi i (by omega)
      rw [cellsKept] at hc
      obtain ⟨-, hlen, hat⟩ := World.cells?_some hc
      match cs', hlen with
      | [v0, v1, v2], _ =>
        obtain ⟨y0, y1, y2, k, -, -, h0, h1, h2⟩ := trod_struct3 Try.underlying25 ht
        simp only [cellsStrK, cellsU64K, List.drop_zero, List.drop_succ_cons, List.take_succ_cons, List.take_zero] at h0 h1 h2
        obtain ⟨b, e0, -, hb0⟩ := DataW.trod_string Try.underlying9 h0
        obtain ⟨z, e1, -, hz⟩ := DataW.trod_int Try.underlying23 h1
        obtain ⟨x, e2, -, hx⟩ := DataW.trod_string Try.underlying9 h2
        obtain rfl : v0 = .string b := by simpa using e0
        obtain rfl : v1 = .int .u64 z := by simpa using e1
        obtain rfl : v2 = .string x := by simpa using e2
        have hz' : 0 ≤ z ∧ z < 18446744073709551616 := by
          simp [Lit.wf] at hz
          have e : IntKind.u64.max = 18446744073709551615 := by rfl
          have e' : IntKind.u64.min = 0 := by rfl
          omega
        obtain ⟨q, rfl⟩ := Int.eq_ofNat_of_zero_le hz'.1
        have g0 := hat 0 (by omega)
        have g1 := hat 1 (by omega)
        have g2 := hat 2 (by omega)
        rw [show (a.add (i * 3)).add 0 = a.add (i * 3) from rfl] at g0
        exact ⟨⟨b, q, x⟩, ⟨hb0, by show q < _; omega, hx⟩, by simpa using g0, by simpa using g1, by simpa using g2⟩
    haveI : Inhabited Kk := ⟨k00⟩
    obtain ⟨F, hF⟩ := choose_lt each
    have hget : ∀ i, i < n0 → ((List.range n0).map F).getD i k00 = F i := fun i hin => by simp [List.getD, hin]
    refine ⟨some a, c0, (List.range n0).map F, by simp, by simp; omega, by simp; exact hlc, fun q hq => ?_, fun h0 => ?_⟩
    · rw [List.mem_map] at hq
      obtain ⟨i, hin, rfl⟩ := hq
      exact (hF i (List.mem_range.1 hin)).1
    · simp only [List.length_map, List.length_range] at h0
      obtain ⟨-, g0, -, -⟩ := hF 0 h0
      rw [Nat.zero_mul, show a.add 0 = a from rfl] at g0
      obtain ⟨hap, hab⟩ := cell_plain g0
      refine ⟨a.block, a.off, by rw [← hap], hab, fun i hin => ?_⟩
      simp only [List.length_map, List.length_range] at hin
      rw [hget i hin]
      obtain ⟨-, g0, g1, g2⟩ := hF i hin
      have hadd : a.add (i * 3) = ⟨a.block, a.off + i * 3, none⟩ := by rw [hap]; exact Addr.add_mid _ _ _
      rw [hadd] at g0 g1 g2
      rw [Addr.add_mid] at g1 g2
      exact ⟨g0, g1, g2⟩
theorem open_kept {H : Type} {enc : TypeId × Value → H} {W : World} {r : Reach} {b0 : Nat} {spare : Nat → Bool} {v : Value} {d : DataW H} {p : List MemPlace}
    (hval : Value.okWide Try.prog W r b0 25 v) (h : DataW.Trod enc Try.prog W 0 spare true 25 v d p) :
    ∃ q : Kk, v = kkv q ∧ KkIn q := by
  obtain ⟨v0, v1, v2, y0, y1, y2, k, rfl, -, -, h0, h1, h2⟩ := Joins.open_agg3 Try.underlying25 (by kernel_rfl) cellsKept hval h
  obtain ⟨b, e0, -, hb0⟩ := DataW.trod_string Try.underlying9 h0
  obtain ⟨z, e1, -, hz⟩ := DataW.trod_int Try.underlying23 h1
  obtain ⟨x, e2, -, hx⟩ := DataW.trod_string Try.underlying9 h2
  obtain rfl : v0 = .string b := by simpa using e0
  obtain rfl : v1 = .int .u64 z := by simpa using e1
  obtain rfl : v2 = .string x := by simpa using e2
  have hz' : 0 ≤ z ∧ z < 18446744073709551616 := by
    simp [Lit.wf] at hz
    have e : IntKind.u64.max = 18446744073709551615 := by rfl
    have e' : IntKind.u64.min = 0 := by rfl
    omega
  obtain ⟨q, rfl⟩ := Int.eq_ofNat_of_zero_le hz'.1
  exact ⟨⟨b, q, x⟩, rfl, hb0, by show q < _; omega, hx⟩
end Go.Proofs.Ytfkfadcfafbmmaa
