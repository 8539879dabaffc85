/- A sum on its way that came in: its parts, and that its words can be read. -/
import Derived.Test.YtolobdeilfgmnaaDoorDsame
import Derived.Test.YtolobdeilfgmnaaDoorKa
import Derived.Lib.SmallJoins
import Derived.Carry
namespace Go.Proofs.YtolobdeilfgmnaaDoor
open Go.RowKit Go.ChangeShapes Go.WideShapes
set_option maxRecDepth 100000
theorem cellsHash : Tryd.prog.cellsOf 72 = 3 := by kernel_rfl
theorem cellsU32 : Tryd.prog.cellsOf 63 = 1 := by kernel_rfl

theorem open_hash {H : Type} {enc : TypeId × Value → H} {W : World} {r : Reach} {b0 : Nat} {spare : Nat → Bool} {v : Value} {d : DataW H} {p : List MemPlace}
    (hval : Value.okWide Tryd.prog W r b0 72 v) (h : DataW.Trod enc Tryd.prog W 0 spare true 72 v d p) :
    ∃ (a : Option Addr) (n c : Nat) (x : ByteArray) (m : Nat) (l : List (BitVec 32)), v = .agg #[.slice a n c, .string x, .int .u64 (m : Int)] ∧ x.size ≤ maxLen ∧ n ≤ maxLen ∧ n ≤ c ∧ (a = none → n = 0 ∧ c = 0) ∧ m < 18446744073709551616 ∧ WSl W a n l := by
  obtain ⟨v0, v1, v2, y0, y1, y2, k, rfl, -, -, h0, h1, h2⟩ := Joins.open_agg3 Tryd.underlying72 (by kernel_rfl) cellsHash hval h
  obtain ⟨x, e1, -, hx⟩ := DataW.trod_string Tryd.underlying9 h1
  obtain ⟨z, e2, -, hz⟩ := DataW.trod_int Tryd.underlying70 h2
  obtain rfl : v1 = .string x := by simpa using e1
  obtain rfl : v2 = .int .u64 z := by simpa using e2
  have hz' : 0 ≤ z ∧ z < 18446744073709551616 := by
    simp [Lit.wf] at hz
    have e : IntKind.u64.max = 18446744073709551615 := by rfl
    have e' : IntKind.u64.min = 0 := by rfl
    omega
  obtain ⟨m, rfl⟩ := Int.eq_ofNat_of_zero_le hz'.1
  rcases ChangeShapes.open_ints Tryd.underlying27 Tryd.underlying63 cellsU32 h0 with ⟨e0, -⟩ | ⟨a, len, cap, zs, e0, -, hlc, hcm, hzl, -, hc, hw⟩
  · obtain rfl : v0 = .slice none 0 0 := by simpa using e0
    exact ⟨none, 0, 0, x, m, [], rfl, hx, Nat.zero_le _, Nat.le_refl _, fun _ => ⟨rfl, rfl⟩, by omega, rfl, fun h => absurd h (Nat.lt_irrefl 0)⟩
  · obtain rfl : v0 = .slice (some a) len cap := by simpa using e0
    have hzlen : len ≤ zs.length := by rw [hzl]; split <;> omega
    refine ⟨some a, len, cap, x, m, (zs.take len).map (BitVec.ofInt 32), rfl, hx, Nat.le_trans hlc hcm, hlc, fun h => by (cases h), by omega, by simp; omega, fun hpos => ?_⟩
    have hc0 := hc 0 (by omega)
    rw [show a.add 0 = a from rfl] at hc0
    obtain ⟨hap, hab⟩ := cell_plain hc0
    refine ⟨a.block, a.off, by rw [← hap], hab, fun i hi => ?_⟩
    have hci := hc i (by omega)
    have hadd : a.add i = ⟨a.block, a.off + i, none⟩ := by
      rw [hap]; exact Addr.add_mid _ _ _
    rw [hadd] at hci
    rw [hci]
    have hi' : i < zs.length := by omega
    have hwi := hw (zs.getD i 0) (by
      rw [List.getD_eq_getElem?_getD, List.getElem?_eq_getElem hi', Option.getD_some]
      exact List.getElem_mem hi')
    have hb : 0 ≤ zs.getD i 0 ∧ zs.getD i 0 < 4294967296 := by
      simp only [Lit.wf] at hwi
      have e : IntKind.u32.max = 4294967295 := by rfl
      have e' : IntKind.u32.min = 0 := by rfl
      simp [e, e'] at hwi
      simp only [List.getD_eq_getElem?_getD]
      omega
    obtain ⟨q, hq⟩ := Int.eq_ofNat_of_zero_le hb.1
    have hl : ((zs.take len).map (BitVec.ofInt 32)).getD i 0 = BitVec.ofNat 32 q := by
      rw [List.getD_eq_getElem?_getD, List.getElem?_map, List.getElem?_take, if_pos (by omega), List.getElem?_eq_getElem hi']
      rw [List.getD_eq_getElem?_getD, List.getElem?_eq_getElem hi', Option.getD_some] at hq
      simp [hq]
    rw [hl, hq, BitVec.toNat_ofNat, Nat.mod_eq_of_lt (by omega)]
end Go.Proofs.YtolobdeilfgmnaaDoor