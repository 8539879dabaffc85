/- The package reveal's coveredBy: the first key that covers. -/
import Derived.Test.YtdnjieffbgmagaaDoorZa
import Derived.Test.YtdnjieffbgmagaaDoorBg10
import Derived.Test.YtdnjieffbgmagaaDoorBg13
import Derived.BigQuiet
namespace Go.Proofs.YtdnjieffbgmagaaDoor
open Go.RowKit Go.Sort
set_option maxRecDepth 100000

theorem str_eqZ (A y : ByteArray) : (A.toList == y.toList) = decide (A = y) := by
  by_cases h : A = y
  · subst h; simp
  · have h2 : A.toList ≠ y.toList := fun e => h ((tl_eq A y).mp e)
    simp [h, h2]
def CovRel (w : World) (h x y : ByteArray) (l : List ByteArray) (o i : Value) (wr : World) : Prop :=
  ∃ k : Nat, k ≤ l.length ∧ o = .string ⟨#[]⟩ ∧ i = .int .i64 (k : Int) ∧ firstK h x y (l.drop k) = firstK h x y l ∧ Below w.heap.size w wr ∧ BlkV wr w.heap.size 64 [.string h, .string x, .string y]
set_option maxHeartbeats 4000000 in
theorem coveredBy_any (h x y : ByteArray) (hh : h.size ≤ 1024) (hx : x.size ≤ 1024) (a : Option Addr) (c : Nat) (l : List ByteArray) (hl : l.length ≤ 1000) (w : World) (hF : FirstAt w) (hK : KeysAt w) (hp : SSl w a l) :
    Calls Tryd.prog 31 #[.agg #[.string h, .string x, .string y], .slice a l.length c] w fun e w' => e = .returned (.tuple #[.string (firstK h x y l), .bool (!decide ((firstK h x y l).size = 0))]) ∧ Below w.heap.size w w' := by
  have hB0 : Below w.heap.size w (w.alloc (.cells #[.string h, .string x, .string y] 64)) := (Below.refl _ _).alloc (Nat.le_refl _) _
  have hX0 : BlkV (w.alloc (.cells #[.string h, .string x, .string y] 64)) w.heap.size 64 [.string h, .string x, .string y] := BlkV.fresh _ _ _ _ rfl _ rfl
  have hG := fun (k : ByteArray) (hk : k.size = 32) (W : World) (hW : Below w.heap.size w W) => Again_good k h x hk hh hx W (hF.on hW) (hK.on hW)
  have hN := fun (k : ByteArray) (hk : ¬ k.size = 32) (W : World) => Again_bad k h x (fun e => hk e.1) W
  have HB0 := Lib.hid hB0; have HX0 := Lib.hid hX0; have HG := Lib.hid hG; have HN := Lib.hid hN; have HP := Lib.hid hp; have HL := Lib.hid hl
  clear hB0 hX0 hG hN hh hx hF hK hp hl
  go_enter Tryd.func31, Tryd.ntmps31
  go_wp2
  go_step3
  go_wp2
  go_step3
  go_wp2
  go_loopw [6, 13] (CovRel w h x y l) (fun _ i _ => l.length - (intOf i).toNat)
  case atStart => exact ⟨0, Nat.zero_le _, rfl, rfl, by rw [List.drop_zero], HB0.out, HX0.out⟩
  case round =>
    obtain ⟨k, hk, rfl, rfl, hfk, hB, hX⟩ := hrel
    by_cases hlt : k < l.length
    · have h1 : (k : Int) < (l.length : Int) := by omega
      have h1k : (k : Int) < 1000 := by have := HL.out; omega
      obtain ⟨b, off, rfl, hbl, hc⟩ := HP.out (by omega)
      have hcell : wr.cell? ⟨b, off + k, none⟩ = some (.string (l.getD k ⟨#[]⟩)) := by rw [hB.cell (p := ⟨b, off + k, none⟩) hbl]; exact hc k hlt
      have d0 : wr.cell? ⟨w.heap.size, 0, none⟩ = some (.string h) := hX.cell 0 _ rfl
      have d1 : wr.cell? ⟨w.heap.size, 1, none⟩ = some (.string x) := hX.cell 1 _ rfl
      have hyes := firstK_yes h x y l k hlt
      have hno := firstK_no h x y l k hlt
      obtain ⟨q, eq⟩ : ∃ q, l.getD k ⟨#[]⟩ = q := ⟨_, rfl⟩
      rw [eq] at hcell hyes hno
      have HB := Lib.hid hB; have HX := Lib.hid hX
      clear hc eq hbl hB hX
      by_cases hq : q.size = 32
      case neg =>
        have HC := Lib.hid (HN.out q hq wr)
        have HFK := Lib.hid ((hno (fun e => hq e.1)).symm.trans hfk)
        clear hyes hno hfk hq
        go_wp2_with fail
        refine HC.out.mono ?_
        rintro e w1 ⟨rfl, rfl⟩
        clear HC
        go_wp2_with fail
        exact ⟨⟨k + 1, by omega, rfl, by simp, HFK.out, HB.out, HX.out⟩, by simp [intOf]; omega⟩
      case pos =>
        have HC := Lib.hid (HG.out q hq wr HB.out)
        by_cases hy : againS q h x = y
        case pos =>
          have HFK := Lib.hid ((hyes hq hy).symm.trans hfk)
          have hqn : (q.toList == []) = false := by rw [str_nil, decide_eq_false (by omega)]
          have HQ := Lib.hid hq
          obtain ⟨A, eA⟩ : ∃ A, strL (againL (bl q) (bl h) (bl x)) = A := ⟨_, rfl⟩
          have hA : againS q h x = A := eA
          rw [hA] at hy
          rw [eA] at HC
          have hcmp : (A.toList == y.toList) = true := by rw [str_eqZ, decide_eq_true hy]
          clear hyes hno hfk hq hA eA hy
          go_wp2_with fail
          refine HC.out.mono ?_
          rintro e w1 ⟨rfl, hb⟩
          have d2 : w1.cell? ⟨w.heap.size, 2, none⟩ = some (.string y) := (HX.out.on hb).cell 2 _ rfl
          have HB1 := Lib.hid (HB.out.trans (hb.mono HB.out.size))
          clear HC HB HX d0 d1 hb
          go_wp2_with fail
          rw [Exit.noGoto_ret]
          go_ret2
          rw [HFK.out]
          refine ⟨?_, HB1.out⟩
          rw [← HFK.out, decide_eq_false (show ¬ q.size = 0 by have := HQ.out; omega)]
          rfl
        case neg =>
          have HFK := Lib.hid ((hno (fun e => hy e.2)).symm.trans hfk)
          obtain ⟨A, eA⟩ : ∃ A, strL (againL (bl q) (bl h) (bl x)) = A := ⟨_, rfl⟩
          have hA : againS q h x = A := eA
          rw [hA] at hy
          rw [eA] at HC
          have hcmp : (A.toList == y.toList) = false := by rw [str_eqZ, decide_eq_false hy]
          clear hyes hno hfk hq hA eA hy
          go_wp2_with fail
          refine HC.out.mono ?_
          rintro e w1 ⟨rfl, hb⟩
          have hX1 := HX.out.on hb
          have d2 : w1.cell? ⟨w.heap.size, 2, none⟩ = some (.string y) := hX1.cell 2 _ rfl
          have HB1 := Lib.hid (HB.out.trans (hb.mono HB.out.size))
          have HX1 := Lib.hid hX1
          clear HC HB HX d0 d1 hb hX1
          go_wp2_with fail
          exact ⟨⟨k + 1, by omega, rfl, by simp, HFK.out, HB1.out, HX1.out⟩, by simp [intOf]; omega⟩
    · obtain rfl : k = l.length := by omega
      have hn : ¬ (l.length : Int) < (l.length : Int) := by omega
      have HFK := Lib.hid ((firstK_end h x y l).symm.trans hfk)
      have HB := Lib.hid hB
      clear hfk hB hX
      go_wp2_with fail
      go_ret2
      rw [← HFK.out]
      exact ⟨rfl, HB.out⟩
end Go.Proofs.YtdnjieffbgmagaaDoor
