/- relay: the filters that there are. -/
import Derived.Test.YtmmaimopombepaaCd
namespace Go.Proofs.Ytmmaimopombepaa
open Go.RowKit
set_option maxRecDepth 100000

set_option maxHeartbeats 2000000 in
theorem but1_any (x : Flt) (B u : Nat) (m : Ml) (w : World) (hx : IsF w x) (hB : w.cell? ⟨B, 0, none⟩ = some (flV x)) :
    Calls Try.prog 104 #[.int .u64 (u : Int), .agg #[.int .u64 (m.id : Int), .string m.b, .int .u64 (m.born : Int)], .pointer (some ⟨B, 0, none⟩)] w fun e w' => e = .returned (.bool (!x.p u m)) ∧ Below w.heap.size w w' := by
  have hb : Below w.heap.size w (w.alloc (.cells #[.int .u64 (m.id : Int), .string m.b, .int .u64 (m.born : Int)] 82)) := (Below.refl _ w).alloc (Nat.le_refl _) _
  have hcf := hx.1
  have HC := Lib.hid (hx.2 _ hb u m)
  have c0 := (hb.cell (p := ⟨B, 0, none⟩) (block_lt_of_cell hB)).trans hB
  unfold flV at c0
  obtain ⟨r, er⟩ : ∃ r, x.p u m = r := ⟨_, rfl⟩
  rw [er] at HC ⊢
  have HB := Lib.hid hb
  clear hx hB er hb
  go_enter Try.func104, Try.ntmps104
  go_wp2_with fail
  refine HC.out.mono ?_
  rintro e w2 ⟨rfl, hb2⟩
  go_wp2_with fail
  go_ret
  exact ⟨rfl, HB.out.trans (hb2.mono HB.out.size)⟩
theorem run_store_fnU {P : Program} (w : World) (a : Addr) (m : Mode) (f : Fn) (x y : Array Value) : (store a (.func f x y) m).run P w = stored P w a (.func f x y) m := run_store P w a _ m rfl
attribute [local go_sem] run_store_fnU in
theorem but_any (a : Option Addr) (c : Nat) (L : List Flt) (w : World) (h : FS w a c L) :
    Calls Try.prog 82 #[.slice a L.length c] w fun e w' => ∃ B : Nat, e = .returned (.func (.func 104) #[] #[.pointer (some ⟨B, 0, none⟩)]) ∧ IsF w' ⟨104, B, fun u m => !allP L u m⟩ ∧ Below w.heap.size w w' := by
  have HA := Lib.hid (all_any a c L w h)
  clear h
  go_enter Try.func82, Try.ntmps82
  go_wp2_with fail
  refine HA.out.mono ?_
  rintro e w1 ⟨B, rfl, hf, hb⟩
  have hb2 : Below w1.heap.size w1 (w1.alloc (.cells #[.func (.func 116) #[] #[.pointer (some ⟨B, 0, none⟩)]] 106)) := (Below.refl _ w1).alloc (Nat.le_refl _) _
  have hc : (w1.alloc (.cells #[.func (.func 116) #[] #[.pointer (some ⟨B, 0, none⟩)]] 106)).cell? ⟨w1.heap.size, 0, none⟩ = some (flV ⟨116, B, allP L⟩) := by rw [cell_of_row _ _ _ _ _ _ (heap_alloc_new w1 _)]; rfl
  have HZ := Lib.hid (And.intro hf (And.intro hb (And.intro hb2 hc)))
  clear hf hb hb2 hc HA
  go_wp2_with fail
  go_ret
  refine ⟨w1.heap.size, rfl, ⟨cf_but1, fun W hW u m => but1_any ⟨116, B, allP L⟩ w1.heap.size u m W ((HZ.out.1.on HZ.out.2.2.1).on hW) ?_⟩, HZ.out.2.1.trans (HZ.out.2.2.1.mono HZ.out.2.1.size)⟩
  exact (hW.cell (p := ⟨w1.heap.size, 0, none⟩) (block_lt_of_cell HZ.out.2.2.2)).trans HZ.out.2.2.2
theorem of1_any (user B u : Nat) (m : Ml) (w : World) (hB : w.cell? ⟨B, 0, none⟩ = some (.int .u64 (user : Int))) :
    Calls Try.prog 102 #[.int .u64 (u : Int), .agg #[.int .u64 (m.id : Int), .string m.b, .int .u64 (m.born : Int)], .pointer (some ⟨B, 0, none⟩)] w fun e w' => e = .returned (.bool (decide (u = user))) ∧ Below w.heap.size w w' := by
  have hb : Below w.heap.size w (w.alloc (.cells #[.int .u64 (m.id : Int), .string m.b, .int .u64 (m.born : Int)] 82)) := (Below.refl _ w).alloc (Nat.le_refl _) _
  have c0 := (hb.cell (p := ⟨B, 0, none⟩) (block_lt_of_cell hB)).trans hB
  have q := nat_eqC u user
  clear hB
  go_enter Try.func102, Try.ntmps102
  go_wp2_with fail
  go_ret
  exact ⟨by first | rfl | simp, hb⟩
theorem of_any (user : Nat) (w : World) :
    Calls Try.prog 80 #[.int .u64 (user : Int)] w fun e w' => ∃ B : Nat, e = .returned (.func (.func 102) #[] #[.pointer (some ⟨B, 0, none⟩)]) ∧ IsF w' ⟨102, B, fun u _m => decide (u = user)⟩ ∧ Below w.heap.size w w' := by
  have hb : Below w.heap.size w (w.alloc (.cells #[.int .u64 (user : Int)] 23)) := (Below.refl _ w).alloc (Nat.le_refl _) _
  have hc : (w.alloc (.cells #[.int .u64 (user : Int)] 23)).cell? ⟨w.heap.size, 0, none⟩ = some (.int .u64 (user : Int)) := by rw [cell_of_row _ _ _ _ _ _ (heap_alloc_new w _)]; rfl
  have HZ := Lib.hid (And.intro hb hc)
  clear hb hc
  go_enter Try.func80, Try.ntmps80
  go_wp2_with fail
  go_ret
  refine ⟨w.heap.size, rfl, ⟨cf_of1, fun W hW u m => of1_any user w.heap.size u m W ?_⟩, HZ.out.1⟩
  exact (hW.cell (p := ⟨w.heap.size, 0, none⟩) (block_lt_of_cell HZ.out.2)).trans HZ.out.2
theorem below1_any (user B u : Nat) (m : Ml) (w : World) (hB : w.cell? ⟨B, 0, none⟩ = some (.int .u64 (user : Int))) :
    Calls Try.prog 97 #[.int .u64 (u : Int), .agg #[.int .u64 (m.id : Int), .string m.b, .int .u64 (m.born : Int)], .pointer (some ⟨B, 0, none⟩)] w fun e w' => e = .returned (.bool (decide (u < user))) ∧ Below w.heap.size w w' := by
  have hb : Below w.heap.size w (w.alloc (.cells #[.int .u64 (m.id : Int), .string m.b, .int .u64 (m.born : Int)] 82)) := (Below.refl _ w).alloc (Nat.le_refl _) _
  have c0 := (hb.cell (p := ⟨B, 0, none⟩) (block_lt_of_cell hB)).trans hB
  obtain ⟨r, er⟩ : ∃ r, decide (u < user) = r := ⟨_, rfl⟩
  have q : decide ((u : Int) < (user : Int)) = r := by rw [← er]; by_cases h : u < user
                                                       · rw [decide_eq_true h, decide_eq_true (by omega)]
                                                       · rw [decide_eq_false h, decide_eq_false (by omega)]
  rw [er]
  clear hB
  go_enter Try.func97, Try.ntmps97
  go_wp2_with fail
  go_ret
  exact ⟨by first | rfl | simp, hb⟩
theorem below_any (user : Nat) (w : World) :
    Calls Try.prog 72 #[.int .u64 (user : Int)] w fun e w' => ∃ B : Nat, e = .returned (.func (.func 97) #[] #[.pointer (some ⟨B, 0, none⟩)]) ∧ IsF w' ⟨97, B, fun u _m => decide (u < user)⟩ ∧ Below w.heap.size w w' := by
  have hb : Below w.heap.size w (w.alloc (.cells #[.int .u64 (user : Int)] 23)) := (Below.refl _ w).alloc (Nat.le_refl _) _
  have hc : (w.alloc (.cells #[.int .u64 (user : Int)] 23)).cell? ⟨w.heap.size, 0, none⟩ = some (.int .u64 (user : Int)) := by rw [cell_of_row _ _ _ _ _ _ (heap_alloc_new w _)]; rfl
  have HZ := Lib.hid (And.intro hb hc)
  clear hb hc
  go_enter Try.func72, Try.ntmps72
  go_wp2_with fail
  go_ret
  refine ⟨w.heap.size, rfl, ⟨cf_below1, fun W hW u m => below1_any user w.heap.size u m W ?_⟩, HZ.out.1⟩
  exact (hW.cell (p := ⟨w.heap.size, 0, none⟩) (block_lt_of_cell HZ.out.2)).trans HZ.out.2
theorem above1_any (user B u : Nat) (m : Ml) (w : World) (hB : w.cell? ⟨B, 0, none⟩ = some (.int .u64 (user : Int))) :
    Calls Try.prog 98 #[.int .u64 (u : Int), .agg #[.int .u64 (m.id : Int), .string m.b, .int .u64 (m.born : Int)], .pointer (some ⟨B, 0, none⟩)] w fun e w' => e = .returned (.bool (decide (user < u))) ∧ Below w.heap.size w w' := by
  have hb : Below w.heap.size w (w.alloc (.cells #[.int .u64 (m.id : Int), .string m.b, .int .u64 (m.born : Int)] 82)) := (Below.refl _ w).alloc (Nat.le_refl _) _
  have c0 := (hb.cell (p := ⟨B, 0, none⟩) (block_lt_of_cell hB)).trans hB
  obtain ⟨r, er⟩ : ∃ r, decide (user < u) = r := ⟨_, rfl⟩
  have q : decide ((u : Int) > (user : Int)) = r := by rw [← er]; by_cases h : user < u
                                                       · rw [decide_eq_true h, decide_eq_true (by omega)]
                                                       · rw [decide_eq_false h, decide_eq_false (by omega)]
  rw [er]
  clear hB
  go_enter Try.func98, Try.ntmps98
  go_wp2_with fail
  go_ret
  exact ⟨by first | rfl | simp, hb⟩
theorem above_any (user : Nat) (w : World) :
    Calls Try.prog 73 #[.int .u64 (user : Int)] w fun e w' => ∃ B : Nat, e = .returned (.func (.func 98) #[] #[.pointer (some ⟨B, 0, none⟩)]) ∧ IsF w' ⟨98, B, fun u _m => decide (user < u)⟩ ∧ Below w.heap.size w w' := by
  have hb : Below w.heap.size w (w.alloc (.cells #[.int .u64 (user : Int)] 23)) := (Below.refl _ w).alloc (Nat.le_refl _) _
  have hc : (w.alloc (.cells #[.int .u64 (user : Int)] 23)).cell? ⟨w.heap.size, 0, none⟩ = some (.int .u64 (user : Int)) := by rw [cell_of_row _ _ _ _ _ _ (heap_alloc_new w _)]; rfl
  have HZ := Lib.hid (And.intro hb hc)
  clear hb hc
  go_enter Try.func73, Try.ntmps73
  go_wp2_with fail
  go_ret
  refine ⟨w.heap.size, rfl, ⟨cf_above1, fun W hW u m => above1_any user w.heap.size u m W ?_⟩, HZ.out.1⟩
  exact (hW.cell (p := ⟨w.heap.size, 0, none⟩) (block_lt_of_cell HZ.out.2)).trans HZ.out.2
theorem numbered1_any (n B u : Nat) (m : Ml) (w : World) (hB : w.cell? ⟨B, 0, none⟩ = some (.int .u64 (n : Int))) :
    Calls Try.prog 103 #[.int .u64 (u : Int), .agg #[.int .u64 (m.id : Int), .string m.b, .int .u64 (m.born : Int)], .pointer (some ⟨B, 0, none⟩)] w fun e w' => e = .returned (.bool (decide (m.id = n))) ∧ Below w.heap.size w w' := by
  have hb : Below w.heap.size w (w.alloc (.cells #[.int .u64 (m.id : Int), .string m.b, .int .u64 (m.born : Int)] 82)) := (Below.refl _ w).alloc (Nat.le_refl _) _
  have c0 := (hb.cell (p := ⟨B, 0, none⟩) (block_lt_of_cell hB)).trans hB
  have q := nat_eqC m.id n
  clear hB
  go_enter Try.func103, Try.ntmps103
  go_wp2_with fail
  go_ret
  exact ⟨by first | rfl | simp, hb⟩
theorem numbered_any (n : Nat) (w : World) :
    Calls Try.prog 81 #[.int .u64 (n : Int)] w fun e w' => ∃ B : Nat, e = .returned (.func (.func 103) #[] #[.pointer (some ⟨B, 0, none⟩)]) ∧ IsF w' ⟨103, B, fun _u m => decide (m.id = n)⟩ ∧ Below w.heap.size w w' := by
  have hb : Below w.heap.size w (w.alloc (.cells #[.int .u64 (n : Int)] 23)) := (Below.refl _ w).alloc (Nat.le_refl _) _
  have hc : (w.alloc (.cells #[.int .u64 (n : Int)] 23)).cell? ⟨w.heap.size, 0, none⟩ = some (.int .u64 (n : Int)) := by rw [cell_of_row _ _ _ _ _ _ (heap_alloc_new w _)]; rfl
  have HZ := Lib.hid (And.intro hb hc)
  clear hb hc
  go_enter Try.func81, Try.ntmps81
  go_wp2_with fail
  go_ret
  refine ⟨w.heap.size, rfl, ⟨cf_num1, fun W hW u m => numbered1_any n w.heap.size u m W ?_⟩, HZ.out.1⟩
  exact (hW.cell (p := ⟨w.heap.size, 0, none⟩) (block_lt_of_cell HZ.out.2)).trans HZ.out.2
theorem youngAt1_any (now B u : Nat) (m : Ml) (w : World) (hB : w.cell? ⟨B, 0, none⟩ = some (.int .u64 (now : Int))) :
    Calls Try.prog 105 #[.int .u64 (u : Int), .agg #[.int .u64 (m.id : Int), .string m.b, .int .u64 (m.born : Int)], .pointer (some ⟨B, 0, none⟩)] w fun e w' => e = .returned (.bool (youngB now m)) ∧ Below w.heap.size w w' := by
  have hb : Below w.heap.size w (w.alloc (.cells #[.int .u64 (m.id : Int), .string m.b, .int .u64 (m.born : Int)] 82)) := (Below.refl _ w).alloc (Nat.le_refl _) _
  have c0 := (hb.cell (p := ⟨B, 0, none⟩) (block_lt_of_cell hB)).trans hB
  have HY := Lib.hid (isYoung_any m now (w.alloc (.cells #[.int .u64 (m.id : Int), .string m.b, .int .u64 (m.born : Int)] 82)))
  clear hB
  go_enter Try.func105, Try.ntmps105
  go_wp2_with (go_at_call 106; refine HY.out.mono ?_; rintro e w2 ⟨rfl, hb2⟩)
  go_ret
  exact ⟨rfl, hb.trans (hb2.mono hb.size)⟩
theorem youngAt_any (now : Nat) (w : World) :
    Calls Try.prog 83 #[.int .u64 (now : Int)] w fun e w' => ∃ B : Nat, e = .returned (.func (.func 105) #[] #[.pointer (some ⟨B, 0, none⟩)]) ∧ IsF w' ⟨105, B, fun _u m => youngB now m⟩ ∧ Below w.heap.size w w' := by
  have hb : Below w.heap.size w (w.alloc (.cells #[.int .u64 (now : Int)] 23)) := (Below.refl _ w).alloc (Nat.le_refl _) _
  have hc : (w.alloc (.cells #[.int .u64 (now : Int)] 23)).cell? ⟨w.heap.size, 0, none⟩ = some (.int .u64 (now : Int)) := by rw [cell_of_row _ _ _ _ _ _ (heap_alloc_new w _)]; rfl
  have HZ := Lib.hid (And.intro hb hc)
  clear hb hc
  go_enter Try.func83, Try.ntmps83
  go_wp2_with fail
  go_ret
  refine ⟨w.heap.size, rfl, ⟨cf_young1, fun W hW u m => youngAt1_any now w.heap.size u m W ?_⟩, HZ.out.1⟩
  exact (hW.cell (p := ⟨w.heap.size, 0, none⟩) (block_lt_of_cell HZ.out.2)).trans HZ.out.2
end Go.Proofs.Ytmmaimopombepaa
