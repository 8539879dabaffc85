/- The contract of package limb's tell. -/
import Derived.Test.YtccjhlipcgpkmaaDoorPlus
import Derived.Test.YtccjhlipcgpkmaaDoorBytes
namespace Go.Proofs.YtccjhlipcgpkmaaDoor
open Go.RowKit

def TellPost (x : Int) (w : World) (e : Ending) (w' : World) : Prop := e = .returned (.string (leStr x)) ∧ Below w.heap.size w w'

theorem tell_cells (W : World) (c0 c1 c2 c3 : Int) (t : TypeId) (i : Nat) (hi : i < 32) :
    (W.alloc (.cells #[.int .u8 (c0 % 256), .int .u8 (c0 / 256 % 256), .int .u8 (c0 / 65536 % 256), .int .u8 (c0 / 16777216 % 256), .int .u8 (c0 / 4294967296 % 256), .int .u8 (c0 / 1099511627776 % 256), .int .u8 (c0 / 281474976710656 % 256), .int .u8 (c0 / 72057594037927936 % 256), .int .u8 (c1 % 256), .int .u8 (c1 / 256 % 256), .int .u8 (c1 / 65536 % 256), .int .u8 (c1 / 16777216 % 256), .int .u8 (c1 / 4294967296 % 256), .int .u8 (c1 / 1099511627776 % 256), .int .u8 (c1 / 281474976710656 % 256), .int .u8 (c1 / 72057594037927936 % 256), .int .u8 (c2 % 256), .int .u8 (c2 / 256 % 256), .int .u8 (c2 / 65536 % 256), .int .u8 (c2 / 16777216 % 256), .int .u8 (c2 / 4294967296 % 256), .int .u8 (c2 / 1099511627776 % 256), .int .u8 (c2 / 281474976710656 % 256), .int .u8 (c2 / 72057594037927936 % 256), .int .u8 (c3 % 256), .int .u8 (c3 / 256 % 256), .int .u8 (c3 / 65536 % 256), .int .u8 (c3 / 16777216 % 256), .int .u8 (c3 / 4294967296 % 256), .int .u8 (c3 / 1099511627776 % 256), .int .u8 (c3 / 281474976710656 % 256), .int .u8 (c3 / 72057594037927936 % 256)] t)).cell? ⟨W.heap.size, 0 + i, none⟩ = some (.int .u8 ((tell32 c0 c1 c2 c3).getD i 0)) := by
  rw [World.cell?_alloc_new, Nat.zero_add]
  rcases i with _ | _ | _ | _ | _ | _ | _ | _ | _ | _ | _ | _ | _ | _ | _ | _ | _ | _ | _ | _ | _ | _ | _ | _ | _ | _ | _ | _ | _ | _ | _ | _ | i
  all_goals first | rfl | omega

set_option maxRecDepth 100000 in
set_option maxHeartbeats 4000000 in
theorem tell_any (va : Value) (x : Int) (hva : Num va x) (w : World) (hP : PrimeAt w) :
    Calls Tryd.prog 35 #[va] w (TellPost (x % Pr) w) := by
  obtain ⟨a0, a1, a2, a3, rfl, ha⟩ := hva
  go_enter Tryd.func35, Tryd.ntmps35
  go_wp2_with fail
  refine (left_in w _ _ _ ⟨_, _, _, _, rfl, ha⟩ hP (by go_grown)).mono ?_
  rintro e w1 ⟨c0, c1, c2, c3, z, rfl, hz, rfl, hb1⟩
  have hN : Blk w1 w.heap.size a0 a1 a2 a3 := Blk.below (Blk.fresh_at _ _ _ _ _ _ _ rfl) hb1 (by simp)
  have hB1 : Below w.heap.size w w1 := Below.trans (by go_grown) (hb1.mono (by simp))
  clear hb1
  have hlt := hN.lt
  obtain ⟨⟨x0, x1, x2, x3⟩, ⟨y0, y1, y2, y3⟩⟩ := id hN
  go_wp2_with fail
  have hN2 := hN.set4 c0 c1 c2 c3
  have hB2 := below_set4 hB1 (Nat.le_refl _) (.int .u64 c0) (.int .u64 c1) (.int .u64 c2) (.int .u64 c3)
  clear x0 x1 x2 x3 y0 y1 y2 y3 hN
  have hsz := size_set4 w1 w.heap.size (.int .u64 c0) (.int .u64 c1) (.int .u64 c2) (.int .u64 c3)
  generalize World.setCell (World.setCell (World.setCell (World.setCell w1 _ _) _ _) _ _) _ _ = W at hN2 hB2 hsz ⊢
  rw [← hsz]
  have hltW := hN2.lt
  clear hsz hlt hB1 hN2
  have i0 : ∀ w : World, (Instr.index 46 (.agg #[.int .u64 c0, .int .u64 c1, .int .u64 c2, .int .u64 c3]) (.int .i64 0)).run Tryd.prog w = .ok (.int .u64 c0) w := fun _ => by kernel_rfl
  have i1 : ∀ w : World, (Instr.index 46 (.agg #[.int .u64 c0, .int .u64 c1, .int .u64 c2, .int .u64 c3]) (.int .i64 1)).run Tryd.prog w = .ok (.int .u64 c1) w := fun _ => by kernel_rfl
  have i2 : ∀ w : World, (Instr.index 46 (.agg #[.int .u64 c0, .int .u64 c1, .int .u64 c2, .int .u64 c3]) (.int .i64 2)).run Tryd.prog w = .ok (.int .u64 c2) w := fun _ => by kernel_rfl
  have i3 : ∀ w : World, (Instr.index 46 (.agg #[.int .u64 c0, .int .u64 c1, .int .u64 c2, .int .u64 c3]) (.int .i64 3)).run Tryd.prog w = .ok (.int .u64 c3) w := fun _ => by kernel_rfl
  refine wp_loop_rounds 5 ?_
  rw [rounds_succ]; go_wp2_with fail
  refine wp_loop_rounds 9 ?_
  rw [rounds_succ]; go_wp2_with fail
  rw [rounds_succ]; go_wp2_with fail
  rw [rounds_succ]; go_wp2_with fail
  rw [rounds_succ]; go_wp2_with fail
  rw [rounds_succ]; go_wp2_with fail
  rw [rounds_succ]; go_wp2_with fail
  rw [rounds_succ]; go_wp2_with fail
  rw [rounds_succ]; go_wp2_with fail
  rw [rounds_succ]; go_wp2_with fail
  rw [rounds_succ]; go_wp2_with fail
  refine wp_loop_rounds 9 ?_
  rw [rounds_succ]; go_wp2_with fail
  rw [rounds_succ]; go_wp2_with fail
  rw [rounds_succ]; go_wp2_with fail
  rw [rounds_succ]; go_wp2_with fail
  rw [rounds_succ]; go_wp2_with fail
  rw [rounds_succ]; go_wp2_with fail
  rw [rounds_succ]; go_wp2_with fail
  rw [rounds_succ]; go_wp2_with fail
  rw [rounds_succ]; go_wp2_with fail
  rw [rounds_succ]; go_wp2_with fail
  refine wp_loop_rounds 9 ?_
  rw [rounds_succ]; go_wp2_with fail
  rw [rounds_succ]; go_wp2_with fail
  rw [rounds_succ]; go_wp2_with fail
  rw [rounds_succ]; go_wp2_with fail
  rw [rounds_succ]; go_wp2_with fail
  rw [rounds_succ]; go_wp2_with fail
  rw [rounds_succ]; go_wp2_with fail
  rw [rounds_succ]; go_wp2_with fail
  rw [rounds_succ]; go_wp2_with fail
  rw [rounds_succ]; go_wp2_with fail
  refine wp_loop_rounds 9 ?_
  rw [rounds_succ]; go_wp2_with fail
  rw [rounds_succ]; go_wp2_with fail
  rw [rounds_succ]; go_wp2_with fail
  rw [rounds_succ]; go_wp2_with fail
  rw [rounds_succ]; go_wp2_with fail
  rw [rounds_succ]; go_wp2_with fail
  rw [rounds_succ]; go_wp2_with fail
  rw [rounds_succ]; go_wp2_with fail
  rw [rounds_succ]; go_wp2_with fail
  rw [rounds_succ]; go_wp2_with fail
  rw [run_convert_bytes_arg (W.alloc _) 43 5 Tryd.underlying43 Tryd.underlying5 W.heap.size 0 32 32 (tell32 c0 c1 c2 c3) rfl (tell_cells W c0 c1 c2 c3 _) 9 Tryd.underlying9]
  rw [tell32_eq hz]
  go_wp2_with fail
  go_ret
  refine ⟨rfl, ?_⟩
  exact hB2.alloc (Nat.le_of_lt hltW) _
end Go.Proofs.YtccjhlipcgpkmaaDoor
