/- The walk of the law LadderClamps. -/
import Derived.Test.YtccjhlipcgpkmaaDoorLmult
namespace Go.Proofs.YtccjhlipcgpkmaaDoor
open Go.RowKit Go.PlainAid Go.Sort

theorem bytes_ext {a b : ByteArray} (hs : a.size = b.size) (h : ∀ i, i < a.size → bt a i = bt b i) : a = b := by
  apply ByteArray.ext
  apply Array.ext
  · exact hs
  · intro i h1 h2
    have h3 := h i h1
    unfold bt at h3
    rw [dif_pos (show i < a.size from h1), dif_pos (show i < b.size from h2)] at h3
    have h4 : (a[i]'h1).toNat = (b[i]'h2).toNat := by exact_mod_cast h3
    exact UInt8.toNat_inj.1 h4

theorem clampB_size (k : ByteArray) : (clampB k).size = 32 := row32_size _
theorem clampB_twice (k : ByteArray) : clampB (clampB k) = clampB k := by
  refine bytes_ext (by rw [clampB_size, clampB_size]) fun i hi => ?_
  rw [clampB_size] at hi
  rw [clampB_bt _ i hi, clampB_bt k i hi]
  unfold clampAt
  split
  · rename_i h
    subst h
    rw [clampB_bt k 0 (by omega)]
    unfold clampAt
    rw [if_pos rfl]
    omega
  · split
    · rename_i h
      subst h
      rw [clampB_bt k 31 (by omega)]
      unfold clampAt
      rw [if_neg (by omega), if_pos rfl]
      omega
    · rename_i h0 h31
      rw [clampB_bt k i hi]
      unfold clampAt
      rw [if_neg h0, if_neg h31]

/-- the zero key -/
def zeroB : ByteArray := strOfNums (List.replicate 32 0)
theorem zeroB_size : zeroB.size = 32 := by unfold zeroB; rw [strOfNums_size]; rfl
theorem zeroB_31 (h : 31 < (clampB zeroB).size) : ((((clampB zeroB)[31]'h).toNat : Nat) : Int) = 64 := by
  rw [get_bt, clampB_bt _ 31 (by omega)]
  unfold clampAt
  rw [if_neg (by omega), if_pos rfl]
  have : bt zeroB 31 = 0 := by unfold zeroB; rw [bt_str _ (fun v hv => by rw [List.mem_replicate] at hv; omega) 31 (by simp)]; rfl
  omega

theorem zero_cells (w : World) (t : TypeId) (i : Nat) (hi : i < 32) :
    (w.alloc (.cells #[.int .u8 0, .int .u8 0, .int .u8 0, .int .u8 0, .int .u8 0, .int .u8 0, .int .u8 0, .int .u8 0, .int .u8 0, .int .u8 0, .int .u8 0, .int .u8 0, .int .u8 0, .int .u8 0, .int .u8 0, .int .u8 0, .int .u8 0, .int .u8 0, .int .u8 0, .int .u8 0, .int .u8 0, .int .u8 0, .int .u8 0, .int .u8 0, .int .u8 0, .int .u8 0, .int .u8 0, .int .u8 0, .int .u8 0, .int .u8 0, .int .u8 0, .int .u8 0] t)).cell? ⟨w.heap.size, 0 + i, none⟩ = some (.int .u8 ((List.replicate 32 (0 : Int)).getD i 0)) := by
  rw [World.cell?_alloc_new, Nat.zero_add]
  rcases i with _ | _ | _ | _ | _ | _ | _ | _ | _ | _ | _ | _ | _ | _ | _ | _ | _ | _ | _ | _ | _ | _ | _ | _ | _ | _ | _ | _ | _ | _ | _ | _ | i
  all_goals first | rfl | omega

set_option maxHeartbeats 1000000 in
theorem alive2_any (w : World) :
    Calls Tryd.prog 32 #[] w fun e w' => e = .returned (.bool true) ∧ Below w.heap.size w w' := by
  have hmk : ∀ w : World, (Instr.makeSlice 43 (.int .i64 32) (.int .i64 32)).run Tryd.prog w = .ok (.slice (some ⟨w.heap.size, 0, none⟩) 32 32) (w.alloc (.cells #[.int .u8 0, .int .u8 0, .int .u8 0, .int .u8 0, .int .u8 0, .int .u8 0, .int .u8 0, .int .u8 0, .int .u8 0, .int .u8 0, .int .u8 0, .int .u8 0, .int .u8 0, .int .u8 0, .int .u8 0, .int .u8 0, .int .u8 0, .int .u8 0, .int .u8 0, .int .u8 0, .int .u8 0, .int .u8 0, .int .u8 0, .int .u8 0, .int .u8 0, .int .u8 0, .int .u8 0, .int .u8 0, .int .u8 0, .int .u8 0, .int .u8 0, .int .u8 0] 5)) := fun _ => by kernel_rfl
  have g31 := zeroB_31
  have hsz := clampB_size zeroB
  have b1 : (((clampB zeroB).size : Int) == 32) = true := by rw [hsz]; rfl
  go_enter Tryd.func32, Tryd.ntmps32
  go_wp2_with fail
  rw [run_convert_bytes_arg (w.alloc _) 43 5 Tryd.underlying43 Tryd.underlying5 w.heap.size 0 32 32 (List.replicate 32 0) rfl (zero_cells w _) 9 Tryd.underlying9]
  have hB1 : Below w.heap.size w (w.alloc (.cells #[.int .u8 0, .int .u8 0, .int .u8 0, .int .u8 0, .int .u8 0, .int .u8 0, .int .u8 0, .int .u8 0, .int .u8 0, .int .u8 0, .int .u8 0, .int .u8 0, .int .u8 0, .int .u8 0, .int .u8 0, .int .u8 0, .int .u8 0, .int .u8 0, .int .u8 0, .int .u8 0, .int .u8 0, .int .u8 0, .int .u8 0, .int .u8 0, .int .u8 0, .int .u8 0, .int .u8 0, .int .u8 0, .int .u8 0, .int .u8 0, .int .u8 0, .int .u8 0] 5)) := by go_grown
  generalize World.alloc w _ = W at hB1 ⊢
  rw [show strOfNums (List.replicate 32 0) = zeroB from rfl]
  clear hmk
  go_wp2_with fail
  refine (clamp_good zeroB zeroB_size _).mono ?_
  rintro e w1 ⟨rfl, hb1⟩
  have hB2 := hB1.trans (hb1.mono hB1.size)
  clear hb1 hB1
  go_wp2_with fail
  go_ret
  exact ⟨rfl, hB2⟩
end Go.Proofs.YtccjhlipcgpkmaaDoor
