/- The reference's clamped key. -/
import Derived.Test.YtccjhlipcgpkmaaDoorMstep
import Derived.Test.YtccjhlipcgpkmaaDoorLclampx
namespace Go.Proofs.YtccjhlipcgpkmaaDoor
open Go.RowKit Go.PlainAid

/-- the text that the reference puts together -/
theorem clampB_join (k : ByteArray) (hk : k.size = 32) : strOfNums [bt k 0 - bt k 0 % 8] ++ k.extract 1 31 ++ strOfNums [bt k 31 % 64 + 64] = clampB k := by
  have hx : (k.extract 1 31).size = 30 := by rw [ByteArray.size_extract, hk]; rfl
  have h1 : (strOfNums [bt k 0 - bt k 0 % 8]).size = 1 := by rw [strOfNums_size]; rfl
  have h2 : (strOfNums [bt k 31 % 64 + 64]).size = 1 := by rw [strOfNums_size]; rfl
  have a0 := bt_nonneg k 0; have a1 := bt_le k 0; have b0 := bt_nonneg k 31; have b1 := bt_le k 31
  have h3 : (strOfNums [bt k 0 - bt k 0 % 8] ++ k.extract 1 31).size = 31 := by rw [ByteArray.size_append, h1, hx]
  refine bytes_ext (by rw [ByteArray.size_append, h3, h2, clampB_size]) fun i hi => ?_
  rw [ByteArray.size_append, h3, h2] at hi
  rw [clampB_bt k i hi, bt_append _ _ i (by omega), h3]
  unfold clampAt
  by_cases hi0 : i = 0
  · subst hi0
    rw [if_pos (by omega), bt_append _ _ 0 (by omega), h1, if_pos (by omega), bt_str _ (fun v hv => by simp at hv; omega) 0 (by simp), if_pos rfl]
    rfl
  · rw [if_neg hi0]
    by_cases hi31 : i = 31
    · subst hi31
      rw [if_neg (by omega), if_pos rfl, bt_str _ (fun v hv => by simp at hv; omega) _ (by simp)]
      rfl
    · rw [if_neg hi31, if_pos (by omega), bt_append _ _ i (by omega), h1, if_neg (by omega), bt_extract _ _ _ _ (by omega) (by omega)]
      congr 1
      omega
theorem pointB_join (u : ByteArray) (hu : u.size = 32) : u.extract 0 31 ++ strOfNums [bt u 31 % 128] = pointB u := by
  have hx : (u.extract 0 31).size = 31 := by rw [ByteArray.size_extract, hu]; rfl
  have h2 : (strOfNums [bt u 31 % 128]).size = 1 := by rw [strOfNums_size]; rfl
  have b0 := bt_nonneg u 31; have b1 := bt_le u 31
  have hp : (pointB u).size = 32 := row32_size _
  refine bytes_ext (by rw [ByteArray.size_append, hx, h2, hp]) fun i hi => ?_
  rw [ByteArray.size_append, hx, h2] at hi
  rw [pointB_bt u i hi, bt_append _ _ i (by omega), hx]
  unfold pointAt
  by_cases hi31 : i = 31
  · subst hi31
    rw [if_neg (by omega), if_pos rfl, bt_str _ (fun v hv => by simp at hv; omega) _ (by simp)]
    rfl
  · rw [if_neg hi31, if_pos (by omega), bt_extract _ _ _ _ (by omega) (by omega), Nat.zero_add]

set_option maxHeartbeats 2000000 in
theorem refClamp_any (k : ByteArray) (hk : k.size = 32) (w : World) :
    Calls Tryd.prog 30 #[.string k] w fun e w' => e = .returned (.string (clampB k)) ∧ Below w.heap.size w w' := by
  have hget := get_bt k
  have a0 := bt_nonneg k 0; have a1 := bt_le k 0; have b0 := bt_nonneg k 31; have b1 := bt_le k 31
  obtain ⟨x, hx⟩ : ∃ x, bt k 0 - bt k 0 % 8 = x := ⟨_, rfl⟩
  obtain ⟨y, hy⟩ : ∃ y, bt k 31 % 64 + 64 = y := ⟨_, rfl⟩
  have hj := clampB_join k hk
  rw [hx, hy] at hj
  have hx0 : 0 ≤ x ∧ x ≤ 255 := by omega
  have hy0 : 0 ≤ y ∧ y ≤ 255 := by omega
  have wx : IntKind.u8.wrap x = x := by rw [IntKind.wrap_u8]; omega
  have wy : IntKind.u8.wrap y = y := by rw [IntKind.wrap_u8]; omega
  have hc1 : ∀ (W : World) (v : Int), (convert 43 9 (.slice (some ⟨W.heap.size, 0, none⟩) 1 1)).run Tryd.prog (W.alloc (.cells #[.int .u8 v] 5)).drew = .ok (.string (strOfNums [v])) (W.alloc (.cells #[.int .u8 v] 5)).drew := fun W v =>
    run_convert_bytes_arg (W.alloc _).drew 43 5 Tryd.underlying43 Tryd.underlying5 W.heap.size 0 1 1 [v] rfl (fun i hi => by obtain rfl : i = 0 := (by omega); simp) 9 Tryd.underlying9
  have hc2 : ∀ (W : World) (v v' : Int), (convert 43 9 (.slice (some ⟨W.heap.size, 0, none⟩) 1 1)).run Tryd.prog ((W.alloc (.cells #[.int .u8 v] 5)).alloc (.cells #[.int .u8 v'] 5)).drew = .ok (.string (strOfNums [v])) ((W.alloc (.cells #[.int .u8 v] 5)).alloc (.cells #[.int .u8 v'] 5)).drew := fun W v v' =>
    run_convert_bytes_arg ((W.alloc _).alloc _).drew 43 5 Tryd.underlying43 Tryd.underlying5 W.heap.size 0 1 1 [v] rfl (fun i hi => by obtain rfl : i = 0 := (by omega); simp) 9 Tryd.underlying9
  have hc3 : ∀ (W : World) (v v' : Int), (convert 43 9 (.slice (some ⟨W.heap.size + 1, 0, none⟩) 1 1)).run Tryd.prog ((W.alloc (.cells #[.int .u8 v] 5)).alloc (.cells #[.int .u8 v'] 5)).drew = .ok (.string (strOfNums [v'])) ((W.alloc (.cells #[.int .u8 v] 5)).alloc (.cells #[.int .u8 v'] 5)).drew := fun W v v' =>
    run_convert_bytes_arg ((W.alloc _).alloc _).drew 43 5 Tryd.underlying43 Tryd.underlying5 (W.heap.size + 1) 0 1 1 [v'] rfl (fun i hi => by obtain rfl : i = 0 := (by omega); simp) 9 Tryd.underlying9
  have hsx : ∀ v : Int, (strOfNums [v]).size = 1 := fun v => by rw [strOfNums_size]; rfl
  have hsm : (k.extract 1 31).size = 30 := by rw [ByteArray.size_extract, hk]; rfl
  go_enter Tryd.func30, Tryd.ntmps30
  go_wp2_with fail
  go_region
  all_goals go_wp2_with fail
  all_goals go_ret
  all_goals rw [← hj]
  all_goals exact ⟨rfl, by go_grown⟩
end Go.Proofs.YtccjhlipcgpkmaaDoor
