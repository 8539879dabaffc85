/- The walk of the law LadderClamps. -/
import Derived.Test.YtccjhlipcgpkmaaDoorLclampw
namespace Go.Proofs.YtccjhlipcgpkmaaDoor
open Go.RowKit Go.PlainAid Go.Sort

theorem bt_append (a b : ByteArray) (i : Nat) (hi : i < a.size + b.size) : bt (a ++ b) i = if i < a.size then bt a i else bt b (i - a.size) := by
  have hs : i < (a ++ b).size := by rw [ByteArray.size_append]; exact hi
  unfold bt
  rw [dif_pos hs]
  split
  · rename_i h
    rw [ByteArray.getElem_append_left h]
  · rename_i h
    rw [dif_pos (by omega), ByteArray.getElem_append_right (by omega)]

theorem xor128 (b : Int) (h0 : 0 ≤ b) (h1 : b ≤ 255) : bits .xor .u8 b 128 = (b + 128) % 256 := by
  obtain ⟨n, rfl⟩ := Int.eq_ofNat_of_zero_le h0
  exact (by decide +kernel : ∀ n : Fin 256, bits .xor .u8 (n.val : Int) 128 = ((n.val : Int) + 128) % 256) ⟨n, by omega⟩
theorem and7 (b : Int) (h0 : 0 ≤ b) (h1 : b ≤ 255) : bits .and .u8 (b - b % 8) 7 = 0 := by
  obtain ⟨n, rfl⟩ := Int.eq_ofNat_of_zero_le h0
  exact (by decide +kernel : ∀ n : Fin 256, bits .and .u8 ((n.val : Int) - (n.val : Int) % 8) 7 = 0) ⟨n, by omega⟩
theorem and192 (b : Int) (h0 : 0 ≤ b) (h1 : b ≤ 255) : bits .and .u8 (b % 64 + 64) 192 = 64 := by
  obtain ⟨n, rfl⟩ := Int.eq_ofNat_of_zero_le h0
  exact (by decide +kernel : ∀ n : Fin 256, bits .and .u8 ((n.val : Int) % 64 + 64) 192 = 64) ⟨n, by omega⟩

/-- the point with its highest bit turned -/
def flipB (u : ByteArray) : ByteArray := u.extract 0 31 ++ strOfNums [(bt u 31 + 128) % 256]
theorem flipB_size (u : ByteArray) (hu : u.size = 32) : (flipB u).size = 32 := by
  unfold flipB
  rw [ByteArray.size_append, ByteArray.size_extract, strOfNums_size, hu]
  rfl
theorem flipB_point (u : ByteArray) (hu : u.size = 32) : pointB (flipB u) = pointB u := by
  have hx : (u.extract 0 31).size = 31 := by rw [ByteArray.size_extract, hu]; rfl
  have hl : (strOfNums [(bt u 31 + 128) % 256]).size = 1 := by rw [strOfNums_size]; rfl
  have a0 := bt_nonneg u 31; have a1 := bt_le u 31
  refine bytes_ext (by unfold pointB; rw [row32_size, row32_size]) fun i hi => ?_
  have hi' : i < 32 := by unfold pointB at hi; rw [row32_size] at hi; exact hi
  rw [pointB_bt _ i hi', pointB_bt _ i hi']
  unfold pointAt flipB
  split
  · rw [bt_append _ _ 31 (by omega), hx, if_neg (by omega), bt_str _ (fun v hv => by simp at hv; omega) _ (by simp)]
    simp
  · rw [bt_append _ _ i (by omega), hx, if_pos (by omega), bt_extract _ _ _ _ (by omega) (by omega), Nat.zero_add]
theorem clampB_middle (k : ByteArray) (hk : k.size = 32) : (clampB k).extract 1 31 = k.extract 1 31 := by
  have h1 : ((clampB k).extract 1 31).size = 30 := by rw [ByteArray.size_extract, clampB_size]; rfl
  have h2 : (k.extract 1 31).size = 30 := by rw [ByteArray.size_extract, hk]; rfl
  refine bytes_ext (by rw [h1, h2]) fun i hi => ?_
  rw [h1] at hi
  rw [bt_extract _ _ _ _ (by rw [clampB_size]; omega) (by omega), bt_extract _ _ _ _ (by omega) (by omega), clampB_bt _ _ (by omega)]
  unfold clampAt
  rw [if_neg (by omega), if_neg (by omega)]
theorem multN_flip (k u : ByteArray) (hu : u.size = 32) : multN (clampB k) (flipB u) = multN k u := by
  unfold multN
  rw [flipB_point u hu, clampB_twice]

theorem clampB_and7 (k : ByteArray) : bits .and .u8 (bt (clampB k) 0) 7 = 0 := by
  rw [clampB_bt k 0 (by omega)]
  unfold clampAt
  rw [if_pos rfl]
  exact and7 _ (bt_nonneg k 0) (bt_le k 0)
theorem clampB_and192 (k : ByteArray) : bits .and .u8 (bt (clampB k) 31) 192 = 64 := by
  rw [clampB_bt k 31 (by omega)]
  unfold clampAt
  rw [if_neg (by omega), if_pos rfl]
  exact and192 _ (bt_nonneg k 31) (bt_le k 31)

set_option maxHeartbeats 2000000 in
theorem clamps_any (a b : ByteArray) (_ha : a.size ≤ maxLen) (_hb : b.size ≤ maxLen) (w : World) (hP : PrimeAt w) :
    Calls Tryd.prog 8 #[.string a, .string b] w fun e w' => e = .returned (.bool true) ∧ Below w.heap.size w w' := by
  have lb := hP.lt
  go_enter Tryd.func8, Tryd.ntmps8
  go_wp2_with fail
  refine (cut2_any a _).mono ?_
  rintro e w0 ⟨k, rfl, hk34, rfl⟩
  go_wp2_with fail
  refine (cut2_any b _).mono ?_
  rintro e w0 ⟨u, rfl, hu34, rfl⟩
  clear hk34 hu34
  by_cases hk : k.size = 32
  · have q1 : ((k.size : Int) != 32) = false := by rw [bne_eq_false_iff_eq]; omega
    have HK := Lib.hid hk
    clear hk
    go_wp2_with fail
    refine (clamp_good k HK.out _).mono ?_
    rintro e w1 ⟨rfl, hB1⟩
    have hs1 := hB1.size
    have hP1 := hP.below hB1 lb
    by_cases hu : u.size = 32
    · have q2 : ((u.size : Int) != 32) = false := by rw [bne_eq_false_iff_eq]; omega
      have HU := Lib.hid hu
      have q3 : (((clampB k).size : Int) != 32) = false := by rw [clampB_size]; rfl
      go_wp2_with fail
      refine (mult_good k u HK.out HU.out _ hP1).mono ?_
      rintro e w2 ⟨rfl, hb2⟩
      have hB2 := hB1.trans (hb2.mono hs1)
      have hs2 := hB2.size
      have hP2 := hP.below hB2 lb
      clear hb2 hB1 hs1 hP1
      have HC := clamp_good (clampB k) (clampB_size k) w2
      rw [clampB_twice] at HC
      have HC' := Lib.hid HC
      clear HC
      go_wp2_with fail
      refine HC'.out.mono ?_
      rintro e w3 ⟨rfl, hb3⟩
      have hB3 := hB2.trans (hb3.mono hs2)
      have hs3 := hB3.size
      clear hb3 hB2 hs2 hP2 HC'
      have hget := get_bt u
      have ex := xor128 _ (bt_nonneg u 31) (bt_le u 31)
      have hconv : ∀ W : World, (convert 43 9 (.slice (some ⟨W.heap.size, 0, none⟩) 1 1)).run Tryd.prog (W.alloc (.cells #[.int .u8 ((bt u 31 + 128) % 256)] 5)).drew = .ok (.string (strOfNums [(bt u 31 + 128) % 256])) (W.alloc (.cells #[.int .u8 ((bt u 31 + 128) % 256)] 5)).drew := fun W =>
        run_convert_bytes_arg (W.alloc _).drew 43 5 Tryd.underlying43 Tryd.underlying5 W.heap.size 0 1 1 [(bt u 31 + 128) % 256] rfl (fun i hi => by obtain rfl : i = 0 := (by omega); simp) 9 Tryd.underlying9
      have hsa : (u.extract 0 31).size = 31 := by rw [ByteArray.size_extract, hu]; rfl
      have hsb : (strOfNums [(bt u 31 + 128) % 256]).size = 1 := by rw [strOfNums_size]; rfl
      go_wp2_with fail
      go_region_with (first | (go_at_call 29; refine (mult_good (clampB k) (flipB u) (clampB_size k) (flipB_size u HU.out) _ (hP.below (hB3.trans (by go_grown)) lb)).mono ?_; rintro e w4 ⟨rfl, hb4⟩))
      all_goals
        have hB4 := Below.trans (hB3.trans (by go_grown)) (hb4.mono (by simp; omega))
        clear hb4 hB3 hconv hsa hsb hget ex
        have hmf := multN_flip k u HU.out
        have hg := get_bt (clampB k)
        have h7 := clampB_and7 k
        have h192 := clampB_and192 k
        have hmid := clampB_middle k HK.out
        have hk' := HK.out
        have hcs := clampB_size k
        have hal : ∀ (d : Nat) (os : Array Obj), Calls Tryd.prog 32 #[] (grow (redrawn w4 d) os) fun e w'' => e = .returned (.bool true) ∧ ∃ p : Regrown, w'' = grow (redrawn w4 p.d) p.os := fun d os => Calls.regrown_of (alive2_any _)
        have HAL := Lib.hid hal
        clear hal
        go_wp2_with fail
        refine wp_region_quiet_below (by kernel_rfl) (by kernel_rfl) ?_
        repeat (quiet_step (exact HAL.out _ _))
        refine wpQuiet_nil ?_
        intro _ hw'
        obtain ⟨⟨dq, osq⟩, hw''⟩ := hw'
        subst hw''
        have hB5 := hB4.trans ((below_regrown w4 dq osq).mono hB4.size)
        go_wp2_with fail
        go_ret
        exact ⟨rfl, hB5⟩
    · have q2 : ((u.size : Int) != 32) = true := by rw [bne_iff_ne]; omega
      have HU := Lib.hid hu
      clear hu
      go_wp2_with fail
      refine (mult_bad k u (Or.inr HU.out) _).mono ?_
      rintro e w2 ⟨rfl, hb2⟩
      have hB2 := hB1.trans (hb2.mono hs1)
      have hs2 := hB2.size
      clear hb2 hB1 hs1 hP1
      go_wp2_with fail
      refine (alive2_any _).mono ?_
      rintro e w3 ⟨rfl, hb3⟩
      have hB3 := hB2.trans (hb3.mono hs2)
      clear hb3 hB2
      go_wp2_with fail
      go_ret
      exact ⟨rfl, hB3⟩
  · have q1 : ((k.size : Int) != 32) = true := by rw [bne_iff_ne]; omega
    have HK := Lib.hid hk
    clear hk
    go_wp2_with fail
    refine (clamp_bad k HK.out _).mono ?_
    rintro e w1 ⟨rfl, hB1⟩
    have hs1 := hB1.size
    go_wp2_with fail
    refine (mult_bad k u (Or.inl HK.out) _).mono ?_
    rintro e w2 ⟨rfl, hb2⟩
    have hB2 := hB1.trans (hb2.mono hs1)
    have hs2 := hB2.size
    clear hb2 hB1 hs1
    go_wp2_with fail
    refine (alive2_any _).mono ?_
    rintro e w3 ⟨rfl, hb3⟩
    have hB3 := hB2.trans (hb3.mono hs2)
    clear hb3 hB2
    go_wp2_with fail
    go_ret
    exact ⟨rfl, hB3⟩
end Go.Proofs.YtccjhlipcgpkmaaDoor
