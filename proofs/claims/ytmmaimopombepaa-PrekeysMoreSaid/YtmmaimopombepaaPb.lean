/- The contract of bits.Len64: how many bits a number has. -/
import Derived.Test.YtmmaimopombepaaRows
import Derived.Test.YtmmaimopombepaaKa
import Derived.Lib.BitFns
namespace Go.Proofs.Ytmmaimopombepaa
open Go.RowKit
set_option maxRecDepth 100000
theorem len8_fin : ∀ n : Fin 256, ∃ l : Fin 9, Lib.len8 (n.val : Int) = (l.val : Int) ∧ n.val < 2 ^ l.val ∧ (l.val = 0 ∧ n.val = 0 ∨ 0 < l.val ∧ 2 ^ (l.val - 1) ≤ n.val) := by decide +kernel
theorem len8_bits (x k : Nat) (h : x / 2 ^ k < 256) (hk : k = 0 ∨ 2 ^ k ≤ x) : ∃ l : Nat, Lib.len8 ((x / 2 ^ k : Nat) : Int) = (l : Int) ∧ l ≤ 8 ∧ x < 2 ^ (l + k) ∧ (l + k = 0 ∨ 2 ^ (l + k - 1) ≤ x) := by
  obtain ⟨l, h1, h2, h3⟩ := len8_fin ⟨x / 2 ^ k, h⟩
  have hp := Nat.two_pow_pos k
  refine ⟨l.val, h1, by omega, ?_, ?_⟩
  · rw [Nat.pow_add]
    exact (Nat.div_lt_iff_lt_mul hp).1 h2
  · rcases h3 with ⟨h4, h5⟩ | ⟨h4, h5⟩
    · rcases hk with rfl | hk
      · left; omega
      · exfalso
        have : 1 ≤ x / 2 ^ k := (Nat.le_div_iff_mul_le hp).2 (by omega)
        simp only at h5
        omega
    · right
      rw [show l.val + k - 1 = l.val - 1 + k by omega, Nat.pow_add]
      exact (Nat.le_div_iff_mul_le hp).1 h5
theorem ret_i64 {a b : Int} (h : a = b) : Ending.returned (.int .i64 a) = .returned (.int .i64 b) := by rw [h]
/-- what the table tells of the byte that is left -/
theorem len_leaf (x k z : Nat) (ez : x / 2 ^ k = z) (hz : z < 256) (hk : k = 0 ∨ 2 ^ k ≤ x) (hk2 : k ≤ 56) : ∃ l : Nat,
    (∀ W : World, (Instr.index 9 (.string Lib.len8tab) (.int .u8 (z : Int))).run Try.prog W = .ok (.int .u8 (l : Int)) W) ∧ l ≤ 8 ∧
    wrap64 ((k : Int) + wrap64 (l : Int)) = ((l + k : Nat) : Int) ∧ x < 2 ^ (l + k) ∧ (l + k = 0 ∨ 2 ^ (l + k - 1) ≤ x) ∧ l + k ≤ 64 := by
  obtain ⟨l, h1, h2, h3, h4⟩ := len8_bits x k (by omega) hk
  rw [ez] at h1
  have e1 : wrap64 (l : Int) = l := by unfold wrap64; omega
  refine ⟨l, fun W => ?_, h2, ?_, h3, h4, by omega⟩
  · rw [Lib.run_index_len8tab (P := Try.prog) W 9 .u8 (z : Int) Try.underlying9 (by omega) (by omega), h1]
  · rw [e1]; unfold wrap64; omega
set_option maxHeartbeats 4000000 in
theorem Len64_any (x : Nat) (hx : x < 18446744073709551616) (w : World) :
    Calls Try.prog 131 #[.int .u64 (x : Int)] w fun e w' => ∃ L : Nat, e = .returned (.int .i64 (L : Int)) ∧ w = w' ∧ x < 2 ^ L ∧ (L = 0 ∨ 2 ^ (L - 1) ≤ x) ∧ L ≤ 64 := by
  by_cases c1 : (4294967296 : Int) ≤ (x : Int)
  · have k1 : (x : Int) / 4294967296 < 4294967296 := by omega
    by_cases c2 : (65536 : Int) ≤ (x : Int) / 4294967296
    · have k2 : (x : Int) / 4294967296 / 65536 < 65536 := by omega
      by_cases c3 : (256 : Int) ≤ (x : Int) / 4294967296 / 65536
      · have dy1 : (4294967296 : Int) ≤ (x : Int) := by omega
        obtain ⟨y1, ey1⟩ : ∃ y1 : Nat, (x : Int) / 4294967296 = (y1 : Int) := ⟨x / 4294967296, by omega⟩
        have dy2 : (65536 : Int) ≤ (y1 : Int) := by omega
        obtain ⟨y2, ey2⟩ : ∃ y2 : Nat, (y1 : Int) / 65536 = (y2 : Int) := ⟨y1 / 65536, by omega⟩
        have dy3 : (256 : Int) ≤ (y2 : Int) := by omega
        obtain ⟨y3, ey3⟩ : ∃ y3 : Nat, (y2 : Int) / 256 = (y3 : Int) := ⟨y2 / 256, by omega⟩
        have hz : (y3 : Int) < 256 := by omega
        obtain ⟨l, hix, hl, hw, h1, h2, h3⟩ := len_leaf x 56 y3 (by omega) (by omega) (by omega) (by omega)
        clear c1 c2 c3 k1 k2
        have HF := Lib.hid (And.intro hw (And.intro h1 (And.intro h2 h3)))
        clear hw h1 h2 h3
        go_enter Try.func131, Try.ntmps131
        go_upto_region 10 with fail
        generalize hT : ByteArray.mk _ = T
        obtain rfl : Lib.len8tab = T := by subst hT; kernel_rfl
        clear hT
        go_wp2_with fail
        go_ret
        obtain ⟨hw, h1, h2, h3⟩ := HF.out
        exact ⟨_, ret_i64 (by first | exact hw | omega), rfl, h1, h2, h3⟩
      · have dy1 : (4294967296 : Int) ≤ (x : Int) := by omega
        obtain ⟨y1, ey1⟩ : ∃ y1 : Nat, (x : Int) / 4294967296 = (y1 : Int) := ⟨x / 4294967296, by omega⟩
        have dy2 : (65536 : Int) ≤ (y1 : Int) := by omega
        obtain ⟨y2, ey2⟩ : ∃ y2 : Nat, (y1 : Int) / 65536 = (y2 : Int) := ⟨y1 / 65536, by omega⟩
        have dy3 : ¬ (256 : Int) ≤ (y2 : Int) := by omega
        have hz : (y2 : Int) < 256 := by omega
        obtain ⟨l, hix, hl, hw, h1, h2, h3⟩ := len_leaf x 48 y2 (by omega) (by omega) (by omega) (by omega)
        clear c1 c2 c3 k1 k2
        have HF := Lib.hid (And.intro hw (And.intro h1 (And.intro h2 h3)))
        clear hw h1 h2 h3
        go_enter Try.func131, Try.ntmps131
        go_upto_region 10 with fail
        generalize hT : ByteArray.mk _ = T
        obtain rfl : Lib.len8tab = T := by subst hT; kernel_rfl
        clear hT
        go_wp2_with fail
        go_ret
        obtain ⟨hw, h1, h2, h3⟩ := HF.out
        exact ⟨_, ret_i64 (by first | exact hw | omega), rfl, h1, h2, h3⟩
    · have k2 : (x : Int) / 4294967296 < 65536 := by omega
      by_cases c3 : (256 : Int) ≤ (x : Int) / 4294967296
      · have dy1 : (4294967296 : Int) ≤ (x : Int) := by omega
        obtain ⟨y1, ey1⟩ : ∃ y1 : Nat, (x : Int) / 4294967296 = (y1 : Int) := ⟨x / 4294967296, by omega⟩
        have dy2 : ¬ (65536 : Int) ≤ (y1 : Int) := by omega
        have dy3 : (256 : Int) ≤ (y1 : Int) := by omega
        obtain ⟨y3, ey3⟩ : ∃ y3 : Nat, (y1 : Int) / 256 = (y3 : Int) := ⟨y1 / 256, by omega⟩
        have hz : (y3 : Int) < 256 := by omega
        obtain ⟨l, hix, hl, hw, h1, h2, h3⟩ := len_leaf x 40 y3 (by omega) (by omega) (by omega) (by omega)
        clear c1 c2 c3 k1 k2
        have HF := Lib.hid (And.intro hw (And.intro h1 (And.intro h2 h3)))
        clear hw h1 h2 h3
        go_enter Try.func131, Try.ntmps131
        go_upto_region 10 with fail
        generalize hT : ByteArray.mk _ = T
        obtain rfl : Lib.len8tab = T := by subst hT; kernel_rfl
        clear hT
        go_wp2_with fail
        go_ret
        obtain ⟨hw, h1, h2, h3⟩ := HF.out
        exact ⟨_, ret_i64 (by first | exact hw | omega), rfl, h1, h2, h3⟩
      · have dy1 : (4294967296 : Int) ≤ (x : Int) := by omega
        obtain ⟨y1, ey1⟩ : ∃ y1 : Nat, (x : Int) / 4294967296 = (y1 : Int) := ⟨x / 4294967296, by omega⟩
        have dy2 : ¬ (65536 : Int) ≤ (y1 : Int) := by omega
        have dy3 : ¬ (256 : Int) ≤ (y1 : Int) := by omega
        have hz : (y1 : Int) < 256 := by omega
        obtain ⟨l, hix, hl, hw, h1, h2, h3⟩ := len_leaf x 32 y1 (by omega) (by omega) (by omega) (by omega)
        clear c1 c2 c3 k1 k2
        have HF := Lib.hid (And.intro hw (And.intro h1 (And.intro h2 h3)))
        clear hw h1 h2 h3
        go_enter Try.func131, Try.ntmps131
        go_upto_region 10 with fail
        generalize hT : ByteArray.mk _ = T
        obtain rfl : Lib.len8tab = T := by subst hT; kernel_rfl
        clear hT
        go_wp2_with fail
        go_ret
        obtain ⟨hw, h1, h2, h3⟩ := HF.out
        exact ⟨_, ret_i64 (by first | exact hw | omega), rfl, h1, h2, h3⟩
  · have k1 : (x : Int) < 4294967296 := by omega
    by_cases c2 : (65536 : Int) ≤ (x : Int)
    · have k2 : (x : Int) / 65536 < 65536 := by omega
      by_cases c3 : (256 : Int) ≤ (x : Int) / 65536
      · have dy1 : ¬ (4294967296 : Int) ≤ (x : Int) := by omega
        have dy2 : (65536 : Int) ≤ (x : Int) := by omega
        obtain ⟨y2, ey2⟩ : ∃ y2 : Nat, (x : Int) / 65536 = (y2 : Int) := ⟨x / 65536, by omega⟩
        have dy3 : (256 : Int) ≤ (y2 : Int) := by omega
        obtain ⟨y3, ey3⟩ : ∃ y3 : Nat, (y2 : Int) / 256 = (y3 : Int) := ⟨y2 / 256, by omega⟩
        have hz : (y3 : Int) < 256 := by omega
        obtain ⟨l, hix, hl, hw, h1, h2, h3⟩ := len_leaf x 24 y3 (by omega) (by omega) (by omega) (by omega)
        clear c1 c2 c3 k1 k2
        have HF := Lib.hid (And.intro hw (And.intro h1 (And.intro h2 h3)))
        clear hw h1 h2 h3
        go_enter Try.func131, Try.ntmps131
        go_upto_region 10 with fail
        generalize hT : ByteArray.mk _ = T
        obtain rfl : Lib.len8tab = T := by subst hT; kernel_rfl
        clear hT
        go_wp2_with fail
        go_ret
        obtain ⟨hw, h1, h2, h3⟩ := HF.out
        exact ⟨_, ret_i64 (by first | exact hw | omega), rfl, h1, h2, h3⟩
      · have dy1 : ¬ (4294967296 : Int) ≤ (x : Int) := by omega
        have dy2 : (65536 : Int) ≤ (x : Int) := by omega
        obtain ⟨y2, ey2⟩ : ∃ y2 : Nat, (x : Int) / 65536 = (y2 : Int) := ⟨x / 65536, by omega⟩
        have dy3 : ¬ (256 : Int) ≤ (y2 : Int) := by omega
        have hz : (y2 : Int) < 256 := by omega
        obtain ⟨l, hix, hl, hw, h1, h2, h3⟩ := len_leaf x 16 y2 (by omega) (by omega) (by omega) (by omega)
        clear c1 c2 c3 k1 k2
        have HF := Lib.hid (And.intro hw (And.intro h1 (And.intro h2 h3)))
        clear hw h1 h2 h3
        go_enter Try.func131, Try.ntmps131
        go_upto_region 10 with fail
        generalize hT : ByteArray.mk _ = T
        obtain rfl : Lib.len8tab = T := by subst hT; kernel_rfl
        clear hT
        go_wp2_with fail
        go_ret
        obtain ⟨hw, h1, h2, h3⟩ := HF.out
        exact ⟨_, ret_i64 (by first | exact hw | omega), rfl, h1, h2, h3⟩
    · have k2 : (x : Int) < 65536 := by omega
      by_cases c3 : (256 : Int) ≤ (x : Int)
      · have dy1 : ¬ (4294967296 : Int) ≤ (x : Int) := by omega
        have dy2 : ¬ (65536 : Int) ≤ (x : Int) := by omega
        have dy3 : (256 : Int) ≤ (x : Int) := by omega
        obtain ⟨y3, ey3⟩ : ∃ y3 : Nat, (x : Int) / 256 = (y3 : Int) := ⟨x / 256, by omega⟩
        have hz : (y3 : Int) < 256 := by omega
        obtain ⟨l, hix, hl, hw, h1, h2, h3⟩ := len_leaf x 8 y3 (by omega) (by omega) (by omega) (by omega)
        clear c1 c2 c3 k1 k2
        have HF := Lib.hid (And.intro hw (And.intro h1 (And.intro h2 h3)))
        clear hw h1 h2 h3
        go_enter Try.func131, Try.ntmps131
        go_upto_region 10 with fail
        generalize hT : ByteArray.mk _ = T
        obtain rfl : Lib.len8tab = T := by subst hT; kernel_rfl
        clear hT
        go_wp2_with fail
        go_ret
        obtain ⟨hw, h1, h2, h3⟩ := HF.out
        exact ⟨_, ret_i64 (by first | exact hw | omega), rfl, h1, h2, h3⟩
      · have dy1 : ¬ (4294967296 : Int) ≤ (x : Int) := by omega
        have dy2 : ¬ (65536 : Int) ≤ (x : Int) := by omega
        have dy3 : ¬ (256 : Int) ≤ (x : Int) := by omega
        have hz : (x : Int) < 256 := by omega
        obtain ⟨l, hix, hl, hw, h1, h2, h3⟩ := len_leaf x 0 x (by omega) (by omega) (by omega) (by omega)
        clear c1 c2 c3 k1 k2
        have HF := Lib.hid (And.intro hw (And.intro h1 (And.intro h2 h3)))
        clear hw h1 h2 h3
        go_enter Try.func131, Try.ntmps131
        go_upto_region 10 with fail
        generalize hT : ByteArray.mk _ = T
        obtain rfl : Lib.len8tab = T := by subst hT; kernel_rfl
        clear hT
        go_wp2_with fail
        go_ret
        obtain ⟨hw, h1, h2, h3⟩ := HF.out
        exact ⟨_, ret_i64 (by first | exact hw | omega), rfl, h1, h2, h3⟩
end Go.Proofs.Ytmmaimopombepaa