/- The contracts of package limb: wordOf, read. -/
import Derived.Test.YtccjhlipcgpkmaaDoorMinus
import Derived.PlainAid
import Derived.Deep.QuietTactic
import Derived.BigQuiet
namespace Go.Proofs.YtccjhlipcgpkmaaDoor
open Go.RowKit Go.PlainAid

theorem or_join (i : Nat) (x y m : Int) (hm : m = ((2 ^ i : Nat) : Int)) (hx0 : 0 ≤ x) (hx : x < m) (hy0 : 0 ≤ y) (hy : y ≤ 255) (hb : 256 * m ≤ 18446744073709551616) :
    bits .or .u64 x (IntKind.u64.wrap (IntKind.u64.wrap y * m)) = x + y * m := by
  obtain ⟨X, rfl⟩ := Int.eq_ofNat_of_zero_le hx0
  obtain ⟨Y, rfl⟩ := Int.eq_ofNat_of_zero_le hy0
  have e1 : IntKind.u64.wrap (Y : Int) = (Y : Int) := by rw [IntKind.wrap_u64]; omega
  have hYm : (Y : Int) * m ≤ 255 * m := Int.mul_le_mul_of_nonneg_right hy (by omega)
  have hY0 : 0 ≤ (Y : Int) * m := Int.mul_nonneg (by omega) (by omega)
  have e2 : IntKind.u64.wrap ((Y : Int) * m) = (Y : Int) * m := by rw [IntKind.wrap_u64]; omega
  rw [e1, e2]
  subst hm
  have e3 : (Y : Int) * ((2 ^ i : Nat) : Int) = ((Y * 2 ^ i : Nat) : Int) := (Int.natCast_mul _ _).symm
  rw [e3] at hYm hY0 ⊢
  rw [u64_or_nat X (Y * 2 ^ i) (by omega) (by omega), Nat.or_comm, nat_join i (Y * 2 ^ i) X (Nat.mul_mod_left _ _) (by omega)]
  omega

/-- the number that eight bytes tell -/
def word8 (s : ByteArray) : Int := bt s 0 + bt s 1 * 256 + bt s 2 * 65536 + bt s 3 * 16777216 + bt s 4 * 4294967296 + bt s 5 * 1099511627776 + bt s 6 * 281474976710656 + bt s 7 * 72057594037927936

theorem word_math (s : ByteArray) :
    bits .or .u64 (bits .or .u64 (bits .or .u64 (bits .or .u64 (bits .or .u64 (bits .or .u64 (bits .or .u64 (IntKind.u64.wrap (bt s 0)) (IntKind.u64.wrap (IntKind.u64.wrap (bt s 1) * 256)))
      (IntKind.u64.wrap (IntKind.u64.wrap (bt s 2) * 65536))) (IntKind.u64.wrap (IntKind.u64.wrap (bt s 3) * 16777216))) (IntKind.u64.wrap (IntKind.u64.wrap (bt s 4) * 4294967296)))
      (IntKind.u64.wrap (IntKind.u64.wrap (bt s 5) * 1099511627776))) (IntKind.u64.wrap (IntKind.u64.wrap (bt s 6) * 281474976710656))) (IntKind.u64.wrap (IntKind.u64.wrap (bt s 7) * 72057594037927936)) = word8 s := by
  have a0 := bt_nonneg s 0; have a1 := bt_nonneg s 1; have a2 := bt_nonneg s 2; have a3 := bt_nonneg s 3; have a4 := bt_nonneg s 4; have a5 := bt_nonneg s 5; have a6 := bt_nonneg s 6; have a7 := bt_nonneg s 7
  have b0 := bt_le s 0; have b1 := bt_le s 1; have b2 := bt_le s 2; have b3 := bt_le s 3; have b4 := bt_le s 4; have b5 := bt_le s 5; have b6 := bt_le s 6; have b7 := bt_le s 7
  have e : IntKind.u64.wrap (bt s 0) = bt s 0 := by rw [IntKind.wrap_u64]; omega
  unfold word8
  rw [e, or_join 8 (bt s 0) (bt s 1) 256 (by decide) (by omega) (by omega) (by omega) (by omega) (by omega)]
  rw [or_join 16 _ (bt s 2) 65536 (by decide) (by omega) (by omega) (by omega) (by omega) (by omega)]
  rw [or_join 24 _ (bt s 3) 16777216 (by decide) (by omega) (by omega) (by omega) (by omega) (by omega)]
  rw [or_join 32 _ (bt s 4) 4294967296 (by decide) (by omega) (by omega) (by omega) (by omega) (by omega)]
  rw [or_join 40 _ (bt s 5) 1099511627776 (by decide) (by omega) (by omega) (by omega) (by omega) (by omega)]
  rw [or_join 48 _ (bt s 6) 281474976710656 (by decide) (by omega) (by omega) (by omega) (by omega) (by omega)]
  rw [or_join 56 _ (bt s 7) 72057594037927936 (by decide) (by omega) (by omega) (by omega) (by omega) (by omega)]

theorem word8_U (s : ByteArray) : U (word8 s) := by
  have a0 := bt_nonneg s 0; have a1 := bt_nonneg s 1; have a2 := bt_nonneg s 2; have a3 := bt_nonneg s 3; have a4 := bt_nonneg s 4; have a5 := bt_nonneg s 5; have a6 := bt_nonneg s 6; have a7 := bt_nonneg s 7
  have b0 := bt_le s 0; have b1 := bt_le s 1; have b2 := bt_le s 2; have b3 := bt_le s 3; have b4 := bt_le s 4; have b5 := bt_le s 5; have b6 := bt_le s 6; have b7 := bt_le s 7
  unfold U word8; omega

set_option maxHeartbeats 1000000 in
theorem wordOf_any (s : ByteArray) (hs : s.size = 8) (w : World) :
    Calls Tryd.prog 53 #[.string s] w fun e w' => e = .returned (.int .u64 (word8 s)) ∧ ∃ n, w' = w.drewN n := by
  have hb := get_bt s
  have h0 : (0 : Int) < (s.size : Int) := by omega
  have h1 : (1 : Int) < (s.size : Int) := by omega
  have h2 : (2 : Int) < (s.size : Int) := by omega
  have h3 : (3 : Int) < (s.size : Int) := by omega
  have h4 : (4 : Int) < (s.size : Int) := by omega
  have h5 : (5 : Int) < (s.size : Int) := by omega
  have h6 : (6 : Int) < (s.size : Int) := by omega
  have h7 : (7 : Int) < (s.size : Int) := by omega
  have HS := Lib.hid hs
  clear hs
  go_enter Tryd.func53, Tryd.ntmps53
  go_wp2_with fail
  go_quiet (fail)
  go_wp2_with fail
  go_ret
  refine ⟨?_, _, rfl⟩
  show Ending.returned (Value.int .u64 _) = _
  rw [word_math]

/-- the number that 32 bytes tell, the lowest first -/
def leNum (s : ByteArray) : Int := val4 (word8 (s.extract 0 8)) (word8 (s.extract 8 16)) (word8 (s.extract 16 24)) (word8 (s.extract 24 32))

theorem num_read (s : ByteArray) : Is4 (word8 (s.extract 0 8)) (word8 (s.extract 8 16)) (word8 (s.extract 16 24)) (word8 (s.extract 24 32)) (leNum s) :=
  ⟨word8_U _, word8_U _, word8_U _, word8_U _, rfl⟩

theorem below_drewN {B : Nat} {a w : World} (h : Below B a w) (n : Nat) : Below B a (w.drewN n) := ⟨h.os, h.tape, h.output, h.size, h.block⟩

def ReadPost (s : ByteArray) (w : World) (e : Ending) (w' : World) : Prop :=
  ∃ a b c d, e = .returned (.tuple #[.agg #[.int .u64 a, .int .u64 b, .int .u64 c, .int .u64 d], .int .i64 0]) ∧ Is4 a b c d (leNum s) ∧ Below w.heap.size w w'

set_option maxHeartbeats 1000000 in
theorem read_bad (s : ByteArray) (hs : s.size ≠ 32) (_hm : s.size ≤ maxLen) (w : World) :
    Calls Tryd.prog 34 #[.string s] w fun e w' => e = .returned (.tuple #[.agg #[.int .u64 0, .int .u64 0, .int .u64 0, .int .u64 0], .int .i64 2]) ∧ Below w.heap.size w w' := by
  have h1 : ((s.size : Int) != 32) = true := by rw [bne_iff_ne]; omega
  have h2 : ((s.size : Int) == 32) = false := by rw [beq_eq_false_iff_ne]; omega
  go_enter Tryd.func34, Tryd.ntmps34
  go_wp2
  refine bodyPost_ret (v := .tuple #[.agg #[.int .u64 0, .int .u64 0, .int .u64 0, .int .u64 0], .int .i64 2]) (by simp [results, Tryd.results34, go_sem]) rfl ⟨rfl, ?_⟩
  go_grown

set_option maxHeartbeats 1000000 in
theorem read_good (s : ByteArray) (hs : s.size = 32) (w : World) :
    Calls Tryd.prog 34 #[.string s] w (ReadPost s w) := by
  have h1 : ((s.size : Int) != 32) = false := by rw [bne_eq_false_iff_eq]; omega
  have h2 : ((s.size : Int) == 32) = true := by rw [beq_iff_eq]; omega
  have h3 : (s.size : Int) ≥ 24 := by omega
  have h4 : (8 : Int) ≤ (s.size : Int) := by omega
  have h5 : (16 : Int) ≤ (s.size : Int) := by omega
  have h6 : (24 : Int) ≤ (s.size : Int) := by omega
  have h7 : (32 : Int) ≤ (s.size : Int) := by omega
  go_enter Tryd.func34, Tryd.ntmps34
  have e0 : (s.extract 0 8).size = 8 := by simp; omega
  have e1 : (s.extract 8 16).size = 8 := by simp; omega
  have e2 : (s.extract 16 24).size = 8 := by simp; omega
  have e3 : (s.extract 24 32).size = 8 := by simp; omega
  have E0 := Lib.hid e0; have E1 := Lib.hid e1; have E2 := Lib.hid e2; have E3 := Lib.hid e3
  clear e0 e1 e2 e3
  go_wp2_with fail
  go_region_with (go_at_call 53; refine (wordOf_any _ (by first | exact E0.out | exact E1.out | exact E2.out | exact E3.out) _).mono ?_; rintro e w' ⟨rfl, n, rfl⟩)
  go_wp2
  refine bodyPost_ret (v := .tuple #[.agg #[.int .u64 (word8 (s.extract 0 8)), .int .u64 (word8 (s.extract 8 16)), .int .u64 (word8 (s.extract 16 24)), .int .u64 (word8 (s.extract 24 32))], .int .i64 0]) (by simp [results, Tryd.results34, go_sem]) rfl ⟨_, _, _, _, rfl, num_read s, ?_⟩
  exact below_set4 (below_drewN ((Below.refl _ _).alloc (Nat.le_refl _) _) _) (Nat.le_refl _) _ _ _ _
end Go.Proofs.YtccjhlipcgpkmaaDoor
