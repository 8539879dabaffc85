/- The contracts of stream's smallest: turning left, Quarter, fit, wordOf. -/
import Derived.Test.YtikgefcbmoomjaaDoorRows
import Derived.Test.YtikgefcbmoomjaaDoorGspec
import Derived.Test.YtikgefcbmoomjaaDoorZb
namespace Go.Proofs.YtikgefcbmoomjaaDoor
open Go.RowKit
set_option maxRecDepth 100000
theorem and31p (n : Nat) (h : n < 32) : bits .and .u64 (IntKind.u64.wrap (n : Int)) 31 = (n : Int) := by
  have e : IntKind.u64.wrap (n : Int) = (n : Int) := by rw [IntKind.wrap_u64]; omega
  rw [e]
  show IntKind.u64.wrap (((BitVec.ofInt 64 (n : Int) &&& BitVec.ofInt 64 ((31 : Nat) : Int)).toNat : Nat) : Int) = _
  rw [BitVec.toNat_and, BitVec.ofInt_natCast, BitVec.ofInt_natCast, BitVec.toNat_ofNat, BitVec.toNat_ofNat]
  rw [Nat.mod_eq_of_lt (a := n) (by omega), Nat.mod_eq_of_lt (a := 31) (by omega)]
  rw [show n &&& 31 = n % 32 from Nat.and_two_pow_sub_one_eq_mod _ 5]
  rw [IntKind.wrap_u64]
  omega

set_option maxHeartbeats 400000 in
theorem rotlp_any (x : BitVec 32) (n : Nat) (h0 : 0 < n) (h1 : n < 32) (w : World) :
    Calls Tryd.prog 86 #[.int .u32 (x.toNat : Int), .int .i64 (n : Int)] w fun e w' => e = .returned (.int .u32 ((rl x n).toNat : Int)) ∧ w = w' := by
  have hK := and31p n h1
  rw [show IntKind.u64.wrap (n : Int) = (n : Int) by rw [IntKind.wrap_u64]; omega] at hK
  have es : ((32 : Int) - (n : Int)).toNat = 32 - n := by omega
  have hm1 : (n : Int) < 32 := by omega
  have hm0 : (0 : Int) < (n : Int) := by omega
  have e1 := shl32 x n
  have e2 := shr32 x (32 - n)
  have e3 := bits_or32 (x <<< n) (x >>> (32 - n))
  change _ = (((rl x n).toNat : Nat) : Int) at e3
  generalize rl x n = r at e3 ⊢
  generalize x <<< n = s at e1 e3 ⊢
  generalize x >>> (32 - n) = t at e2 e3 ⊢
  go_enter Tryd.func86, Tryd.ntmps86
  go_wp2
  go_ret
  exact ⟨rfl, rfl⟩

theorem fit_any (k n : ByteArray) (w : World) :
    Calls Tryd.prog 42 #[.string k, .string n] w fun e w' => e = .returned (.bool (decide (k.size = 32 ∧ n.size = 12))) ∧ w = w' := by
  go_enter Tryd.func42, Tryd.ntmps42
  go_wp2
  all_goals (go_ret; refine ⟨ret_bool ?_, rfl⟩)
  · have h : k.size = 32 := by omega
    rw [Bool.eq_iff_iff, decide_eq_true_iff, beq_iff_eq]; omega
  · have h : ¬ k.size = 32 := by omega
    simp [h]

theorem results_tmp4 {fn : Func} {t u v x : Tmp} (h : fn.results = #[.tmp t, .tmp u, .tmp v, .tmp x]) (tmps : Array Value) (P : Program) (w : World) :
    (results fn tmps).run P w = .ok (.tuple #[tmps.getD t undef, tmps.getD u undef, tmps.getD v undef, tmps.getD x undef]) w := by
  simp [results, h]
/-- four words as the law's and the code's results lie -/
def Q4.v (q : Q4) : Value := .tuple #[.int .u32 (q.a.toNat : Int), .int .u32 (q.b.toNat : Int), .int .u32 (q.c.toNat : Int), .int .u32 (q.d.toNat : Int)]
set_option maxHeartbeats 400000 in
theorem quarter_any (a b c d : BitVec 32) (w : World) :
    Calls Tryd.prog 83 #[.int .u32 (a.toNat : Int), .int .u32 (b.toNat : Int), .int .u32 (c.toNat : Int), .int .u32 (d.toNat : Int)] w fun e w' => e = .returned (qtr ⟨a, b, c, d⟩).v ∧ w = w' := by
  obtain ⟨a1, ea1⟩ : ∃ z, a + b = z := ⟨_, rfl⟩
  obtain ⟨x1, ex1⟩ : ∃ z, d ^^^ a1 = z := ⟨_, rfl⟩
  obtain ⟨d1, ed1⟩ : ∃ z, rl x1 16 = z := ⟨_, rfl⟩
  obtain ⟨c1, ec1⟩ : ∃ z, c + d1 = z := ⟨_, rfl⟩
  obtain ⟨y1, ey1⟩ : ∃ z, b ^^^ c1 = z := ⟨_, rfl⟩
  obtain ⟨b1, eb1⟩ : ∃ z, rl y1 12 = z := ⟨_, rfl⟩
  obtain ⟨a2, ea2⟩ : ∃ z, a1 + b1 = z := ⟨_, rfl⟩
  obtain ⟨x2, ex2⟩ : ∃ z, d1 ^^^ a2 = z := ⟨_, rfl⟩
  obtain ⟨d2, ed2⟩ : ∃ z, rl x2 8 = z := ⟨_, rfl⟩
  obtain ⟨c2, ec2⟩ : ∃ z, c1 + d2 = z := ⟨_, rfl⟩
  obtain ⟨y2, ey2⟩ : ∃ z, b1 ^^^ c2 = z := ⟨_, rfl⟩
  obtain ⟨b2, eb2⟩ : ∃ z, rl y2 7 = z := ⟨_, rfl⟩
  have hq : qtr ⟨a, b, c, d⟩ = ⟨a2, b2, c2, d2⟩ := by
    show qB 7 (qA 8 (qB 12 (qA 16 ⟨a, b, c, d⟩))) = _
    simp only [qA, qB, ea1, ex1, ed1, ec1, ey1, eb1, ea2, ex2, ed2, ec2, ey2, eb2]
  rw [hq]
  have h1 := add_mod32 a b a1 ea1
  have h2 := bits_xor32 d a1
  have h3 := Lib.hid (rotlp_any x1 16 (by omega) (by omega) w)
  have h4 := add_mod32 c d1 c1 ec1
  have h5 := bits_xor32 b c1
  have h6 := Lib.hid (rotlp_any y1 12 (by omega) (by omega) w)
  have h7 := add_mod32 a1 b1 a2 ea2
  have h8 := bits_xor32 d1 a2
  have h9 := Lib.hid (rotlp_any x2 8 (by omega) (by omega) w)
  have h10 := add_mod32 c1 d2 c2 ec2
  have h11 := bits_xor32 b1 c2
  have h12 := Lib.hid (rotlp_any y2 7 (by omega) (by omega) w)
  rw [ex1] at h2
  rw [ed1] at h3
  rw [ey1] at h5
  rw [eb1] at h6
  rw [ex2] at h8
  rw [ed2] at h9
  rw [ey2] at h11
  rw [eb2] at h12
  clear hq ea1 ex1 ed1 ec1 ey1 eb1 ea2 ex2 ed2 ec2 ey2 eb2
  go_enter Tryd.func83, Tryd.ntmps83
  go_wp2_with fail
  simp only [h1]
  refine h3.out.mono ?_
  rintro e w' ⟨rfl, rfl⟩
  go_wp2_with fail
  simp only [h4]
  refine h6.out.mono ?_
  rintro e w' ⟨rfl, rfl⟩
  go_wp2_with fail
  simp only [h7]
  refine h9.out.mono ?_
  rintro e w' ⟨rfl, rfl⟩
  go_wp2_with fail
  simp only [h10]
  refine h12.out.mono ?_
  rintro e w' ⟨rfl, rfl⟩
  go_wp2
  (try simp only [Exit.inBlock, Exit.then])
  refine bodyPost_ret (results_tmp4 rfl _ _ _) rfl ⟨rfl, rfl⟩

theorem wordLE_or (a b c d : UInt8) : bits .or .u32 (bits .or .u32 (bits .or .u32 (a.toNat : Int) ((b.toNat : Int) * 256)) ((c.toNat : Int) * 65536)) ((d.toNat : Int) * 16777216) = ((wordLE a b c d).toNat : Int) := by
  have ha := a.toNat_lt
  have hb := b.toNat_lt
  have hc := c.toNat_lt
  have hd := d.toNat_lt
  have e1 : bits .or .u32 (a.toNat : Int) ((b.toNat : Int) * 256) = ((b.toNat * 256 + a.toNat : Nat) : Int) := by
    have := bits_or_nat a.toNat (b.toNat * 256) (by omega) (by omega)
    rw [show ((b.toNat * 256 : Nat) : Int) = (b.toNat : Int) * 256 by omega] at this
    rw [this, Nat.or_comm]
    have h := or_sum b.toNat a.toNat 8 (by omega)
    rw [show (2 : Nat) ^ 8 = 256 from rfl] at h
    rw [h]
  have e2 : bits .or .u32 ((b.toNat * 256 + a.toNat : Nat) : Int) ((c.toNat : Int) * 65536) = ((c.toNat * 65536 + (b.toNat * 256 + a.toNat) : Nat) : Int) := by
    have := bits_or_nat (b.toNat * 256 + a.toNat) (c.toNat * 65536) (by omega) (by omega)
    rw [show ((c.toNat * 65536 : Nat) : Int) = (c.toNat : Int) * 65536 by omega] at this
    rw [this, Nat.or_comm]
    have h := or_sum c.toNat (b.toNat * 256 + a.toNat) 16 (by omega)
    rw [show (2 : Nat) ^ 16 = 65536 from rfl] at h
    rw [h]
  have e3 : bits .or .u32 ((c.toNat * 65536 + (b.toNat * 256 + a.toNat) : Nat) : Int) ((d.toNat : Int) * 16777216) = ((wordLE a b c d).toNat : Int) := by
    have := bits_or_nat (c.toNat * 65536 + (b.toNat * 256 + a.toNat)) (d.toNat * 16777216) (by omega) (by omega)
    rw [show ((d.toNat * 16777216 : Nat) : Int) = (d.toNat : Int) * 16777216 by omega] at this
    rw [this, Nat.or_comm]
    have h := or_sum d.toNat (c.toNat * 65536 + (b.toNat * 256 + a.toNat)) 24 (by omega)
    rw [show (2 : Nat) ^ 24 = 16777216 from rfl] at h
    rw [h, wordLE_toNat]
    exact congrArg Nat.cast (by omega)
  rw [e1, e2, e3]

set_option maxHeartbeats 400000 in
theorem sWordOf_any (s : ByteArray) (h : s.size = 4) (w : World) :
    Calls Tryd.prog 73 #[.string s] w fun e w' => e = .returned (.int .u32 ((wordLE s[0] s[1] s[2] s[3]).toNat : Int)) ∧ ∃ n, w' = w.drewN n := by
  have b1 : (0 : Int) < (s.size : Int) := by omega
  have b2 : (1 : Int) < (s.size : Int) := by omega
  have b3 : (2 : Int) < (s.size : Int) := by omega
  have b4 : (3 : Int) < (s.size : Int) := by omega
  have c1 := s[0].toNat_lt
  have c2 := s[1].toNat_lt
  have c3 := s[2].toNat_lt
  have c4 := s[3].toNat_lt
  have g0 : s[0]? = some s[0] := by simp
  go_enter Tryd.func73, Tryd.ntmps73
  go_wp2
  go_quiet (fail)
  go_wp2
  go_ret
  exact ⟨ret_u32 (wordLE_or _ _ _ _), _, rfl⟩
/-- a word of a text's four bytes at 4t -/
theorem sWordOf_at (s : ByteArray) (t : Nat) (h : 4 * t + 4 ≤ s.size) (w : World) :
    Calls Tryd.prog 73 #[.string (s.extract (4 * t) (4 * t + 4))] w fun e w' => e = .returned (.int .u32 ((leW (bl s) t).toNat : Int)) ∧ ∃ n, w' = w.drewN n := by
  have hs : (s.extract (4 * t) (4 * t + 4)).size = 4 := by rw [ByteArray.size_extract]; omega
  have e : wordLE (s.extract (4 * t) (4 * t + 4))[0] (s.extract (4 * t) (4 * t + 4))[1] (s.extract (4 * t) (4 * t + 4))[2] (s.extract (4 * t) (4 * t + 4))[3] = leW (bl s) t := by
    unfold leW
    rw [bl_get s (4 * t) (by omega), bl_get s (4 * t + 1) (by omega), bl_get s (4 * t + 2) (by omega), bl_get s (4 * t + 3) (by omega)]
    simp only [ByteArray.getElem_extract]
    rfl
  rw [← e]
  exact sWordOf_any _ hs w
end Go.Proofs.YtikgefcbmoomjaaDoor