/- The texts Num, Leaf, Blk, Bytes, Ql, one behind the other. -/
import Derived.WalkKit
import Derived.ProofKit
import Derived.Handy
import Derived.Lib.Hide
import Derived.Lib.Mul64
import Derived.Test.YthjlhcmdpeinpaaGreatDoorRows
import Derived.Deep.RegionWith
import Derived.Shelf.Spec.BitsCarry
import Derived.Laws.BytesArg
import Derived.Lib.QuietBelow
/- Plain mathematics of four words of 64 bits: what sums, differences and choices of them come to. Nothing of the program stands here. -/
namespace Go.Proofs.YthjlhcmdpeinpaaGreatDoor
set_option maxRecDepth 100000
open Go.RowKit
/-- a word of 64 bits -/
def U (n : Int) : Prop := 0 ≤ n ∧ n < 18446744073709551616
/-- the number that four words tell, the lowest first -/
def val4 (a b c d : Int) : Int := a + 18446744073709551616 * b + 340282366920938463463374607431768211456 * c + 6277101735386680763835789423207666416102355444464034512896 * d
/-- four words that tell x -/
def Is4 (a b c d x : Int) : Prop := U a ∧ U b ∧ U c ∧ U d ∧ val4 a b c d = x
/-- 2^256 -/
def W256 : Int := 115792089237316195423570985008687907853269984665640564039457584007913129639936
/-- the prime -/
def Pr : Int := 57896044618658097711785492504343953926634992332820282019728792003956564819949
/-- the sum of two words and a carry, by its low word and its carry -/
def AddTo (x y c s d : Int) : Prop := U s ∧ (0 ≤ d ∧ d ≤ 1) ∧ x + y + c = s + d * 18446744073709551616
/-- the difference of two words and a borrow -/
def SubTo (x y c s d : Int) : Prop := U s ∧ (0 ≤ d ∧ d ≤ 1) ∧ x - y - c = s - d * 18446744073709551616
/-- x times y, and a and b: low word, high word -/
def MulTo (x y a b l h : Int) : Prop := U l ∧ U h ∧ x * y + a + b = l + h * 18446744073709551616

theorem is4_range {a b c d x : Int} (h : Is4 a b c d x) : 0 ≤ x ∧ x < W256 := by
  unfold Is4 U val4 at h; unfold W256; omega

theorem sum4 {a0 a1 a2 a3 b0 b1 b2 b3 s0 s1 s2 s3 c0 c1 c2 c3 x y : Int} (ha : Is4 a0 a1 a2 a3 x) (hb : Is4 b0 b1 b2 b3 y)
    (e0 : AddTo a0 b0 0 s0 c0) (e1 : AddTo a1 b1 c0 s1 c1) (e2 : AddTo a2 b2 c1 s2 c2) (e3 : AddTo a3 b3 c2 s3 c3) :
    ∃ z, Is4 s0 s1 s2 s3 z ∧ (0 ≤ c3 ∧ c3 ≤ 1) ∧ z + c3 * W256 = x + y := by
  refine ⟨val4 s0 s1 s2 s3, ⟨e0.1, e1.1, e2.1, e3.1, rfl⟩, e3.2.1, ?_⟩
  obtain ⟨-, -, -, -, rfl⟩ := ha
  obtain ⟨-, -, -, -, rfl⟩ := hb
  have g0 := e0.2.2; have g1 := e1.2.2; have g2 := e2.2.2; have g3 := e3.2.2
  unfold val4 W256; omega

theorem diff4 {a0 a1 a2 a3 b0 b1 b2 b3 s0 s1 s2 s3 c0 c1 c2 c3 x y : Int} (ha : Is4 a0 a1 a2 a3 x) (hb : Is4 b0 b1 b2 b3 y)
    (e0 : SubTo a0 b0 0 s0 c0) (e1 : SubTo a1 b1 c0 s1 c1) (e2 : SubTo a2 b2 c1 s2 c2) (e3 : SubTo a3 b3 c2 s3 c3) :
    ∃ z, Is4 s0 s1 s2 s3 z ∧ (0 ≤ c3 ∧ c3 ≤ 1) ∧ z - c3 * W256 = x - y := by
  refine ⟨val4 s0 s1 s2 s3, ⟨e0.1, e1.1, e2.1, e3.1, rfl⟩, e3.2.1, ?_⟩
  obtain ⟨-, -, -, -, rfl⟩ := ha
  obtain ⟨-, -, -, -, rfl⟩ := hb
  have g0 := e0.2.2; have g1 := e1.2.2; have g2 := e2.2.2; have g3 := e3.2.2
  unfold val4 W256; omega

/-- the mask of ones picks the first, the mask of zeros the second -/
theorem pick_one (a b : Int) (ha : U a) (hb : U b) : bits .or .u64 (bits .and .u64 a (IntKind.u64.wrap (-1))) (bits .andNot .u64 b (IntKind.u64.wrap (-1))) = a := by
  obtain ⟨A, rfl⟩ := Int.eq_ofNat_of_zero_le ha.1
  obtain ⟨B, rfl⟩ := Int.eq_ofNat_of_zero_le hb.1
  have hA : A < 18446744073709551616 := by have := ha.2; omega
  have hB : B < 18446744073709551616 := by have := hb.2; omega
  have e : IntKind.u64.wrap (-1) = ((18446744073709551615 : Nat) : Int) := by rw [IntKind.wrap_u64]; rfl
  rw [e, u64_and_nat A _ hA (by omega), u64_andNot_nat B _ hB (by omega)]
  have m : A &&& 18446744073709551615 = A % 18446744073709551616 := Nat.and_two_pow_sub_one_eq_mod A 64
  have z : B &&& (18446744073709551615 - 18446744073709551615) = 0 := by simp
  rw [m, z, Nat.mod_eq_of_lt hA, u64_or_nat A 0 hA (by omega), Nat.or_zero]
theorem pick_two (a b : Int) (ha : U a) (hb : U b) : bits .or .u64 (bits .and .u64 a 0) (bits .andNot .u64 b 0) = b := by
  obtain ⟨A, rfl⟩ := Int.eq_ofNat_of_zero_le ha.1
  obtain ⟨B, rfl⟩ := Int.eq_ofNat_of_zero_le hb.1
  have hA : A < 18446744073709551616 := by have := ha.2; omega
  have hB : B < 18446744073709551616 := by have := hb.2; omega
  have e : (0 : Int) = ((0 : Nat) : Int) := rfl
  rw [e, u64_and_nat A _ hA (by omega), u64_andNot_nat B _ hB (by omega)]
  have m : B &&& (18446744073709551615 - 0) = B % 18446744073709551616 := Nat.and_two_pow_sub_one_eq_mod B 64
  rw [m, Nat.and_zero, Nat.mod_eq_of_lt hB, u64_or_nat 0 B (by omega) hB, Nat.zero_or]
end Go.Proofs.YthjlhcmdpeinpaaGreatDoor

/- The contracts of the leaves of package limb: sum, difference, choose, multiplyAdd, product, fold. -/
namespace Go.Proofs.YthjlhcmdpeinpaaGreatDoor
set_option maxRecDepth 100000
open Go.RowKit
/-- a value of type number that tells x -/
def Num (v : Value) (x : Int) : Prop := ∃ a b c d, v = .agg #[.int .u64 a, .int .u64 b, .int .u64 c, .int .u64 d] ∧ Is4 a b c d x

theorem add64_ex (x y c : Int) (hx : U x) (hy : U y) (hc : 0 ≤ c ∧ c ≤ 1) : ∃ s d, AddTo x y c s d ∧ ∀ w : World,
    (callFunc 229 #[.int .u64 x, .int .u64 y, .int .u64 c]).run Tryz.prog w =
      .ok (.value (.tuple #[.int .u64 s, .int .u64 d])) w := by
  refine ⟨(x + y + c) % 18446744073709551616, (x + y + c) / 18446744073709551616, ?_, fun w => ?_⟩
  · unfold AddTo U at *; omega
  rw [run_callFunc_extern Tryz.func229 (by kernel_rfl) (by kernel_rfl) (by kernel_rfl) (e := add64Entry) (by kernel_rfl), run_add64 x y c hx.1 hy.1 hc.1 hc.2]
  rfl

theorem sub64_ex (x y c : Int) (hx : U x) (hy : U y) (hc : 0 ≤ c ∧ c ≤ 1) : ∃ s d, SubTo x y c s d ∧ ∀ w : World,
    (callFunc 230 #[.int .u64 x, .int .u64 y, .int .u64 c]).run Tryz.prog w =
      .ok (.value (.tuple #[.int .u64 s, .int .u64 d])) w := by
  obtain ⟨X, rfl⟩ := Int.eq_ofNat_of_zero_le hx.1
  obtain ⟨Y, rfl⟩ := Int.eq_ofNat_of_zero_le hy.1
  obtain ⟨C, rfl⟩ := Int.eq_ofNat_of_zero_le hc.1
  refine ⟨(((X + 18446744073709551616 - Y - C) % 18446744073709551616 : Nat) : Int), ((if X < Y + C then 1 else 0 : Nat) : Int), ?_, fun w => ?_⟩
  · unfold SubTo U at *; split <;> omega
  rw [run_callFunc_extern Tryz.func230 (by kernel_rfl) (by kernel_rfl) (by kernel_rfl) (e := sub64Entry) (by kernel_rfl), run_sub64 X Y C (by omega)]
  rfl

def SumPost (x y : Int) (w : World) (e : Ending) (w' : World) : Prop :=
  ∃ a b c d k z, e = .returned (.tuple #[.agg #[.int .u64 a, .int .u64 b, .int .u64 c, .int .u64 d], .int .u64 k]) ∧ Is4 a b c d z ∧ (0 ≤ k ∧ k ≤ 1) ∧ z + k * W256 = x + y ∧ Below w.heap.size w w'
def DiffPost (x y : Int) (w : World) (e : Ending) (w' : World) : Prop :=
  ∃ a b c d k z, e = .returned (.tuple #[.agg #[.int .u64 a, .int .u64 b, .int .u64 c, .int .u64 d], .int .u64 k]) ∧ Is4 a b c d z ∧ (0 ≤ k ∧ k ≤ 1) ∧ z - k * W256 = x - y ∧ Below w.heap.size w w'

set_option maxHeartbeats 1000000 in
theorem sum_any (va vb : Value) (x y : Int) (hva : Num va x) (hvb : Num vb y) (w : World) :
    Calls Tryz.prog 214 #[va, vb] w (SumPost x y w) := by
  obtain ⟨a0, a1, a2, a3, rfl, ha⟩ := hva
  obtain ⟨b0, b1, b2, b3, rfl, hb⟩ := hvb
  obtain ⟨s0, c0, e0, r0⟩ := add64_ex a0 b0 0 ha.1 hb.1 (by omega)
  obtain ⟨s1, c1, e1, r1⟩ := add64_ex a1 b1 c0 ha.2.1 hb.2.1 e0.2.1
  obtain ⟨s2, c2, e2, r2⟩ := add64_ex a2 b2 c1 ha.2.2.1 hb.2.2.1 e1.2.1
  obtain ⟨s3, c3, e3, r3⟩ := add64_ex a3 b3 c2 ha.2.2.2.1 hb.2.2.2.1 e2.2.1
  obtain ⟨z, hz, hk, ez⟩ := sum4 ha hb e0 e1 e2 e3
  have EZ := Lib.hid ez
  clear ez e0 e1 e2 e3
  go_enter Tryz.func214, Tryz.ntmps214
  go_wp2
  refine wp_loop_rounds 5 ?_
  rw [rounds_succ]; go_wp2; go_region; go_wp2
  rw [rounds_succ]; go_wp2; go_region; go_wp2
  rw [rounds_succ]; go_wp2; go_region; go_wp2
  rw [rounds_succ]; go_wp2; go_region; go_wp2
  rw [rounds_succ]; go_wp2
  refine bodyPost_ret (v := .tuple #[.agg #[.int .u64 s0, .int .u64 s1, .int .u64 s2, .int .u64 s3], .int .u64 c3]) (by simp [results, Tryz.results214, go_sem]) rfl ⟨s0, s1, s2, s3, c3, z, rfl, hz, hk, EZ.out, ?_⟩
  go_grown

set_option maxHeartbeats 1000000 in
theorem diff_any (va vb : Value) (x y : Int) (hva : Num va x) (hvb : Num vb y) (w : World) :
    Calls Tryz.prog 215 #[va, vb] w (DiffPost x y w) := by
  obtain ⟨a0, a1, a2, a3, rfl, ha⟩ := hva
  obtain ⟨b0, b1, b2, b3, rfl, hb⟩ := hvb
  obtain ⟨s0, c0, e0, r0⟩ := sub64_ex a0 b0 0 ha.1 hb.1 (by omega)
  obtain ⟨s1, c1, e1, r1⟩ := sub64_ex a1 b1 c0 ha.2.1 hb.2.1 e0.2.1
  obtain ⟨s2, c2, e2, r2⟩ := sub64_ex a2 b2 c1 ha.2.2.1 hb.2.2.1 e1.2.1
  obtain ⟨s3, c3, e3, r3⟩ := sub64_ex a3 b3 c2 ha.2.2.2.1 hb.2.2.2.1 e2.2.1
  obtain ⟨z, hz, hk, ez⟩ := diff4 ha hb e0 e1 e2 e3
  have EZ := Lib.hid ez
  clear ez e0 e1 e2 e3
  go_enter Tryz.func215, Tryz.ntmps215
  go_wp2
  refine wp_loop_rounds 5 ?_
  rw [rounds_succ]; go_wp2; go_region; go_wp2
  rw [rounds_succ]; go_wp2; go_region; go_wp2
  rw [rounds_succ]; go_wp2; go_region; go_wp2
  rw [rounds_succ]; go_wp2; go_region; go_wp2
  rw [rounds_succ]; go_wp2
  refine bodyPost_ret (v := .tuple #[.agg #[.int .u64 s0, .int .u64 s1, .int .u64 s2, .int .u64 s3], .int .u64 c3]) (by simp [results, Tryz.results215, go_sem]) rfl ⟨s0, s1, s2, s3, c3, z, rfl, hz, hk, EZ.out, ?_⟩
  go_grown

def NumPost (p : Int → Prop) (w : World) (e : Ending) (w' : World) : Prop :=
  ∃ a b c d z, e = .returned (.agg #[.int .u64 a, .int .u64 b, .int .u64 c, .int .u64 d]) ∧ Is4 a b c d z ∧ p z ∧ Below w.heap.size w w'

end Go.Proofs.YthjlhcmdpeinpaaGreatDoor

/- Four words that lie in a block of their own: what becomes of them behind a store of four, and behind a call. -/
namespace Go.Proofs.YthjlhcmdpeinpaaGreatDoor
set_option maxRecDepth 100000
open Go.RowKit
def Blk (w : World) (B : Nat) (a b c d : Int) : Prop :=
  (w.cell? ⟨B, 0, none⟩ = some (.int .u64 a) ∧ w.cell? ⟨B, 1, none⟩ = some (.int .u64 b) ∧ w.cell? ⟨B, 2, none⟩ = some (.int .u64 c) ∧ w.cell? ⟨B, 3, none⟩ = some (.int .u64 d)) ∧
  (w.frozen? ⟨B, 0, none⟩ = false ∧ w.frozen? ⟨B, 1, none⟩ = false ∧ w.frozen? ⟨B, 2, none⟩ = false ∧ w.frozen? ⟨B, 3, none⟩ = false)

theorem Blk.below {n B : Nat} {w w' : World} {a b c d : Int} (h : Blk w B a b c d) (hb : Below n w w') (hB : B < n) : Blk w' B a b c d := by
  obtain ⟨⟨h0, h1, h2, h3⟩, ⟨f0, f1, f2, f3⟩⟩ := h
  refine ⟨⟨?_, ?_, ?_, ?_⟩, ⟨?_, ?_, ?_, ?_⟩⟩
  all_goals first | rw [hb.cell (p := ⟨B, _, none⟩) hB]; assumption | rw [hb.frozen (p := ⟨B, _, none⟩) hB]; assumption

theorem Blk.lt {B : Nat} {w : World} {a b c d : Int} (h : Blk w B a b c d) : B < w.heap.size := World.block_lt_of_cell? w _ h.1.1

theorem Blk.drew {B : Nat} {w : World} {a b c d : Int} (h : Blk w B a b c d) : Blk w.drew B a b c d := h

theorem Blk.far {B : Nat} {w : World} {a b c d : Int} (h : Blk w B a b c d) {p : Addr} (hp : p.block ≠ B) (v : Value) : Blk (w.setCell p v) B a b c d := by
  obtain ⟨⟨h0, h1, h2, h3⟩, ⟨f0, f1, f2, f3⟩⟩ := h
  have key : ∀ o, (w.setCell p v).cell? ⟨B, o, none⟩ = w.cell? ⟨B, o, none⟩ := fun o => by
    rw [World.cell?_setCell_other]; intro e; subst e; exact hp rfl
  exact ⟨⟨(key _).trans h0, (key _).trans h1, (key _).trans h2, (key _).trans h3⟩, ⟨by simpa using f0, by simpa using f1, by simpa using f2, by simpa using f3⟩⟩

theorem Blk.alloc {B : Nat} {w : World} {a b c d : Int} (h : Blk w B a b c d) (o : Obj) : Blk (w.alloc o) B a b c d :=
  h.below ((Below.refl _ _).alloc (Nat.le_refl _) o) h.lt

theorem Blk.set0 {B : Nat} {w : World} {a b c d : Int} (h : Blk w B a b c d) (v : Int) : Blk (w.setCell ⟨B, 0, none⟩ (.int .u64 v)) B v b c d := by
  obtain ⟨⟨h0, h1, h2, h3⟩, ⟨f0, f1, f2, f3⟩⟩ := h
  refine ⟨⟨World.cell?_setCell_same _ _ _ h0, ?_, ?_, ?_⟩, ⟨by simpa using f0, by simpa using f1, by simpa using f2, by simpa using f3⟩⟩
  all_goals (rw [World.cell?_setCell_other]; assumption; simp)
theorem Blk.set1 {B : Nat} {w : World} {a b c d : Int} (h : Blk w B a b c d) (v : Int) : Blk (w.setCell ⟨B, 1, none⟩ (.int .u64 v)) B a v c d := by
  obtain ⟨⟨h0, h1, h2, h3⟩, ⟨f0, f1, f2, f3⟩⟩ := h
  refine ⟨⟨?_, World.cell?_setCell_same _ _ _ h1, ?_, ?_⟩, ⟨by simpa using f0, by simpa using f1, by simpa using f2, by simpa using f3⟩⟩
  all_goals (rw [World.cell?_setCell_other]; assumption; simp)
theorem Blk.set2 {B : Nat} {w : World} {a b c d : Int} (h : Blk w B a b c d) (v : Int) : Blk (w.setCell ⟨B, 2, none⟩ (.int .u64 v)) B a b v d := by
  obtain ⟨⟨h0, h1, h2, h3⟩, ⟨f0, f1, f2, f3⟩⟩ := h
  refine ⟨⟨?_, ?_, World.cell?_setCell_same _ _ _ h2, ?_⟩, ⟨by simpa using f0, by simpa using f1, by simpa using f2, by simpa using f3⟩⟩
  all_goals (rw [World.cell?_setCell_other]; assumption; simp)
theorem Blk.set3 {B : Nat} {w : World} {a b c d : Int} (h : Blk w B a b c d) (v : Int) : Blk (w.setCell ⟨B, 3, none⟩ (.int .u64 v)) B a b c v := by
  obtain ⟨⟨h0, h1, h2, h3⟩, ⟨f0, f1, f2, f3⟩⟩ := h
  refine ⟨⟨?_, ?_, ?_, World.cell?_setCell_same _ _ _ h3⟩, ⟨by simpa using f0, by simpa using f1, by simpa using f2, by simpa using f3⟩⟩
  all_goals (rw [World.cell?_setCell_other]; assumption; simp)
theorem Blk.set4 {B : Nat} {w : World} {a b c d : Int} (h : Blk w B a b c d) (p q r s : Int) :
    Blk ((((w.setCell ⟨B, 0, none⟩ (.int .u64 p)).setCell ⟨B, 1, none⟩ (.int .u64 q)).setCell ⟨B, 2, none⟩ (.int .u64 r)).setCell ⟨B, 3, none⟩ (.int .u64 s)) B p q r s :=
  (((h.set0 p).set1 q).set2 r).set3 s
theorem Blk.far4 {B B' : Nat} {w : World} {a b c d : Int} (h : Blk w B' a b c d) (hne : B ≠ B') (p q r s : Value) :
    Blk ((((w.setCell ⟨B, 0, none⟩ p).setCell ⟨B, 1, none⟩ q).setCell ⟨B, 2, none⟩ r).setCell ⟨B, 3, none⟩ s) B' a b c d :=
  (((h.far hne p).far hne q).far hne r).far hne s
theorem Blk.fresh (w : World) (a b c d : Int) (t : TypeId) : Blk (w.alloc (.cells #[.int .u64 a, .int .u64 b, .int .u64 c, .int .u64 d] t)) w.heap.size a b c d := by
  refine ⟨⟨?_, ?_, ?_, ?_⟩, ⟨?_, ?_, ?_, ?_⟩⟩ <;> simp
theorem Blk.fresh_at (w : World) (a b c d : Int) (t : TypeId) (n : Nat) (hn : n = w.heap.size) : Blk (w.alloc (.cells #[.int .u64 a, .int .u64 b, .int .u64 c, .int .u64 d] t)) n a b c d := by
  subst hn; exact Blk.fresh w a b c d t
theorem below_set4 {n B : Nat} {w0 w : World} (h : Below n w0 w) (hn : n ≤ B) (p q r s : Value) :
    Below n w0 ((((w.setCell ⟨B, 0, none⟩ p).setCell ⟨B, 1, none⟩ q).setCell ⟨B, 2, none⟩ r).setCell ⟨B, 3, none⟩ s) :=
  (((h.setCell hn p).setCell hn q).setCell hn r).setCell hn s
theorem size_set4 (w : World) (B : Nat) (p q r s : Value) : ((((w.setCell ⟨B, 0, none⟩ p).setCell ⟨B, 1, none⟩ q).setCell ⟨B, 2, none⟩ r).setCell ⟨B, 3, none⟩ s).heap.size = w.heap.size := by simp
theorem cell_far4 (w : World) {n X : Nat} (h : n ≠ X) (o : Nat) (p q r s : Value) :
    ((((w.setCell ⟨n, 0, none⟩ p).setCell ⟨n, 1, none⟩ q).setCell ⟨n, 2, none⟩ r).setCell ⟨n, 3, none⟩ s).cell? ⟨X, o, none⟩ = w.cell? ⟨X, o, none⟩ := by
  have key : ∀ (v : World) (k : Nat) (u : Value), (v.setCell ⟨n, k, none⟩ u).cell? ⟨X, o, none⟩ = v.cell? ⟨X, o, none⟩ := fun v k u => by
    rw [World.cell?_setCell_other]; intro e; cases e; exact h rfl
  rw [key, key, key, key]
theorem two_far4 {w' : World} {A B n : Nat} {a0 a1 a2 a3 b0 b1 b2 b3 : Value}
    (h : (w'.cell? ⟨A, 0, none⟩ = some a0 ∧ w'.cell? ⟨A, 1, none⟩ = some a1 ∧ w'.cell? ⟨A, 2, none⟩ = some a2 ∧ w'.cell? ⟨A, 3, none⟩ = some a3) ∧ (w'.cell? ⟨B, 0, none⟩ = some b0 ∧ w'.cell? ⟨B, 1, none⟩ = some b1 ∧ w'.cell? ⟨B, 2, none⟩ = some b2 ∧ w'.cell? ⟨B, 3, none⟩ = some b3))
    (h1 : n ≠ A) (h2 : n ≠ B) (p q r s : Value) :
    ((((((w'.setCell ⟨n, 0, none⟩ p).setCell ⟨n, 1, none⟩ q).setCell ⟨n, 2, none⟩ r).setCell ⟨n, 3, none⟩ s).cell? ⟨A, 0, none⟩ = some a0 ∧ ((((w'.setCell ⟨n, 0, none⟩ p).setCell ⟨n, 1, none⟩ q).setCell ⟨n, 2, none⟩ r).setCell ⟨n, 3, none⟩ s).cell? ⟨A, 1, none⟩ = some a1 ∧ ((((w'.setCell ⟨n, 0, none⟩ p).setCell ⟨n, 1, none⟩ q).setCell ⟨n, 2, none⟩ r).setCell ⟨n, 3, none⟩ s).cell? ⟨A, 2, none⟩ = some a2 ∧ ((((w'.setCell ⟨n, 0, none⟩ p).setCell ⟨n, 1, none⟩ q).setCell ⟨n, 2, none⟩ r).setCell ⟨n, 3, none⟩ s).cell? ⟨A, 3, none⟩ = some a3) ∧
     (((((w'.setCell ⟨n, 0, none⟩ p).setCell ⟨n, 1, none⟩ q).setCell ⟨n, 2, none⟩ r).setCell ⟨n, 3, none⟩ s).cell? ⟨B, 0, none⟩ = some b0 ∧ ((((w'.setCell ⟨n, 0, none⟩ p).setCell ⟨n, 1, none⟩ q).setCell ⟨n, 2, none⟩ r).setCell ⟨n, 3, none⟩ s).cell? ⟨B, 1, none⟩ = some b1 ∧ ((((w'.setCell ⟨n, 0, none⟩ p).setCell ⟨n, 1, none⟩ q).setCell ⟨n, 2, none⟩ r).setCell ⟨n, 3, none⟩ s).cell? ⟨B, 2, none⟩ = some b2 ∧ ((((w'.setCell ⟨n, 0, none⟩ p).setCell ⟨n, 1, none⟩ q).setCell ⟨n, 2, none⟩ r).setCell ⟨n, 3, none⟩ s).cell? ⟨B, 3, none⟩ = some b3)) := by
  simp only [cell_far4 w' h1, cell_far4 w' h2]
  exact h
theorem two_below {w' w1 : World} {A B n : Nat} {a0 a1 a2 a3 b0 b1 b2 b3 : Value}
    (h : (w'.cell? ⟨A, 0, none⟩ = some a0 ∧ w'.cell? ⟨A, 1, none⟩ = some a1 ∧ w'.cell? ⟨A, 2, none⟩ = some a2 ∧ w'.cell? ⟨A, 3, none⟩ = some a3) ∧ (w'.cell? ⟨B, 0, none⟩ = some b0 ∧ w'.cell? ⟨B, 1, none⟩ = some b1 ∧ w'.cell? ⟨B, 2, none⟩ = some b2 ∧ w'.cell? ⟨B, 3, none⟩ = some b3))
    (hb : Below n w' w1) (h1 : A < n) (h2 : B < n) :
    (w1.cell? ⟨A, 0, none⟩ = some a0 ∧ w1.cell? ⟨A, 1, none⟩ = some a1 ∧ w1.cell? ⟨A, 2, none⟩ = some a2 ∧ w1.cell? ⟨A, 3, none⟩ = some a3) ∧ (w1.cell? ⟨B, 0, none⟩ = some b0 ∧ w1.cell? ⟨B, 1, none⟩ = some b1 ∧ w1.cell? ⟨B, 2, none⟩ = some b2 ∧ w1.cell? ⟨B, 3, none⟩ = some b3) := by
  have k1 : ∀ o, w1.cell? ⟨A, o, none⟩ = w'.cell? ⟨A, o, none⟩ := fun o => hb.cell (p := ⟨A, o, none⟩) h1
  have k2 : ∀ o, w1.cell? ⟨B, o, none⟩ = w'.cell? ⟨B, o, none⟩ := fun o => hb.cell (p := ⟨B, o, none⟩) h2
  simp only [k1, k2]
  exact h
end Go.Proofs.YthjlhcmdpeinpaaGreatDoor

/- A number's bytes, the lowest first. Nothing of the program stands here. -/
namespace Go.Proofs.YthjlhcmdpeinpaaGreatDoor
set_option maxRecDepth 100000
open Go.RowKit
/-- the n lowest bytes of x, as numbers -/
def bytesLE : Nat → Int → List Int
  | 0, _ => []
  | n + 1, x => x % 256 :: bytesLE n (x / 256)
theorem bytesLE_length (n : Nat) : ∀ x, (bytesLE n x).length = n := by
  induction n with
  | zero => intro x; rfl
  | succ n ih => intro x; simp [bytesLE, ih]
/-- the text that tells x by 32 bytes -/
def leStr (x : Int) : ByteArray := strOfNums (bytesLE 32 x)
theorem leStr_size (x : Int) : (leStr x).size = 32 := by unfold leStr; rw [strOfNums_size, bytesLE_length]
def tell8 (c : Int) : List Int := [c % 256, c / 256 % 256, c / 65536 % 256, c / 16777216 % 256, c / 4294967296 % 256, c / 1099511627776 % 256, c / 281474976710656 % 256, c / 72057594037927936 % 256]
theorem bytesLE_word (n : Nat) (c y : Int) (hc : U c) : bytesLE (n + 8) (c + 18446744073709551616 * y) = tell8 c ++ bytesLE n y := by
  unfold U at hc
  simp only [bytesLE, tell8, List.cons_append, List.nil_append]
  have e0 : (c + 18446744073709551616 * y) % 256 = c % 256 := by omega
  have d1 : (c + 18446744073709551616 * y) / 256 = c / 256 + 72057594037927936 * y := by omega
  rw [e0, d1]
  have e1 : (c / 256 + 72057594037927936 * y) % 256 = c / 256 % 256 := by omega
  have d2 : (c / 256 + 72057594037927936 * y) / 256 = c / 65536 + 281474976710656 * y := by omega
  rw [e1, d2]
  have e2 : (c / 65536 + 281474976710656 * y) % 256 = c / 65536 % 256 := by omega
  have d3 : (c / 65536 + 281474976710656 * y) / 256 = c / 16777216 + 1099511627776 * y := by omega
  rw [e2, d3]
  have e3 : (c / 16777216 + 1099511627776 * y) % 256 = c / 16777216 % 256 := by omega
  have d4 : (c / 16777216 + 1099511627776 * y) / 256 = c / 4294967296 + 4294967296 * y := by omega
  rw [e3, d4]
  have e4 : (c / 4294967296 + 4294967296 * y) % 256 = c / 4294967296 % 256 := by omega
  have d5 : (c / 4294967296 + 4294967296 * y) / 256 = c / 1099511627776 + 16777216 * y := by omega
  rw [e4, d5]
  have e5 : (c / 1099511627776 + 16777216 * y) % 256 = c / 1099511627776 % 256 := by omega
  have d6 : (c / 1099511627776 + 16777216 * y) / 256 = c / 281474976710656 + 65536 * y := by omega
  rw [e5, d6]
  have e6 : (c / 281474976710656 + 65536 * y) % 256 = c / 281474976710656 % 256 := by omega
  have d7 : (c / 281474976710656 + 65536 * y) / 256 = c / 72057594037927936 + 256 * y := by omega
  rw [e6, d7]
  have e7 : (c / 72057594037927936 + 256 * y) % 256 = c / 72057594037927936 % 256 := by omega
  have d8 : (c / 72057594037927936 + 256 * y) / 256 = y := by omega
  rw [e7, d8]
def tell32 (a b c d : Int) : List Int := [a % 256, a / 256 % 256, a / 65536 % 256, a / 16777216 % 256, a / 4294967296 % 256, a / 1099511627776 % 256, a / 281474976710656 % 256, a / 72057594037927936 % 256,
  b % 256, b / 256 % 256, b / 65536 % 256, b / 16777216 % 256, b / 4294967296 % 256, b / 1099511627776 % 256, b / 281474976710656 % 256, b / 72057594037927936 % 256,
  c % 256, c / 256 % 256, c / 65536 % 256, c / 16777216 % 256, c / 4294967296 % 256, c / 1099511627776 % 256, c / 281474976710656 % 256, c / 72057594037927936 % 256,
  d % 256, d / 256 % 256, d / 65536 % 256, d / 16777216 % 256, d / 4294967296 % 256, d / 1099511627776 % 256, d / 281474976710656 % 256, d / 72057594037927936 % 256]
theorem tell32_eq {a b c d x : Int} (h : Is4 a b c d x) : tell32 a b c d = bytesLE 32 x := by
  obtain ⟨ha, hb, hc, hd, rfl⟩ := h
  have e : val4 a b c d = a + 18446744073709551616 * (b + 18446744073709551616 * (c + 18446744073709551616 * (d + 18446744073709551616 * 0))) := by unfold val4; omega
  rw [e, show (32 : Nat) = 24 + 8 from rfl, bytesLE_word _ _ _ ha, show (24 : Nat) = 16 + 8 from rfl, bytesLE_word _ _ _ hb, show (16 : Nat) = 8 + 8 from rfl, bytesLE_word _ _ _ hc, show (8 : Nat) = 0 + 8 from rfl, bytesLE_word _ _ _ hd]
  rfl
end Go.Proofs.YthjlhcmdpeinpaaGreatDoor

/- A region that draws its order, whose operations only read or call (whatever the callees lay), and whose last operation, a store, waits for all others: one walk in the order of the text serves every order. -/
namespace Go.Proofs.YthjlhcmdpeinpaaGreatDoor
open Go.RowKit Go.Sort
section
variable {P : Program} {ops opsq : Array Oper} {md : Region.Mode} {C : World → Prop}
/-- every edge leads down, and every operation but the last is waited for by a later one -/
def lastB (md : Region.Mode) (ops : Array Oper) : Bool :=
  ((List.range ops.size).all fun j => ((ops[j]?).map fun o => o.after.all fun e => decide (e.on < j)).getD false) &&
  ((List.range (ops.size - 1)).all fun j => (List.range ops.size).any fun k => decide (j < k) && ((ops[k]?).map fun o => o.after.any fun e => Region.binds md e && (e.on == j)).getD false)

theorem lastB_down (h : lastB md ops = true) : ∀ (j : Nat) (o : Oper), ops[j]? = some o → ∀ e ∈ o.after, e.on < j := by
  intro j o ho e he
  unfold lastB at h
  rw [Bool.and_eq_true] at h
  have h1 := List.all_eq_true.1 h.1 j (List.mem_range.2 (Array.getElem?_eq_some_iff.1 ho).1)
  rw [ho] at h1
  simp only [Option.map_some, Option.getD_some, Array.all_eq_true_iff_forall_mem] at h1
  exact of_decide_eq_true (h1 e he)
theorem lastB_waited (h : lastB md ops = true) : ∀ j : Nat, j + 1 < ops.size → ∃ k o, j < k ∧ ops[k]? = some o ∧ ∃ e ∈ o.after, Region.binds md e = true ∧ e.on = j := by
  intro j hj
  unfold lastB at h
  rw [Bool.and_eq_true] at h
  have h1 := List.all_eq_true.1 h.2 j (List.mem_range.2 (by omega))
  obtain ⟨k, hk, h2⟩ := List.any_eq_true.1 h1
  rw [Bool.and_eq_true] at h2
  obtain ⟨h3, h4⟩ := h2
  cases ho : ops[k]? with
  | none => rw [ho] at h4; simp at h4
  | some o =>
    rw [ho] at h4
    simp only [Option.map_some, Option.getD_some, Array.any_eq_true] at h4
    obtain ⟨i, hi, h5⟩ := h4
    rw [Bool.and_eq_true] at h5
    exact ⟨k, o, of_decide_eq_true h3, ho, o.after[i], Array.getElem_mem hi, h5.1, by simpa using h5.2⟩

/-- what is listed has had all listed that it waits for -/
def Closed (md : Region.Mode) (ops : Array Oper) (listed : Array Bool) : Prop :=
  ∀ (j : Nat) (o : Oper), ops[j]? = some o → listed.getD j true = true → ∀ e ∈ o.after, Region.binds md e = true → listed.getD e.on false = true

theorem getD_two {listed : Array Bool} {j : Nat} (hj : j < listed.size) : listed.getD j true = listed.getD j false := by
  simp [hj]

theorem Closed.set {listed : Array Bool} (h : Closed md ops listed) {i : Nat} (hi : i ∈ Region.ready md ops listed) : Closed md ops (listed.setIfInBounds i true) := by
  intro j o ho hl e he hb
  by_cases hij : i = j
  · subst hij
    obtain ⟨-, o', ho', hall⟩ := mem_ready.1 hi
    obtain rfl : o' = o := Option.some.inj (ho'.symm.trans ho)
    exact getD_set_true (hall e he hb)
  · rw [getD_set_ne true hij] at hl
    exact getD_set_true (h j o ho hl e he hb)

theorem ready_some (hdown : ∀ (j : Nat) (o : Oper), ops[j]? = some o → ∀ e ∈ o.after, e.on < j) {listed : Array Bool} (hsz : listed.size = ops.size) :
    ∀ n : Nat, n < ops.size → listed.getD n true = false → ∃ i, i ∈ Region.ready md ops listed := by
  intro n
  induction n using Nat.strongRecOn with
  | _ n ih =>
    intro hn hl
    have ho : ops[n]? = some ops[n] := Array.getElem?_eq_getElem hn
    by_cases h : ∀ e ∈ ops[n].after, Region.binds md e = true → listed.getD e.on false = true
    · exact ⟨n, mem_ready.2 ⟨hl, _, ho, h⟩⟩
    · obtain ⟨e, h⟩ := Classical.not_forall.1 h
      obtain ⟨he, h⟩ := Classical.not_imp.1 h
      obtain ⟨-, h⟩ := Classical.not_imp.1 h
      have hlt := hdown n _ ho e he
      refine ih e.on hlt (by omega) ?_
      rw [getD_two (by omega)]
      simpa using h

theorem all_listed (hw : ∀ j : Nat, j + 1 < ops.size → ∃ k o, j < k ∧ ops[k]? = some o ∧ ∃ e ∈ o.after, Region.binds md e = true ∧ e.on = j) {listed : Array Bool} (hsz : listed.size = ops.size)
    (hc : Closed md ops listed) {n : Nat} (hn : ops.size = n + 1) (hr : n ∈ Region.ready md ops listed) : ∀ m j : Nat, n - j ≤ m → j < n → listed.getD j true = true
  | 0, j, hm, hj => by omega
  | m + 1, j, hm, hj => by
    obtain ⟨k, o, hjk, ho, e, he, hb, rfl⟩ := hw j (by omega)
    have hk : k < ops.size := (Array.getElem?_eq_some_iff.1 ho).1
    rw [getD_two (by omega)]
    by_cases hkn : k = n
    · subst hkn
      obtain ⟨-, o', ho', hall⟩ := mem_ready.1 hr
      obtain rfl : o' = o := Option.some.inj (ho'.symm.trans ho)
      exact hall e he hb
    · exact hc k o ho (all_listed hw hsz hc hn hr m k (by omega) (by omega)) e he hb

theorem wpAny_done {Q' : Exit → Act → World → Prop} {listed : Array Bool} {a : Act} {w : World} (hr : Region.ready md ops listed = []) (h : Q' .normal a w) : ∀ fuel, wpAny P md ops Q' fuel listed a w
  | 0 => ⟨hr, h⟩
  | fuel + 1 => ⟨fun _ => h, fun i hi => by rw [hr] at hi; cases hi⟩
theorem wpAnyQ_done {Q : Act → Prop} {listed : Array Bool} {a : Act} (hr : Region.ready md ops listed = []) : ∀ fuel, wpAnyQ P md ops C Q fuel listed a → Q a
  | 0, h => h.2
  | _ + 1, h => h.1 hr

theorem wpAny_of_quiet_last {Q : Act → Prop} {Q' : Exit → Act → World → Prop} {n : Nat} {o : Oper} (hn : ops.size = n + 1) (ho : ops[n]? = some o) (hL : lastB md ops = true)
    (hrd : ∀ listed, Region.ready md opsq listed = Region.ready md ops listed) (hy : yielded opsq = yielded ops) (hq : ∀ j, j ≠ n → opsq[j]? = ops[j]?)
    (hqn : ∀ (K : Act → Prop) (a : Act), qOp P opsq C n K a → K a)
    (hQ : ∀ a w, C w → Q a → wpList P ops Q' [o] a w) :
    ∀ (fuel : Nat) (listed : Array Bool) (a : Act) (w : World), C w → listed.size = ops.size → Closed md ops listed → listed.getD n true = false → wpAnyQ P md opsq C Q fuel listed a → wpAny P md ops Q' fuel listed a w := by
  intro fuel
  induction fuel with
  | zero =>
    intro listed a w _ hsz _ hln h
    obtain ⟨i, hi⟩ := ready_some (md := md) (lastB_down hL) hsz n (by omega) hln
    have h1 := h.1
    rw [hrd] at h1
    rw [h1] at hi
    cases hi
  | succ fuel ih =>
    intro listed a w hC hsz hcl hln h
    obtain ⟨i0, hi0⟩ := ready_some (md := md) (lastB_down hL) hsz n (by omega) hln
    refine ⟨fun h0 => (by rw [h0] at hi0; cases hi0), fun i hi => ?_⟩
    have hqi := h.2 i (by rw [hrd]; exact hi)
    by_cases hin : i = n
    · subst hin
      have hall := all_listed (lastB_waited hL) hsz hcl hn hi
      have hnil : Region.ready md ops (listed.setIfInBounds i true) = [] := by
        refine List.eq_nil_iff_forall_not_mem.2 fun j hj => ?_
        obtain ⟨h0, oj, hoj, -⟩ := mem_ready.1 hj
        have hjs : j < ops.size := (Array.getElem?_eq_some_iff.1 hoj).1
        by_cases hji : i = j
        · subst hji
          simp only [Array.getD_eq_getD_getElem?, Array.getElem?_setIfInBounds_self_of_lt (show i < listed.size by omega), Option.getD_some] at h0
          cases h0
        · rw [getD_set_ne true hji, hall i j (by omega) (by omega)] at h0
          cases h0
      have hQa := wpAnyQ_done (by rw [hrd]; exact hnil) fuel (hqn _ a hqi)
      have hw : wpOp P ops Q' i (wpList P ops Q' []) a w := by unfold wpOp; simp only [ho]; exact hQ a w hC hQa
      exact wpOp_mono (fun a' w' h' => wpAny_done hnil h' fuel) hw
    · have hqi' : qOp P ops C i (wpAnyQ P md opsq C Q fuel (listed.setIfInBounds i true)) a := by
        unfold qOp at hqi ⊢
        rw [hq i hin, hy] at hqi
        exact hqi
      refine wpOp_of_qOp hC (fun a' w' hw' h' => ih _ a' w' hw' (by simpa using hsz) (hcl.set hi) ?_ h') hqi'
      rw [getD_set_ne true hin]
      exact hln

/-- the operation, made to do nothing -/
def hushed (o : Oper) : Oper := { o with op := .move (.const undef) }
def hush (L : List Oper) (n : Nat) : List Oper := L.take n ++ (L.drop n).map hushed

theorem hush_get (L : List Oper) (n j : Nat) : (hush L n)[j]? = if j < n then L[j]? else (L[j]?).map hushed := by
  unfold hush
  by_cases hj : j < n
  · rw [if_pos hj]
    by_cases hl : j < L.length
    · rw [List.getElem?_append_left (by simp; omega), List.getElem?_take, if_pos hj]
    · rw [List.getElem?_eq_none (by simp; omega), List.getElem?_eq_none (by omega)]
  · rw [if_neg hj, List.getElem?_append_right (by simp; omega), List.getElem?_map, List.getElem?_drop]
    by_cases hl : j < L.length
    · congr 2; simp; omega
    · rw [List.getElem?_eq_none (by simp; omega), List.getElem?_eq_none (by omega)]

theorem hush_after (L : List Oper) (n j : Nat) : ((hush L n).toArray[j]?).map (·.after) = (L.toArray[j]?).map (·.after) := by
  simp only [List.getElem?_toArray, hush_get]
  split
  · rfl
  · cases L[j]? <;> rfl
theorem hush_dst (L : List Oper) (n j : Nat) : ((hush L n).toArray[j]?).bind (·.dst) = (L.toArray[j]?).bind (·.dst) := by
  simp only [List.getElem?_toArray, hush_get]
  split
  · rfl
  · cases L[j]? <;> rfl
theorem hush_length (L : List Oper) (n : Nat) : (hush L n).length = L.length := by
  simp [hush]; omega

theorem wpQuiet_yielded (h : yielded opsq = yielded ops) {Q Q' : Act → Prop} (hQ : ∀ a, Q a → Q' a) : ∀ (l : List Oper) (a : Act), wpQuiet P ops C Q l a → wpQuiet P opsq C Q' l a
  | [], _, hh => hQ _ hh
  | o :: l, a, hh => by
    unfold wpQuiet at hh ⊢
    rw [h]
    split
    · rename_i hw
      rw [if_pos hw] at hh
      exact Oper.quiet_mono (fun a' h' => wpQuiet_yielded h hQ l a' h') hh
    · rename_i hw
      rw [if_neg hw] at hh
      exact wpQuiet_yielded h hQ l _ hh
theorem wpQuiet_append {Q : Act → Prop} : ∀ (l l' : List Oper) (a : Act), wpQuiet P ops C (wpQuiet P ops C Q l') l a → wpQuiet P ops C Q (l ++ l') a
  | [], _, _, hh => hh
  | o :: l, l', a, hh => by
    show wpQuiet P ops C Q (o :: (l ++ l')) a
    unfold wpQuiet at hh ⊢
    split
    · rename_i hw
      rw [if_pos hw] at hh
      exact Oper.quiet_mono (fun a' h' => wpQuiet_append l l' a' h') hh
    · rename_i hw
      rw [if_neg hw] at hh
      exact wpQuiet_append l l' _ hh

theorem wp_region_quiet_last {id : Nat} {Q' : Exit → Act → World → Prop} {a : Act} {w : World} {L : List Oper} (n : Nat) (o : Oper) (hm : P.follows .mixedOrders = true) (hlen : L.length = n + 1) (ho : L[n]? = some o)
    (hdst : o.dst = none) (hgd : o.guard = none) (hB : Region.lexB .any (hush L n).toArray = true) (hL : lastB .any L.toArray = true) (hC : C { w with drawn := w.drawn + 1 })
    (h : wpQuiet P L.toArray C (fun a' => ∀ w', C w' → wpList P L.toArray Q' [o] a' w') (L.take n) a) : (Code.region id L.toArray true).wp P Q' a w := by
  have hy : yielded (hush L n).toArray = yielded L.toArray := by
    funext t j
    unfold yielded
    rw [hush_dst]
  have hsz : (hush L n).toArray.size = L.toArray.size := by simp [hush_length]
  have hrd : ∀ listed, Region.ready .any (hush L n).toArray listed = Region.ready .any L.toArray listed := by
    intro listed
    unfold Region.ready
    rw [hsz]
    congr 1
    funext i
    have e := hush_after L n i
    cases h1 : (hush L n).toArray[i]? with
    | none =>
      rw [h1] at e
      cases h2 : L.toArray[i]? with
      | none => rfl
      | some o2 => rw [h2] at e; simp at e
    | some o1 =>
      rw [h1] at e
      cases h2 : L.toArray[i]? with
      | none => rw [h2] at e; simp at e
      | some o2 =>
        rw [h2] at e
        simp only [Option.map_some, Option.some.injEq] at e
        simp only [Option.map_some, e]
  have hdrop : L.drop n = [o] := by
    rw [List.drop_eq_getElem_cons (by omega), List.drop_eq_nil_of_le (by omega)]
    rw [List.getElem?_eq_getElem (by omega)] at ho
    rw [Option.some.inj ho]
  simp only [Region.lexB, Bool.and_eq_true] at hB
  refine wp_region_any hm ?_
  refine wpAny_of_quiet_last (C := C) (opsq := (hush L n).toArray) (Q := fun a' => ∀ w', C w' → wpList P L.toArray Q' [o] a' w') (n := n) (by simpa using hlen) (by simpa using ho) hL hrd hy ?_ ?_ (fun a' w' hw' h' => h' w' hw') _ _ _ _ hC (by simp) ?_ ?_ ?_
  · intro j hj
    simp only [List.getElem?_toArray, hush_get]
    split
    · rfl
    · rw [List.getElem?_eq_none (by omega)]; rfl
  · intro K a' hK
    unfold qOp at hK
    simp only [List.getElem?_toArray, hush_get, Nat.lt_irrefl, if_false, ho, Option.map_some] at hK
    rw [if_pos (by simp [Region.wanted, hushed, hgd])] at hK
    obtain ⟨v, -, hv⟩ := hK
    simpa [hushed, hdst, Act.put] using hv
  · intro j oj hoj hl e _ _
    have hjs : j < L.toArray.size := (Array.getElem?_eq_some_iff.1 hoj).1
    rw [getD_two (by simpa using hjs), Array.getD_eq_getD_getElem?, Array.getElem?_replicate] at hl
    split at hl <;> simp at hl
  · rw [getD_two (by simp; omega), Array.getD_eq_getD_getElem?, Array.getElem?_replicate]
    split <;> rfl
  · have hw2 : wpQuiet P (hush L n).toArray C (fun a' => ∀ w', C w' → wpList P L.toArray Q' [o] a' w') (hush L n) a := by
      refine wpQuiet_append (L.take n) _ a (wpQuiet_yielded hy ?_ _ _ h)
      intro a' h'
      rw [hdrop]
      show wpQuiet P _ C _ [hushed o] a'
      unfold wpQuiet
      rw [if_pos (by simp [Region.wanted, hushed, hgd])]
      refine ⟨undef, fun w' _ => ?_, ?_⟩
      · exact ⟨rfl, rfl⟩
      · simpa [hushed, hdst, Act.put, wpQuiet] using h'
    have := wpAnyQ_lex (C := C) (md := .any) hB.1 (hush L n) 0 (Array.replicate L.toArray.size false) a (by simp) (by rw [← hsz]; simpa using hB.2) hw2
    rw [hush_length] at this
    simpa using this
end
/-- the same at the class 'of what was there nothing has turned' -/
theorem wp_region_last_below {P : Program} {id : Nat} {Q' : Exit → Act → World → Prop} {a : Act} {w : World} {L : List Oper} (n : Nat) (o : Oper) (hm : P.follows .mixedOrders = true) (hlen : L.length = n + 1) (ho : L[n]? = some o)
    (hdst : o.dst = none) (hgd : o.guard = none) (hB : Region.lexB .any (hush L n).toArray = true) (hL : lastB .any L.toArray = true)
    (h : wpQuiet P L.toArray (fun w' => ∃ p : Regrown, w' = grow (redrawn w p.d) p.os) (fun a' => ∀ w', (∃ p : Regrown, w' = grow (redrawn w p.d) p.os) → wpList P L.toArray Q' [o] a' w') (L.take n) a) :
    (Code.region id L.toArray true).wp P Q' a w :=
  wp_region_quiet_last n o hm hlen ho hdst hgd hB hL ⟨⟨w.drawn + 1, #[]⟩, by rw [grow_empty]; rfl⟩ h

/-- the same where the callees only draw -/
theorem wp_region_last_drewN {P : Program} {id : Nat} {Q' : Exit → Act → World → Prop} {a : Act} {w : World} {L : List Oper} (n : Nat) (o : Oper) (hm : P.follows .mixedOrders = true) (hlen : L.length = n + 1) (ho : L[n]? = some o)
    (hdst : o.dst = none) (hgd : o.guard = none) (hB : Region.lexB .any (hush L n).toArray = true) (hL : lastB .any L.toArray = true)
    (h : wpQuiet P L.toArray (fun w' => ∃ m, w' = w.drewN m) (fun a' => ∀ w', (∃ m, w' = w.drewN m) → wpList P L.toArray Q' [o] a' w') (L.take n) a) :
    (Code.region id L.toArray true).wp P Q' a w :=
  wp_region_quiet_last n o hm hlen ho hdst hgd hB hL ⟨1, rfl⟩ h
end Go.Proofs.YthjlhcmdpeinpaaGreatDoor
