/- Slices of words of a call's own; the contracts of the reference's ror and word. -/
import Derived.Test.YtolobdeilfgmnaaDoorDint
import Derived.Test.YtolobdeilfgmnaaDoorKb
import Derived.Test.YtolobdeilfgmnaaDoorKw
namespace Go.Proofs.YtolobdeilfgmnaaDoor
open Go.RowKit
set_option maxRecDepth 100000 in
set_option maxHeartbeats 400000 in
theorem rorr_any (x : BitVec 32) (n : Nat) (h0 : 0 < n) (h1 : n < 32) (w : World) :
    Calls Tryd.prog 53 #[.int .u32 (x.toNat : Int), .int .u32 (n : Int)] w fun e w' => e = .returned (.int .u32 ((rr x n).toNat : Int)) ∧ w = w' := by
  obtain ⟨m, hm⟩ : ∃ m, n + m = 32 := ⟨32 - n, by omega⟩
  have w1 : IntKind.u32.wrap (32 - (n : Int)) = (m : Int) := by rw [IntKind.wrap_u32]; omega
  have hm1 : (m : Int) < 32 := by omega
  have hn1 : (n : Int) < 32 := by omega
  have e1 := shl32 x m
  have e2 := shr32 x n
  have e3 := bits_or32 (x >>> n) (x <<< m)
  have er : ((rr x n).toNat : Int) = ((x >>> n ||| x <<< m).toNat : Int) := by
    unfold rr
    rw [show 32 - n = m by omega]
  rw [er]
  clear er
  generalize x <<< m = s at e1 e3 ⊢
  generalize x >>> n = t at e2 e3 ⊢
  generalize t ||| s = r at e3 ⊢
  go_enter Tryd.func53, Tryd.ntmps53
  go_wp2
  go_ret
  exact ⟨rfl, rfl⟩

/-- the contract of ror, said of a literal -/
def RorAt (x r : BitVec 32) (n : Int) : Prop := ∀ w : World, Calls Tryd.prog 53 #[.int .u32 (x.toNat : Int), .int .u32 n] w fun e w' => e = .returned (.int .u32 (r.toNat : Int)) ∧ w = w'
theorem RorAt.q {x r : BitVec 32} {n : Int} (h : RorAt x r n) (w : World) (k : Nat) : Calls Tryd.prog 53 #[.int .u32 (x.toNat : Int), .int .u32 n] (w.drewN k) fun e w'' => e = .returned (.int .u32 (r.toNat : Int)) ∧ ∃ m, w'' = w.drewN m := quiet_left (h _)

theorem word4_sum (a b c d : UInt8) : (a.toNat : Int) * 16777216 + (b.toNat : Int) * 65536 + (c.toNat : Int) * 256 + (d.toNat : Int) = ((word4 a b c d).toNat : Int) := by
  have ha := a.toNat_lt
  have hb := b.toNat_lt
  have hc := c.toNat_lt
  have hd := d.toNat_lt
  unfold word4
  rw [BitVec.toNat_ofNat, Nat.mod_eq_of_lt (by omega)]
  omega

set_option maxRecDepth 100000 in
set_option maxHeartbeats 1000000 in
theorem word_lo (v : Value) (s : ByteArray) (hs : s.size = 64) (t : Nat) (ht : t < 16) (w : World) :
    Calls Tryd.prog 52 #[v, .string s, .int .i64 (t : Int)] w fun e w' => e = .returned (.int .u32 ((wdAt (bl s) t).toNat : Int)) ∧ ∃ n, w' = w.drewN n := by
  have h1 : (t : Int) < 16 := by omega
  have e0 : IntKind.i64.wrap (4 * (t : Int)) = 4 * (t : Int) := IntWalk.i64_in _ (by omega)
  have e1 : IntKind.i64.wrap (4 * (t : Int) + 1) = 4 * (t : Int) + 1 := IntWalk.i64_in _ (by omega)
  have e2 : IntKind.i64.wrap (4 * (t : Int) + 2) = 4 * (t : Int) + 2 := IntWalk.i64_in _ (by omega)
  have e3 : IntKind.i64.wrap (4 * (t : Int) + 3) = 4 * (t : Int) + 3 := IntWalk.i64_in _ (by omega)
  have i0 : ∀ W : World, (Instr.index 9 (.string s) (.int .i64 (4 * (t : Int)))).run Tryd.prog W = .ok (.int .u8 (s[4 * t].toNat : Int)) W := fun W => str_index s _ (4 * t) (by omega) (by omega) W
  have i1 : ∀ W : World, (Instr.index 9 (.string s) (.int .i64 (4 * (t : Int) + 1))).run Tryd.prog W = .ok (.int .u8 (s[4 * t + 1].toNat : Int)) W := fun W => str_index s _ (4 * t + 1) (by omega) (by omega) W
  have i2 : ∀ W : World, (Instr.index 9 (.string s) (.int .i64 (4 * (t : Int) + 2))).run Tryd.prog W = .ok (.int .u8 (s[4 * t + 2].toNat : Int)) W := fun W => str_index s _ (4 * t + 2) (by omega) (by omega) W
  have i3 : ∀ W : World, (Instr.index 9 (.string s) (.int .i64 (4 * (t : Int) + 3))).run Tryd.prog W = .ok (.int .u8 (s[4 * t + 3].toNat : Int)) W := fun W => str_index s _ (4 * t + 3) (by omega) (by omega) W
  have hw : wdAt (bl s) t = word4 s[4 * t] s[4 * t + 1] s[4 * t + 2] s[4 * t + 3] := by
    unfold wdAt
    rw [bl_get s (4 * t) (by omega), bl_get s (4 * t + 1) (by omega), bl_get s (4 * t + 2) (by omega), bl_get s (4 * t + 3) (by omega)]
  rw [hw]
  clear hw
  have hsum := word4_sum s[4 * t] s[4 * t + 1] s[4 * t + 2] s[4 * t + 3]
  have c1 := s[4 * t].toNat_lt
  have c2 := s[4 * t + 1].toNat_lt
  have c3 := s[4 * t + 2].toNat_lt
  have c4 := s[4 * t + 3].toNat_lt
  generalize word4 s[4 * t] s[4 * t + 1] s[4 * t + 2] s[4 * t + 3] = r at hsum ⊢
  generalize s[4 * t] = b0 at *
  generalize s[4 * t + 1] = b1 at *
  generalize s[4 * t + 2] = b2 at *
  generalize s[4 * t + 3] = b3 at *
  go_enter Tryd.func52, Tryd.ntmps52
  go_wp2_with fail
  go_quiet (fail)
  go_wp2_with fail
  go_ret
  exact ⟨rfl, _, rfl⟩

set_option maxRecDepth 100000 in
set_option maxHeartbeats 1000000 in
theorem word_hi (v : Value) (s : ByteArray) (r : List (BitVec 32)) (hr : 16 ≤ r.length) (hr2 : r.length ≤ 64) (w : World) (hv : WsAt w v r) :
    Calls Tryd.prog 52 #[v, .string s, .int .i64 (r.length : Int)] w fun e w' => e = .returned (.int .u32 ((nextW r).toNat : Int)) ∧ ∃ n, w' = w.drewN n := by
  obtain ⟨g, off, cap, rfl, hg, hc⟩ := hv
  obtain ⟨t, ht⟩ : ∃ t, r.length = t := ⟨_, rfl⟩
  rw [ht] at hr hr2 hc ⊢
  have h1 : ¬ (t : Int) < 16 := by omega
  have e2 : IntKind.i64.wrap ((t : Int) - 2) = (t : Int) - 2 := IntWalk.i64_in _ (by omega)
  have n2 : ((t : Int) - 2).toNat = t - 2 := by omega
  have e15 : IntKind.i64.wrap ((t : Int) - 15) = (t : Int) - 15 := IntWalk.i64_in _ (by omega)
  have n15 : ((t : Int) - 15).toNat = t - 15 := by omega
  have e7 : IntKind.i64.wrap ((t : Int) - 7) = (t : Int) - 7 := IntWalk.i64_in _ (by omega)
  have n7 : ((t : Int) - 7).toNat = t - 7 := by omega
  have e16 : IntKind.i64.wrap ((t : Int) - 16) = (t : Int) - 16 := IntWalk.i64_in _ (by omega)
  have n16 : ((t : Int) - 16).toNat = t - 16 := by omega
  have l2 : (0 : Int) ≤ (t : Int) - 2 := by omega
  have m2 : (t : Int) - 2 < (t : Int) := by omega
  have l15 : (0 : Int) ≤ (t : Int) - 15 := by omega
  have m15 : (t : Int) - 15 < (t : Int) := by omega
  have l7 : (0 : Int) ≤ (t : Int) - 7 := by omega
  have m7 : (t : Int) - 7 < (t : Int) := by omega
  have l16 : (0 : Int) ≤ (t : Int) - 16 := by omega
  have m16 : (t : Int) - 16 < (t : Int) := by omega
  have c2 := hc (t - 2) (by omega)
  have c7 := hc (t - 7) (by omega)
  have c15 := hc (t - 15) (by omega)
  have c16 := hc (t - 16) (by omega)
  have hnext : nextW r = near (r.getD (t - 2) 0) + r.getD (t - 7) 0 + far (r.getD (t - 15) 0) + r.getD (t - 16) 0 := by unfold nextW; rw [ht]
  rw [hnext]
  clear hnext ht hc
  obtain ⟨x2, q2⟩ : ∃ x, r.getD (t - 2) 0 = x := ⟨_, rfl⟩
  obtain ⟨x7, q7⟩ : ∃ x, r.getD (t - 7) 0 = x := ⟨_, rfl⟩
  obtain ⟨x15, q15⟩ : ∃ x, r.getD (t - 15) 0 = x := ⟨_, rfl⟩
  obtain ⟨x16, q16⟩ : ∃ x, r.getD (t - 16) 0 = x := ⟨_, rfl⟩
  rw [q2] at c2; rw [q7] at c7; rw [q15] at c15; rw [q16] at c16
  rw [q2, q7, q15, q16]
  clear q2 q7 q15 q16
  have N1 := near_bits x2
  have F1 := far_bits x15
  have A1 : RorAt x2 (rr x2 17) 17 := rorr_any x2 17 (by omega) (by omega)
  have A2 : RorAt x2 (rr x2 19) 19 := rorr_any x2 19 (by omega) (by omega)
  have A3 : RorAt x15 (rr x15 7) 7 := rorr_any x15 7 (by omega) (by omega)
  have A4 : RorAt x15 (rr x15 18) 18 := rorr_any x15 18 (by omega) (by omega)
  generalize near x2 = ne at N1 ⊢
  generalize far x15 = fa at F1 ⊢
  generalize rr x2 17 = r1 at A1 N1
  generalize rr x2 19 = r2 at A2 N1
  generalize rr x15 7 = r3 at A3 F1
  generalize rr x15 18 = r4 at A4 F1
  obtain ⟨p1, hp1⟩ : ∃ x, ne + x7 = x := ⟨_, rfl⟩
  rw [hp1]
  obtain ⟨p2, hp2⟩ : ∃ x, p1 + fa = x := ⟨_, rfl⟩
  rw [hp2]
  obtain ⟨p3, hp3⟩ : ∃ x, p2 + x16 = x := ⟨_, rfl⟩
  rw [hp3]
  have E1 := add_mod32 _ _ _ hp1
  have E2 := add_mod32 _ _ _ hp2
  have E3 := add_mod32 _ _ _ hp3
  clear hp1 hp2 hp3
  go_enter Tryd.func52, Tryd.ntmps52
  go_wp2_with fail
  go_quiet ((go_at_call 53; first | with_reducible exact A1.q _ _ | with_reducible exact A2.q _ _ | with_reducible exact A3.q _ _ | with_reducible exact A4.q _ _))
  go_wp2_with fail
  go_ret
  exact ⟨by first | rfl | exact ret_u32 E3, _, rfl⟩
end Go.Proofs.YtolobdeilfgmnaaDoor