/- The contract of stream's read: a text's words put into a block. -/
import Derived.Test.YtikgefcbmoomjaaDoorHa
import Derived.Test.YtikgefcbmoomjaaDoorQl
namespace Go.Proofs.YtikgefcbmoomjaaDoor
open Go.RowKit
set_option maxRecDepth 100000
/-- a text's first k words put in from a place on -/
def putW (l : List (BitVec 32)) (at0 : Nat) (b : List UInt8) : Nat → List (BitVec 32)
  | 0 => l
  | k + 1 => (putW l at0 b k).set (at0 + k) (leW b k)
theorem putW_length (l : List (BitVec 32)) (at0 : Nat) (b : List UInt8) (k : Nat) : (putW l at0 b k).length = l.length := by
  induction k with
  | zero => rfl
  | succ k ih => rw [putW, List.length_set, ih]
def RdR (w : World) (B : Nat) (l : List (BitVec 32)) (at0 : Nat) (b : List UInt8) (n : Nat) (i : Value) (wr : World) : Prop :=
  ∃ k : Nat, k ≤ n ∧ i = .int .i64 (k : Int) ∧ BlkW wr B 86 (putW l at0 b k) ∧ Below B w wr

set_option maxHeartbeats 400000 in
theorem sRead_any (B : Nat) (l : List (BitVec 32)) (at0 n : Nat) (s : ByteArray) (hl : l.length = 16) (hs : s.size = 4 * n) (hat : at0 + n ≤ 16) (w : World) (hB : BlkW w B 86 l) :
    Calls Tryd.prog 62 #[.pointer (some ⟨B, 0, none⟩), .int .i64 (at0 : Int), .string s] w fun e w' => e = .returned (.tuple #[]) ∧ BlkW w' B 86 (putW l at0 (bl s) n) ∧ Below B w w' := by
  have hq : Int.tdiv (s.size : Int) 4 = (n : Int) := by rw [hs]; exact Int.tdiv_eq_of_eq_mul_right (by omega) (by omega)
  have HS := Lib.hid hs
  have HB := Lib.hid hB
  have HL := Lib.hid hl
  clear hs hB hl
  go_enter Tryd.func62, Tryd.ntmps62
  go_wp2_with fail
  go_loopw [10] (RdR w B l at0 (bl s) n) (fun i _ => n - (intOf i).toNat)
  case atStart => exact ⟨0, by omega, rfl, HB.out, Below.refl _ _⟩
  case round =>
    clear HB
    obtain ⟨k, hk, rfl, hB, hb⟩ := hrel
    by_cases hlt : k < n
    · have h1 : (k : Int) < (n : Int) := by omega
      have hs := HS.out
      have hl := HL.out
      have e1 : IntKind.i64.wrap (4 * (k : Int)) = 4 * (k : Int) := IntWalk.i64_in _ (by omega)
      have e2 : IntKind.i64.wrap (4 * (k : Int) + 4) = 4 * (k : Int) + 4 := IntWalk.i64_in _ (by omega)
      have e3 : IntKind.i64.wrap ((at0 : Int) + (k : Int)) = (at0 : Int) + (k : Int) := IntWalk.i64_in _ (by omega)
      have e4 : (at0 : Int) + (k : Int) < 16 := by omega
      have e5 : (0 : Int) ≤ (at0 : Int) + (k : Int) := by omega
      have e6 : ((at0 : Int) + (k : Int)).toNat = at0 + k := by omega
      have hsl := fun W : World => str_slice (P := Tryd.prog) 9 Tryd.underlying9 s (4 * (k : Int)) (4 * (k : Int) + 4) (4 * k) (4 * k + 4) (by omega) (by omega) (by omega) (by omega) W
      have hwd := sWordOf_at s k (by omega)
      obtain ⟨x, hx⟩ : ∃ x, leW (bl s) k = x := ⟨_, rfl⟩
      rw [hx] at hwd
      have HW := Lib.hid hwd
      have HX := Lib.hid hx
      have HB := Lib.hid hB
      clear hs hl hwd hx hB hq
      go_wp2_with fail
      refine wp_region_last_drewN 14 _ (by kernel_rfl) rfl rfl rfl rfl (by kernel_rfl) (by kernel_rfl) ?_
      simp only [List.take_succ_cons, List.take_zero]
      iterate 14 (quiet_step (exact Calls.quiet_of (HW.out _)))
      refine wpQuiet_nil ?_
      intro _ hw'
      obtain ⟨nq, hw''⟩ := hw'
      subst hw''
      have hB1 : BlkW (wr.drewN nq) B 86 (putW l at0 (bl s) k) := HB.out
      have hb1 := below_drewN hb nq
      clear HB hb HW hsl
      generalize wr.drewN nq = W at hB1 hb1 ⊢
      have z1 := hB1.cell (at0 + k) (by rw [putW_length, HL.out]; omega)
      have z2 := hB1.frozen (at0 + k)
      have hS := hB1.set (at0 + k) x
      rw [show (putW l at0 (bl s) k).set (at0 + k) x = putW l at0 (bl s) (k + 1) by rw [← HX.out]; rfl] at hS
      have hbS := hb1.setCell (p := ⟨B, at0 + k, none⟩) (Nat.le_refl B) (.int .u32 (x.toNat : Int))
      go_wp2_with fail
      refine ⟨⟨k + 1, by omega, by simp, hS, hbS⟩, by simp [intOf]; omega⟩
    · obtain rfl : k = n := by omega
      have HB := Lib.hid hB
      clear hB
      go_wp2_with fail
      go_end0
      exact ⟨rfl, HB.out, hb⟩
end Go.Proofs.YtikgefcbmoomjaaDoor