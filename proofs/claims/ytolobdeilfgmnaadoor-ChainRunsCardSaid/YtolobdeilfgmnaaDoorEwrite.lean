/- The contracts of the reference's high, Right and New. -/
import Derived.Test.YtolobdeilfgmnaaDoorEmix
import Derived.Test.YtolobdeilfgmnaaDoorKa
import Derived.Test.YtolobdeilfgmnaaDoorKb
namespace Go.Proofs.YtolobdeilfgmnaaDoor
open Go.RowKit
set_option maxRecDepth 100000
/-- the bytes of the lowest places, the highest first -/
def lowB (n : Nat) : Nat → List UInt8
  | 0 => []
  | i + 1 => UInt8.ofNat (n / 256 ^ i) :: lowB n i
theorem lowB_length (n i : Nat) : (lowB n i).length = i := by
  induction i with
  | zero => rfl
  | succ i ih => simp [lowB, ih]
theorem lowB_four (x : BitVec 32) : lowB x.toNat 4 = be4 x := by
  have h := x.isLt
  simp [lowB, be4]
theorem lowB_eight (n : Nat) : lowB n 8 = be8 n 8 := by
  simp [lowB, be8, byteAt]
def HighRel (w : World) (n m : Nat) (nv o i : Value) (wr : World) : Prop :=
  ∃ k : Nat, k ≤ m ∧ i = .int .i64 (k : Int) ∧ nv = .int .u64 ((n / 256 ^ k : Nat) : Int) ∧ o = .string (strL (lowB n k)) ∧ Bel w wr

set_option maxHeartbeats 1000000 in
theorem high_any (n m : Nat) (hn : n < 18446744073709551616) (hm : m ≤ 8) (w : World) :
    Calls Tryd.prog 45 #[.int .u64 (n : Int), .int .i64 (m : Int)] w fun e w' => e = .returned (.string (strL (lowB n m))) ∧ Bel w w' := by
  go_enter Tryd.func45, Tryd.ntmps45
  go_wp2_with fail
  go_loopw [0, 5, 6] (HighRel w n m) (fun _ _ i _ => m - (intOf i).toNat)
  case atStart => exact ⟨0, by omega, rfl, by simp, rfl, Bel.refl _⟩
  case round =>
    obtain ⟨k, hk, rfl, rfl, rfl, hbel⟩ := hrel
    by_cases hlt : k < m
    · have l1 : (k : Int) < (m : Int) := by omega
      have hle : n / 256 ^ k ≤ n := Nat.div_le_self _ _
      have hnx : n / 256 ^ (k + 1) = n / 256 ^ k / 256 := by rw [Nat.pow_succ, Nat.div_div_eq_div_mul]
      have hst : lowB n (k + 1) = UInt8.ofNat (n / 256 ^ k) :: lowB n k := rfl
      have hsz : (strL (lowB n k)).size ≤ 8 := by rw [strL_size, lowB_length]; omega
      obtain ⟨q, hq⟩ : ∃ q, n / 256 ^ k = q := ⟨_, rfl⟩
      rw [hq] at hle hnx hst ⊢
      obtain ⟨y, hy⟩ : ∃ y, UInt8.ofNat q = y := ⟨_, rfl⟩
      have hyv : (q : Int) % 256 = (y.toNat : Int) := by
        rw [← hy, ← byte_of, IntKind.wrap_u8]
      rw [hy] at hst
      have hone := one_text y (y.toNat : Int) rfl
      have hcat : ∀ W : World, (Op.stringOp .add (strL [y]) (strL (lowB n k))).run Tryd.prog W = .ok (.string (strL (lowB n (k + 1)))) W := fun W => by
        rw [run_string_add_sum W _ _ (by have : (strL [y]).size = 1 := by rw [strL_size]; rfl
                                         omega), strL_append, hst]; rfl
      have hns : (9223372036854775807 < (strL [y]).size + (strL (lowB n k)).size) = False := by
        have : (strL [y]).size = 1 := by rw [strL_size]; rfl
        simp; omega
      have hq1 : (q : Int) / 256 = ((q / 256 : Nat) : Int) := by omega
      have hq2 : ((q / 256 : Nat) : Int) = ((n / 256 ^ (k + 1) : Nat) : Int) := by rw [hnx]
      have HQ2 := Lib.hid hq2
      obtain ⟨t, ht⟩ : ∃ t, q / 256 = t := ⟨_, rfl⟩
      rw [ht] at hq1 HQ2
      have yb := y.toNat_lt
      have hu : IntKind.u8.wrap (y.toNat : Int) = (y.toNat : Int) := by rw [IntKind.wrap_u8]; omega
      clear hst hnx hq hy hq2 ht hsz
      go_wp2_with fail
      exact ⟨⟨k + 1, by omega, by simp, by rw [HQ2.out], rfl, hbel.alloc _⟩, by simp [intOf]; omega⟩
    · obtain rfl : k = m := by omega
      have l1 : ¬ (k : Int) < (k : Int) := by omega
      go_wp2_with fail
      go_ret
      exact ⟨rfl, hbel⟩

set_option maxHeartbeats 1000000 in
theorem refnew_any (kv : Value) (w : World) (hk : KAt w kv) :
    Calls Tryd.prog 41 #[kv] w fun e w' => ∃ v, e = .returned (.agg #[v, .string ⟨#[]⟩, .int .u64 0]) ∧ WsAt w' v firstS.l ∧ Below w.heap.size w w' := by
  obtain ⟨k0, k1, rfl, -, h1⟩ := hk
  have n1 : ∀ b k c, k1 = .slice (some b) k c → b.block ≠ w.heap.size + 1 := by
    rintro b k c rfl
    obtain ⟨g, off, cap, e, hlt, -⟩ := h1
    cases e
    show g ≠ w.heap.size + 1
    omega
  obtain ⟨g1, o1, c1, rfl, hg1, hc1⟩ := id h1
  go_enter Tryd.func41, Tryd.ntmps41
  go_upto_region 1 with fail
  have hb0 : Below w.heap.size w ((w.alloc (.cells #[k0, .slice (some ⟨g1, o1, none⟩) firstS.l.length c1] 29)).alloc (.cells #[.slice none 0 0, .string ⟨#[]⟩, .int .u64 0] 72)) := by go_grown
  have k1c : ((w.alloc (.cells #[k0, .slice (some ⟨g1, o1, none⟩) firstS.l.length c1] 29)).alloc (.cells #[.slice none 0 0, .string ⟨#[]⟩, .int .u64 0] 72)).cell? ⟨w.heap.size, 1, none⟩ = some (.slice (some ⟨g1, o1, none⟩) firstS.l.length c1) := by
    rw [cell_of_row _ _ _ _ _ _ (heap_alloc2_old _ _ _)]; rfl
  have hR : ((w.alloc (.cells #[k0, .slice (some ⟨g1, o1, none⟩) firstS.l.length c1] 29)).alloc (.cells #[.slice none 0 0, .string ⟨#[]⟩, .int .u64 0] 72)).heap[w.heap.size + 1]? = some (.cells #[.slice none 0 0, .string ⟨#[]⟩, .int .u64 0] 72) := heap_alloc2_new _ _ _
  generalize World.alloc (World.alloc w _) _ = W at hb0 k1c hR ⊢
  have d0 : W.cell? ⟨w.heap.size + 1, 0, none⟩ = some (.slice none 0 0) := by rw [cell_of_row _ _ _ _ _ _ hR]; rfl
  have d1 : W.cell? ⟨w.heap.size + 1, 1, none⟩ = some (.string ⟨#[]⟩) := by rw [cell_of_row _ _ _ _ _ _ hR]; rfl
  have d2 : W.cell? ⟨w.heap.size + 1, 2, none⟩ = some (.int .u64 0) := by rw [cell_of_row _ _ _ _ _ _ hR]; rfl
  have f0 := frozen_of_row W (w.heap.size + 1) 0 _ _ hR
  have f1 := frozen_of_row W (w.heap.size + 1) 1 _ _ hR
  have f2 := frozen_of_row W (w.heap.size + 1) 2 _ _ hR
  have e0 := setCell_far (i := 2) (u := .int .u64 0) (setCell_far (i := 1) (u := .string ⟨#[]⟩) (World.cell?_setCell_same _ ⟨w.heap.size + 1, 0, none⟩ (.slice (some ⟨g1, o1, none⟩) firstS.l.length c1) d0) (by omega)) (by omega)
  have e1 := setCell_far (i := 2) (u := .int .u64 0) (World.cell?_setCell_same _ ⟨w.heap.size + 1, 1, none⟩ (.string ⟨#[]⟩) (setCell_far (i := 0) (u := .slice (some ⟨g1, o1, none⟩) firstS.l.length c1) d1 (by omega))) (by omega)
  have e2 := World.cell?_setCell_same _ ⟨w.heap.size + 1, 2, none⟩ (.int .u64 0) (setCell_far (i := 1) (u := .string ⟨#[]⟩) (setCell_far (i := 0) (u := .slice (some ⟨g1, o1, none⟩) firstS.l.length c1) d2 (by omega)) (by omega))
  have q0 := (((h1.on hb0).set (w.heap.size + 1) 0 n1 (.slice (some ⟨g1, o1, none⟩) firstS.l.length c1)).set (w.heap.size + 1) 1 n1 (.string ⟨#[]⟩)).set (w.heap.size + 1) 2 n1 (.int .u64 0)
  have hbl : Below w.heap.size w _ := ((hb0.setCell (p := ⟨w.heap.size + 1, 0, none⟩) (Nat.le_succ _) (.slice (some ⟨g1, o1, none⟩) firstS.l.length c1)).setCell (p := ⟨w.heap.size + 1, 1, none⟩) (Nat.le_succ _) (.string ⟨#[]⟩)).setCell (p := ⟨w.heap.size + 1, 2, none⟩) (Nat.le_succ _) (.int .u64 0)
  have E0 := Lib.hid e0; have E1 := Lib.hid e1; have E2 := Lib.hid e2; have Q0 := Lib.hid q0
  clear e0 e1 e2 q0 hR hb0 hc1 h1 n1
  go_wp2_with fail
  have e0 := E0.out; have e1 := E1.out; have e2 := E2.out
  refine bodyPost_ret (v := .agg #[.slice (some ⟨g1, o1, none⟩) firstS.l.length c1, .string ⟨#[]⟩, .int .u64 0]) (by simp [results, Tryd.results41, go_sem, e0, e1, e2]) rfl ⟨_, rfl, Q0.out, hbl⟩
end Go.Proofs.YtolobdeilfgmnaaDoor