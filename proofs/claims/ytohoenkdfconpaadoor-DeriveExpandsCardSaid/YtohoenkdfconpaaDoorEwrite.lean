/- The contracts of the reference's high, Right and New. -/
import Derived.Test.YtohoenkdfconpaaDoorEmix
namespace Go.Proofs.YtohoenkdfconpaaDoor
open Go.RowKit
set_option maxRecDepth 100000

/-- the bytes of the lowest places, the highest first -/
def lowB (n : Nat) : Nat → List UInt8
  | 0 => []
  | i + 1 => UInt8.ofNat (n / 256 ^ i) :: lowB n i
theorem lowB_length (n i : Nat) : (lowB n i).length = i := by
  induction i with
  | zero => rfl
  | succ i ih => simp [lowB, ih]
theorem lowB_four (x : BitVec 32) : lowB x.toNat 4 = be4 x := by
  have h := x.isLt
  simp [lowB, be4]
theorem lowB_eight (n : Nat) : lowB n 8 = be8 n 8 := by
  simp [lowB, be8, byteAt]
theorem text_of (l : List UInt8) : ByteArray.mk l.toArray = strL l := rfl
theorem one_text (y : UInt8) (v : Int) (hv : v = (y.toNat : Int)) (W : World) :
    (convert 67 9 (.slice (some ⟨W.heap.size, 0, none⟩) 1 1)).run Tryd.prog (W.alloc (.cells #[.int .u8 v] 5)) = .ok (.string (strL [y])) (W.alloc (.cells #[.int .u8 v] 5)) := by
  subst hv
  exact run_convert_bytes_back (P := Tryd.prog) (W.alloc (.cells #[.int .u8 (y.toNat : Int)] 5)) 67 9 5 ⟨W.heap.size, 0, none⟩ 1 [y] Tryd.underlying67 Tryd.underlying5 Tryd.underlying9 (fun j hj => by
    obtain rfl : j = 0 := by simpa using hj
    simp [Addr.add])
theorem strL_append (a b : List UInt8) : strL a ++ strL b = strL (a ++ b) := bl_inj (by rw [bl_append, bl_strL, bl_strL, bl_strL])

def HighRel (w : World) (n m : Nat) (nv o i : Value) (wr : World) : Prop :=
  ∃ k : Nat, k ≤ m ∧ i = .int .i64 (k : Int) ∧ nv = .int .u64 ((n / 256 ^ k : Nat) : Int) ∧ o = .string (strL (lowB n k)) ∧ Bel w wr

set_option maxHeartbeats 1000000 in
theorem high_any (n m : Nat) (hn : n < 18446744073709551616) (hm : m ≤ 8) (w : World) :
    Calls Tryd.prog 42 #[.int .u64 (n : Int), .int .i64 (m : Int)] w fun e w' => e = .returned (.string (strL (lowB n m))) ∧ Bel w w' := by
  go_enter Tryd.func42, Tryd.ntmps42
  go_wp2_with fail
  go_loopw [0, 5, 6] (HighRel w n m) (fun _ _ i _ => m - (intOf i).toNat)
  case atStart => exact ⟨0, by omega, rfl, by simp, rfl, Bel.refl _⟩
  case round =>
    obtain ⟨k, hk, rfl, rfl, rfl, hbel⟩ := hrel
    by_cases hlt : k < m
    · have l1 : (k : Int) < (m : Int) := by omega
      have hle : n / 256 ^ k ≤ n := Nat.div_le_self _ _
      have hnx : n / 256 ^ (k + 1) = n / 256 ^ k / 256 := by rw [Nat.pow_succ, Nat.div_div_eq_div_mul]
      have hst : lowB n (k + 1) = UInt8.ofNat (n / 256 ^ k) :: lowB n k := rfl
      have hsz : (strL (lowB n k)).size ≤ 8 := by rw [strL_size, lowB_length]; omega
      obtain ⟨q, hq⟩ : ∃ q, n / 256 ^ k = q := ⟨_, rfl⟩
      rw [hq] at hle hnx hst ⊢
      obtain ⟨y, hy⟩ : ∃ y, UInt8.ofNat q = y := ⟨_, rfl⟩
      have hyv : (q : Int) % 256 = (y.toNat : Int) := by
        rw [← hy, ← byte_of, IntKind.wrap_u8]
      rw [hy] at hst
      have hone := one_text y (y.toNat : Int) rfl
      have hcat : ∀ W : World, (Op.stringOp .add (strL [y]) (strL (lowB n k))).run Tryd.prog W = .ok (.string (strL (lowB n (k + 1)))) W := fun W => by
        rw [run_string_add_sum W _ _ (by have : (strL [y]).size = 1 := by rw [strL_size]; rfl
                                         omega), strL_append, hst]; rfl
      have hns : (9223372036854775807 < (strL [y]).size + (strL (lowB n k)).size) = False := by
        have : (strL [y]).size = 1 := by rw [strL_size]; rfl
        simp; omega
      have hq1 : (q : Int) / 256 = ((q / 256 : Nat) : Int) := by omega
      have hq2 : ((q / 256 : Nat) : Int) = ((n / 256 ^ (k + 1) : Nat) : Int) := by rw [hnx]
      have HQ2 := Lib.hid hq2
      obtain ⟨t, ht⟩ : ∃ t, q / 256 = t := ⟨_, rfl⟩
      rw [ht] at hq1 HQ2
      have yb := y.toNat_lt
      have hu : IntKind.u8.wrap (y.toNat : Int) = (y.toNat : Int) := by rw [IntKind.wrap_u8]; omega
      clear hst hnx hq hy hq2 ht hsz
      go_wp2_with fail
      exact ⟨⟨k + 1, by omega, by simp, by rw [HQ2.out], rfl, hbel.alloc _⟩, by simp [intOf]; omega⟩
    · obtain rfl : k = m := by omega
      have l1 : ¬ (k : Int) < (k : Int) := by omega
      go_wp2_with fail
      go_ret
      exact ⟨rfl, hbel⟩

set_option maxRecDepth 100000 in
set_option maxHeartbeats 400000 in
theorem refright_any (a : Option Addr) (n c : Nat) (x : ByteArray) (m : Nat) (hm : m < 18446744073709551616) (hx : x.size ≤ maxLen) (w : World) :
    Calls Tryd.prog 15 #[.agg #[.slice a n c, .string x, .int .u64 (m : Int)]] w fun e w' => e = .returned (.bool (rightB n x.size m)) ∧ Below w.heap.size w w' := by
  unfold maxLen at hx
  have wx : IntKind.u64.wrap (x.size : Int) = (x.size : Int) := by rw [IntKind.wrap_u64]; omega
  by_cases h8 : n = 8
  · subst h8
    have b1 : ((8 : Int) == 8) = true := by simp
    by_cases h64 : x.size < 64
    · have b2 : decide ((x.size : Int) < 64) = true := by simp; omega
      have hr : rightB 8 x.size m = ((m : Int) % 64 == (x.size : Int)) := by
        unfold rightB
        rw [Bool.eq_iff_iff]
        simp [h64]
        omega
      rw [hr]
      clear hr
      go_enter Tryd.func15, Tryd.ntmps15
      go_wp2
      go_ret
      exact ⟨rfl, by go_grown⟩
    · have b2 : decide ((x.size : Int) < 64) = false := by simp; omega
      have hr : rightB 8 x.size m = false := by unfold rightB; simp [h64]
      rw [hr]
      clear hr
      go_enter Tryd.func15, Tryd.ntmps15
      go_wp2
      go_ret
      exact ⟨rfl, by go_grown⟩
  · have b1 : ((n : Int) == 8) = false := by simp; omega
    have hr : rightB n x.size m = false := by unfold rightB; simp [h8]
    rw [hr]
    clear hr
    go_enter Tryd.func15, Tryd.ntmps15
    go_wp2
    go_ret
    exact ⟨rfl, by go_grown⟩


set_option maxHeartbeats 1000000 in
theorem refnew_any (kv : Value) (w : World) (hk : KAt w kv) :
    Calls Tryd.prog 24 #[kv] w fun e w' => ∃ v, e = .returned (.agg #[v, .string ⟨#[]⟩, .int .u64 0]) ∧ WsAt w' v firstS.l ∧ Below w.heap.size w w' := by
  obtain ⟨k0, k1, rfl, -, h1⟩ := hk
  have n1 : ∀ b k c, k1 = .slice (some b) k c → b.block ≠ w.heap.size + 1 := by
    rintro b k c rfl
    obtain ⟨g, off, cap, e, hlt, -⟩ := h1
    cases e
    show g ≠ w.heap.size + 1
    omega
  obtain ⟨g1, o1, c1, rfl, hg1, hc1⟩ := id h1
  go_enter Tryd.func24, Tryd.ntmps24
  go_upto_region 1 with fail
  have hb0 : Below w.heap.size w ((w.alloc (.cells #[k0, .slice (some ⟨g1, o1, none⟩) firstS.l.length c1] 37)).alloc (.cells #[.slice none 0 0, .string ⟨#[]⟩, .int .u64 0] 25)) := by go_grown
  have k1c : ((w.alloc (.cells #[k0, .slice (some ⟨g1, o1, none⟩) firstS.l.length c1] 37)).alloc (.cells #[.slice none 0 0, .string ⟨#[]⟩, .int .u64 0] 25)).cell? ⟨w.heap.size, 1, none⟩ = some (.slice (some ⟨g1, o1, none⟩) firstS.l.length c1) := by
    rw [cell_of_row _ _ _ _ _ _ (heap_alloc2_old _ _ _)]; rfl
  have hR : ((w.alloc (.cells #[k0, .slice (some ⟨g1, o1, none⟩) firstS.l.length c1] 37)).alloc (.cells #[.slice none 0 0, .string ⟨#[]⟩, .int .u64 0] 25)).heap[w.heap.size + 1]? = some (.cells #[.slice none 0 0, .string ⟨#[]⟩, .int .u64 0] 25) := heap_alloc2_new _ _ _
  generalize World.alloc (World.alloc w _) _ = W at hb0 k1c hR ⊢
  have d0 : W.cell? ⟨w.heap.size + 1, 0, none⟩ = some (.slice none 0 0) := by rw [cell_of_row _ _ _ _ _ _ hR]; rfl
  have d1 : W.cell? ⟨w.heap.size + 1, 1, none⟩ = some (.string ⟨#[]⟩) := by rw [cell_of_row _ _ _ _ _ _ hR]; rfl
  have d2 : W.cell? ⟨w.heap.size + 1, 2, none⟩ = some (.int .u64 0) := by rw [cell_of_row _ _ _ _ _ _ hR]; rfl
  have f0 := frozen_of_row W (w.heap.size + 1) 0 _ _ hR
  have f1 := frozen_of_row W (w.heap.size + 1) 1 _ _ hR
  have f2 := frozen_of_row W (w.heap.size + 1) 2 _ _ hR
  have e0 := setCell_far (i := 2) (u := .int .u64 0) (setCell_far (i := 1) (u := .string ⟨#[]⟩) (World.cell?_setCell_same _ ⟨w.heap.size + 1, 0, none⟩ (.slice (some ⟨g1, o1, none⟩) firstS.l.length c1) d0) (by omega)) (by omega)
  have e1 := setCell_far (i := 2) (u := .int .u64 0) (World.cell?_setCell_same _ ⟨w.heap.size + 1, 1, none⟩ (.string ⟨#[]⟩) (setCell_far (i := 0) (u := .slice (some ⟨g1, o1, none⟩) firstS.l.length c1) d1 (by omega))) (by omega)
  have e2 := World.cell?_setCell_same _ ⟨w.heap.size + 1, 2, none⟩ (.int .u64 0) (setCell_far (i := 1) (u := .string ⟨#[]⟩) (setCell_far (i := 0) (u := .slice (some ⟨g1, o1, none⟩) firstS.l.length c1) d2 (by omega)) (by omega))
  have q0 := (((h1.on hb0).set (w.heap.size + 1) 0 n1 (.slice (some ⟨g1, o1, none⟩) firstS.l.length c1)).set (w.heap.size + 1) 1 n1 (.string ⟨#[]⟩)).set (w.heap.size + 1) 2 n1 (.int .u64 0)
  have hbl : Below w.heap.size w _ := ((hb0.setCell (p := ⟨w.heap.size + 1, 0, none⟩) (Nat.le_succ _) (.slice (some ⟨g1, o1, none⟩) firstS.l.length c1)).setCell (p := ⟨w.heap.size + 1, 1, none⟩) (Nat.le_succ _) (.string ⟨#[]⟩)).setCell (p := ⟨w.heap.size + 1, 2, none⟩) (Nat.le_succ _) (.int .u64 0)
  have E0 := Lib.hid e0; have E1 := Lib.hid e1; have E2 := Lib.hid e2; have Q0 := Lib.hid q0
  clear e0 e1 e2 q0 hR hb0 hc1 h1 n1
  go_wp2_with fail
  have e0 := E0.out; have e1 := E1.out; have e2 := E2.out
  refine bodyPost_ret (v := .agg #[.slice (some ⟨g1, o1, none⟩) firstS.l.length c1, .string ⟨#[]⟩, .int .u64 0]) (by simp [results, Tryd.results24, go_sem, e0, e1, e2]) rfl ⟨_, rfl, Q0.out, hbl⟩
end Go.Proofs.YtohoenkdfconpaaDoor
