/- The contract of digest's padding. -/
import Derived.Test.YtolobdeilfgmnaaDoorDtell
namespace Go.Proofs.YtolobdeilfgmnaaDoor
open Go.RowKit
set_option maxRecDepth 100000
/-- how many bytes 0 stand behind the byte 128 -/
def padZ (m : Nat) : Nat := (119 - m % 64) % 64
/-- the i-th of a number's 8 bytes, the highest first -/
def byteAt (n i : Nat) : UInt8 := UInt8.ofNat (n / 2 ^ (56 - 8 * i))
def be8 (n : Nat) : Nat → List UInt8
  | 0 => []
  | k + 1 => be8 n k ++ [byteAt n k]
theorem be8_length (n k : Nat) : (be8 n k).length = k := by
  induction k with
  | zero => rfl
  | succ k ih => simp [be8, ih]
def padL (m : Nat) : List UInt8 := (128 :: List.replicate (padZ m) 0) ++ be8 (8 * m % 18446744073709551616) 8
theorem padL_length (m : Nat) : (padL m).length = padZ m + 9 := by simp [padL, be8_length]

def PadRel (w : World) (m : Nat) (v i : Value) (wr : World) : Prop := ∃ k g cap : Nat, k ≤ 8 ∧ i = .int .i64 (k : Int) ∧ v = .slice (some ⟨g, 0, none⟩) (padZ m + 1 + k) cap ∧ Own wr w.heap.size v ((128 :: List.replicate (padZ m) 0) ++ be8 (8 * m % 18446744073709551616) k) ∧ Below w.heap.size w wr

set_option maxRecDepth 100000 in
set_option maxHeartbeats 1000000 in
theorem padding_any (m : Nat) (_hm : m < 18446744073709551616) (w : World) :
    Calls Tryd.prog 56 #[.int .u64 (m : Int)] w fun e w' => e = .returned (.string ⟨(padL m).toArray⟩) ∧ Below w.heap.size w w' := by
  obtain ⟨z, hz⟩ : ∃ z, padZ m = z := ⟨_, rfl⟩
  have hz63 : z ≤ 63 := by rw [← hz]; unfold padZ; omega
  have e1 : (IntKind.u64.wrap (55 - (m : Int))).tmod 64 = (z : Int) := by
    have : 0 ≤ IntKind.u64.wrap (55 - (m : Int)) := by rw [IntKind.wrap_u64]; omega
    rw [Int.tmod_eq_emod_of_nonneg this, IntKind.wrap_u64, ← hz]
    unfold padZ
    omega
  obtain ⟨M, hM, hmk0⟩ := make_bytes .u64 .u64 (z + 1) (z + 9) (by omega) (by omega)
  have hmk : ∀ W : World, (Instr.makeSlice 79 (.int .u64 (1 + (z : Int))) (.int .u64 (1 + (z : Int) + 8))).run Tryd.prog W = .ok (.slice (some ⟨W.heap.size, 0, none⟩) (z + 1) (z + 9)) (W.alloc (.cells M 5)) := by
    intro W
    have := hmk0 W
    rw [show ((z + 1 : Nat) : Int) = 1 + (z : Int) by omega, show ((z + 9 : Nat) : Int) = 1 + (z : Int) + 8 by omega] at this
    exact this
  have hM0 : M[0]? = some (.int .u8 0) := by
    rw [← Array.getElem?_toList, hM]; simp
  have hO : Own (w.alloc (.cells (M.setIfInBounds 0 (.int .u8 128)) 5)) w.heap.size (.slice (some ⟨w.heap.size, 0, none⟩) (z + 1) (z + 9)) (128 :: List.replicate z 0) := by
    have hg := heap_alloc_new w (.cells (M.setIfInBounds 0 (.int .u8 128)) 5)
    have := Own.block w.heap.size (z + 9) w.heap.size _ (128 :: List.replicate z 0) hg (Nat.le_refl _) (by simp) (by unfold maxLen; omega) (by rw [Array.size_setIfInBounds, ← Array.length_toList, hM]; simp)
      (by rw [Array.toList_setIfInBounds, hM]
          rw [show z + 9 = (z + 8) + 1 by omega, List.replicate_succ, List.set_cons_zero]
          simp [Lib.byteCells, List.take_replicate])
    simpa using this
  have hB : Below w.heap.size w (w.alloc (.cells (M.setIfInBounds 0 (.int .u8 128)) 5)) := (Below.refl _ _).alloc (Nat.le_refl _) _
  have HO := Lib.hid hO; have HB := Lib.hid hB
  clear hM hO hB
  have HZ := Lib.hid hz
  clear hmk0 hz
  go_enter Tryd.func56, Tryd.ntmps56
  go_wp2_with fail
  generalize World.alloc w _ = W0 at HO HB ⊢
  clear hmk hM0 e1
  obtain ⟨q, hq⟩ : ∃ q, 8 * m % 18446744073709551616 = q := ⟨_, rfl⟩
  have hq64 : q < 18446744073709551616 := by omega
  have wq : IntKind.u64.wrap (8 * (m : Int)) = (q : Int) := by rw [IntKind.wrap_u64]; omega
  go_loopw [4, 17] (PadRel w m) (fun _ i _ => 8 - (intOf i).toNat)
  case atStart => exact ⟨0, w.heap.size, z + 9, by omega, rfl, by rw [HZ.out], by rw [HZ.out]; simp only [be8, List.append_nil]; exact HO.out, HB.out⟩
  case round =>
    clear HO HB
    obtain ⟨k, g, cap, hk, rfl, rfl, hY, hB⟩ := hrel
    rw [HZ.out] at hY
    rw [hq] at hY
    rw [HZ.out]
    have hsz := hB.size
    by_cases hlt : k < 8
    · have h1 : (k : Int) < 8 := by omega
      obtain ⟨d, hd⟩ : ∃ d, d = 56 - 8 * k := ⟨_, rfl⟩
      have es : ((56 : Int) - 8 * (k : Int)).toNat = d := by omega
      have e0 : (0 : Int) ≤ 56 - 8 * (k : Int) := by omega
      have e9 : (56 : Int) - 8 * (k : Int) ≤ 64 := by omega
      have e8 : (56 : Int) - 8 * (k : Int) < 64 := by omega
      have ew : IntKind.i64.wrap ((56 : Int) - 8 * (k : Int)) = 56 - 8 * (k : Int) := IntWalk.i64_in _ (by omega)
      obtain ⟨b, hb⟩ : ∃ b, byteAt q k = b := ⟨_, rfl⟩
      have wb : IntKind.u8.wrap ((q : Int) / 2 ^ d) = (b.toNat : Int) := by
        rw [← hb]; unfold byteAt; rw [← hd]
        have := byte_div q (2 ^ d)
        rw [← this]
        norm_cast
      obtain ⟨L, hL⟩ : ∃ L, (128 :: List.replicate z 0) ++ be8 q k = L := ⟨_, rfl⟩
      have hLl : L.length = z + 1 + k := by rw [← hL]; simp [be8_length]; omega
      rw [hL] at hY
      have HL := Lib.hid hL; have HLL := Lib.hid hLl
      clear hL hLl
      have HBY := Lib.hid hb
      have HY := Lib.hid hY
      have HD := Lib.hid hd
      clear hb hY hd
      go_wp2_with (at_builtin; refine append_bytes rfl _ _ rfl w.heap.size _ L [b] wr.heap.size rfl ?c0 1 rfl rfl (by omega) ?c1 ?c3 ?c4 ?_)
      case c0 => exact Own.alloc HY.out _
      case c1 => exact lit_bytes _ _ _ _ rfl
      case c3 => rw [HLL.out]; omega
      case c4 => simp; omega
      intro g' cap' w' hY' hg'
      have hB' := HY.out.below hB hsz hg'
      rw [HLL.out] at hY' ⊢
      have HY' := Lib.hid hY'
      clear hY' hg' hB wb es e0 e9 e8 ew
      go_wp2_with fail
      refine ⟨⟨k + 1, g', cap', by omega, by simp, by rw [HZ.out]; rfl, ?_, hB'⟩, by simp [intOf]; omega⟩
      rw [HZ.out, hq, be8, HBY.out, ← List.append_assoc, HL.out]
      exact HY'.out
    · obtain rfl : k = 8 := by omega
      have cv := hY.text (by simp [be8_length])
      rw [← hq, ← HZ.out] at cv
      have cv2 : (convert 79 9 (.slice (some ⟨g, 0, none⟩) (padZ m + 1 + 8) cap)).run Tryd.prog wr = .ok (.string ⟨(padL m).toArray⟩) wr := cv
      rw [HZ.out] at cv2
      clear hY cv
      go_wp2_with fail
      go_ret
      exact ⟨rfl, hB⟩
end Go.Proofs.YtolobdeilfgmnaaDoor