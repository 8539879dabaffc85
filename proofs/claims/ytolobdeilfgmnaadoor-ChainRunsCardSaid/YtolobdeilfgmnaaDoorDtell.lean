/- The contract of digest's tell: the words' bytes. -/
import Derived.Test.YtolobdeilfgmnaaDoorDread
import Derived.Test.YtolobdeilfgmnaaDoorKb
import Derived.Test.YtolobdeilfgmnaaDoorKc
import Derived.Test.YtolobdeilfgmnaaDoorKa
import Derived.Deep.AppendLies
import Derived.Laws.BytesArg
import Derived.Laws.MakeOwn
import Derived.Laws.OwnMore
import Derived.Lib.BufferWrite
import Derived.Lib.Strings
import Derived.Lib.UnsafeStr
import Derived.Lib.Walk
namespace Go.Proofs.YtolobdeilfgmnaaDoor
open Go.RowKit
set_option maxRecDepth 100000
/-- a word's bytes, the highest first -/
def be4 (x : BitVec 32) : List UInt8 := [UInt8.ofNat (x.toNat / 16777216), UInt8.ofNat (x.toNat / 65536), UInt8.ofNat (x.toNat / 256), UInt8.ofNat x.toNat]
def tellL (l : List (BitVec 32)) : List UInt8 := l.flatMap be4
theorem tellL_length (l : List (BitVec 32)) : (tellL l).length = 4 * l.length := by
  induction l with
  | nil => rfl
  | cons x r ih => simp [tellL, be4] at ih ⊢; omega
theorem index8L (s : S8) (k : Nat) (hk : k < 8) (w : World) :
    (Instr.index 98 (.agg (Wd s.l).toArray) (.int .i64 (k : Int))).run Tryd.prog w = .ok (.int .u32 ((s.l.getD k 0).toNat : Int)) w :=
  index8 s.a s.b s.c s.d s.e s.f s.g s.h k hk w

def TellRelD (w : World) (s : S8) (v i : Value) (wr : World) : Prop := ∃ k g cap : Nat, k ≤ 8 ∧ i = .int .i64 (k : Int) ∧ v = .slice (some ⟨g, 0, none⟩) (4 * k) cap ∧ Own wr w.heap.size v (tellL (s.l.take k)) ∧ Below w.heap.size w wr

set_option maxRecDepth 100000 in
set_option maxHeartbeats 1000000 in
theorem tell_any (s : S8) (w : World) :
    Calls Tryd.prog 57 #[.agg (Wd s.l).toArray] w fun e w' => e = .returned (.string ⟨(tellL s.l).toArray⟩) ∧ Below w.heap.size w w' := by
  obtain ⟨M, hM, hmk0⟩ := make_bytes .i64 .i64 0 32 (by omega) (by omega)
  have hmk : ∀ W : World, (Instr.makeSlice 79 (.int .i64 0) (.int .i64 32)).run Tryd.prog W = .ok (.slice (some ⟨W.heap.size, 0, none⟩) 0 32) (W.alloc (.cells M 5)) := hmk0
  have HM := Lib.hid hM
  clear hmk0 hM
  have hI := Lib.hid (index8L s)
  go_enter Tryd.func57, Tryd.ntmps57
  go_upto_region 2 with fail
  have hS : BlkW ((w.alloc (.cells (Wd s.l).toArray 98)).alloc (.cells M 5)) w.heap.size 98 s.l := (BlkW.fresh _ _ _ _ rfl _ rfl).alloc _
  have hO : Own ((w.alloc (.cells (Wd s.l).toArray 98)).alloc (.cells M 5)) w.heap.size (.slice (some ⟨w.heap.size + 1, 0, none⟩) 0 32) [] := by
    have := Own.made (w.alloc (.cells (Wd s.l).toArray 98)) M w.heap.size 0 32 HM.out (by simp) (by omega) (by omega)
    simpa using this
  have hB : Below w.heap.size w ((w.alloc (.cells (Wd s.l).toArray 98)).alloc (.cells M 5)) := by go_grown
  generalize World.alloc (World.alloc w _) _ = W0 at hS hO hB ⊢
  clear hmk HM
  refine wp_region_lit ?_
  refine load_blk rfl _ _ rfl w.heap.size rfl hS Tryd.underlying98 rfl (by rw [S8.l_length]; kernel_rfl) ?_
  clear hS
  go_wp2_with fail
  go_loopw [3, 8] (TellRelD w s) (fun _ i _ => 8 - (intOf i).toNat)
  case atStart => exact ⟨0, _, _, by omega, rfl, rfl, hO, hB⟩
  case round =>
    clear hO hB
    obtain ⟨k, g, cap, hk, rfl, rfl, hY, hB⟩ := hrel
    have hsz := hB.size
    by_cases hlt : k < 8
    · have h1 : (k : Int) < 8 := by omega
      have hix := hI.out k hlt
      obtain ⟨x, hx⟩ : ∃ x, s.l.getD k 0 = x := ⟨_, rfl⟩
      rw [hx] at hix
      have w1 : IntKind.u8.wrap ((x.toNat : Int) / 16777216) = ((UInt8.ofNat (x.toNat / 16777216)).toNat : Int) := byte_div _ 16777216
      have w2 : IntKind.u8.wrap ((x.toNat : Int) / 65536) = ((UInt8.ofNat (x.toNat / 65536)).toNat : Int) := byte_div _ 65536
      have w3 : IntKind.u8.wrap ((x.toNat : Int) / 256) = ((UInt8.ofNat (x.toNat / 256)).toNat : Int) := byte_div _ 256
      have w4 : IntKind.u8.wrap (x.toNat : Int) = ((UInt8.ofNat x.toNat).toNat : Int) := byte_of _
      have hn : tellL (s.l.take (k + 1)) = tellL (s.l.take k) ++ be4 x := by
        rw [List.take_succ_eq_append_getElem (show k < s.l.length from hlt), tellL, List.flatMap_append]
        rw [← hx, List.getD_eq_getElem?_getD, List.getElem?_eq_getElem (show k < s.l.length from hlt)]
        simp [tellL]
      have hle : (tellL (s.l.take k)).length = 4 * k := by rw [tellL_length, List.length_take, S8.l_length]; omega
      have HN := Lib.hid hn; have HY := Lib.hid hY; have HL := Lib.hid hle
      clear hx hn hY hle hI
      generalize hb1 : UInt8.ofNat (x.toNat / 16777216) = b1 at w1
      generalize hb2 : UInt8.ofNat (x.toNat / 65536) = b2 at w2
      generalize hb3 : UInt8.ofNat (x.toNat / 256) = b3 at w3
      generalize hb4 : UInt8.ofNat x.toNat = b4 at w4
      have HBE : Hid (be4 x = [b1, b2, b3, b4]) := by unfold be4; rw [hb1, hb2, hb3, hb4]; rfl
      clear hb1 hb2 hb3 hb4
      go_wp2_with (at_builtin; refine append_bytes rfl _ _ rfl w.heap.size _ (tellL (s.l.take k)) [b1, b2, b3, b4] wr.heap.size rfl ?c0 4 rfl rfl (by omega) ?c1 ?c3 ?c4 ?_)
      case c0 => exact Own.alloc HY.out _
      case c1 => exact lit_bytes _ _ _ _ rfl
      case c3 => rw [HL.out]; omega
      case c4 => simp; omega
      intro g' cap' w' hY' hg'
      have hB' := HY.out.below hB hsz hg'
      rw [HL.out] at hY'
      rw [HL.out]
      have HY' := Lib.hid hY'
      clear hY' hg' hB w1 w2 w3 w4 hix
      go_wp2_with fail
      refine ⟨⟨k + 1, g', cap', by omega, by simp, rfl, ?_, hB'⟩, by simp [intOf]; omega⟩
      rw [HN.out, HBE.out]
      exact HY'.out
    · obtain rfl : k = 8 := by omega
      rw [List.take_of_length_le (by rw [S8.l_length]; exact Nat.le_refl _)] at hY
      have cv := hY.text (by rw [tellL_length, S8.l_length])
      clear hY
      go_wp2_with fail
      go_ret
      exact ⟨rfl, hB⟩
end Go.Proofs.YtolobdeilfgmnaaDoor