/- The contract of the reference's first. -/
import Derived.Test.YtikgefcbmoomjaaDoorJc
namespace Go.Proofs.YtikgefcbmoomjaaDoor
open Go.RowKit
set_option maxRecDepth 100000
def four : List (BitVec 32) := [1634760805, 857760878, 2036477234, 1797285236]
def FiR (n p : Nat) (w : World) (pre : List (BitVec 32)) (b : List UInt8) (m : Nat) (v i : Value) (wr : World) : Prop :=
  ∃ k g cap : Nat, k ≤ m ∧ i = .int .i64 (k : Int) ∧ v = .slice (some ⟨g, 0, none⟩) (p + k) cap ∧ OwnW wr n v (pre ++ leWs b k) ∧ Below n w wr
theorem OwnW.lit4 (w : World) (base : Nat) (hb : base ≤ w.heap.size) : OwnW (w.alloc (.cells (Wd four).toArray 61)) base (.slice (some ⟨w.heap.size, 0, none⟩) 4 4) four :=
  World.ownsRow_lit w (Wd four).toArray 4 hb (by decide) rfl
set_option maxHeartbeats 2000000 in
theorem first5_any (k5 nc : ByteArray) (n : BitVec 32) (hk : k5.size = 32) (hn : nc.size = 12) (w : World) :
    Calls Tryd.prog 55 #[.string k5, .int .u32 (n.toNat : Int), .string nc] w fun e w' => ∃ g cap, e = .returned (.slice (some ⟨g, 0, none⟩) 16 cap) ∧ OwnW w' w.heap.size (.slice (some ⟨g, 0, none⟩) 16 cap) (firstC (bl k5) n (bl nc)) ∧ Below w.heap.size w w' := by
  go_enter Tryd.func55, Tryd.ntmps55
  go_upto_region 2 with fail
  have hO := OwnW.lit4 w w.heap.size (Nat.le_refl _)
  have hB : Below w.heap.size w (w.alloc (.cells (Wd four).toArray 61)) := by go_grown
  change Code.wp Tryd.prog _ _ _ (w.alloc (.cells (Wd four).toArray 61))
  generalize World.alloc w _ = W0 at hO hB ⊢
  obtain ⟨g0, eg⟩ : ∃ g0, w.heap.size = g0 := ⟨_, rfl⟩
  have HO := Lib.hid hO; have HB := Lib.hid hB
  clear hO hB
  go_wp2_with fail
  go_loopw [7, 8] (FiR w.heap.size 4 w four (bl k5) 8) (fun _ i _ => 8 - (intOf i).toNat)
  case atStart => exact ⟨0, w.heap.size, 4, by omega, rfl, rfl, by have := HO.out; simpa [leWs] using this, HB.out⟩
  case round =>
    clear HO HB eg
    obtain ⟨k, g, cap, hk8, rfl, rfl, hO, hB⟩ := hrel
    by_cases hlt : k < 8
    · have h1 : (k : Int) < 8 := by omega
      have e1 : IntKind.i64.wrap (4 * (k : Int)) = 4 * (k : Int) := IntWalk.i64_in _ (by omega)
      have e2 : IntKind.i64.wrap (4 * (k : Int) + 4) = 4 * (k : Int) + 4 := IntWalk.i64_in _ (by omega)
      have e3 : (4 * (k : Int)).toNat = 4 * k := by omega
      have e4 : (4 * (k : Int) + 4).toNat = 4 * k + 4 := by omega
      have hsl := fun W : World => str_slice (P := Tryd.prog) 9 Tryd.underlying9 k5 (4 * (k : Int)) (4 * (k : Int) + 4) (4 * k) (4 * k + 4) (by omega) (by omega) (by omega) (by omega) W
      have hwd := word5_at k5 k (by omega)
      obtain ⟨x, hx⟩ : ∃ x, leW (bl k5) k = x := ⟨_, rfl⟩
      rw [hx] at hwd
      have hst : four ++ leWs (bl k5) (k + 1) = (four ++ leWs (bl k5) k) ++ [x] := by rw [← hx, List.append_assoc]; rfl
      have hln : (four ++ leWs (bl k5) k).length = 4 + k := by rw [List.length_append, leWs_length]; rfl
      obtain ⟨L, eL⟩ : ∃ L, four ++ leWs (bl k5) k = L := ⟨_, rfl⟩
      rw [eL] at hst hln hO
      clear eL
      have hsz := hB.size
      have HW := Lib.hid hwd; have HST := Lib.hid hst; have HLN := Lib.hid hln
      have HO := Lib.hid hO; have HB := Lib.hid hB
      clear hO hB hwd hst hln hx
      go_wp2_with fail
      refine (HW.out _).mono ?_
      rintro e w1 ⟨rfl, m1, rfl⟩
      have hO : OwnW (wr.drewN m1) w.heap.size (.slice (some ⟨g, 0, none⟩) (4 + k) cap) L := HO.out
      have hB := below_drewN HB.out m1
      have hsz : w.heap.size ≤ (wr.drewN m1).heap.size := hsz
      clear HO HB HW hsl
      generalize wr.drewN m1 = W at hO hB hsz ⊢
      have HO := Lib.hid hO; have HB := Lib.hid hB
      clear hO hB
      go_wp2_with (at_builtin; refine append_w rfl _ _ rfl w.heap.size _ L x W.heap.size rfl ?c0 ?c1 ?c2 ?c3 ?c4 ?_)
      case c0 => exact OwnW.alloc HO.out _
      case c1 => rfl
      case c2 => simp
      case c3 => rw [HLN.out]; omega
      case c4 => first | omega | (simp; omega)
      intro g' cap' w' hO' hg'
      have hB' := HO.out.below HB.out hsz hg'
      rw [← HST.out, HLN.out] at hO'
      rw [HLN.out]
      have HO' := Lib.hid hO'; have HB' := Lib.hid hB'
      clear hO' hB' hg' HO HB
      go_wp2_with fail
      exact ⟨⟨k + 1, g', cap', by omega, by simp, rfl, HO'.out, HB'.out⟩, by simp [intOf]; omega⟩
    · obtain rfl : k = 8 := by omega
      have hln : (four ++ leWs (bl k5) 8).length = 12 := by rw [List.length_append, leWs_length]; rfl
      have hln2 : (four ++ leWs (bl k5) 8 ++ [n]).length = 13 := by rw [List.length_append, hln]; rfl
      obtain ⟨L, eL⟩ : ∃ L, four ++ leWs (bl k5) 8 = L := ⟨_, rfl⟩
      rw [eL] at hln hln2 hO
      have EL := Lib.hid eL
      clear eL
      have hsz := hB.size
      have HO := Lib.hid hO; have HB := Lib.hid hB; have HLN := Lib.hid hln; have HLN2 := Lib.hid hln2
      clear hO hB hln hln2
      go_wp2_with (at_builtin; refine append_w rfl _ _ rfl w.heap.size _ L n wr.heap.size rfl ?c0 ?c1 ?c2 ?c3 ?c4 ?_)
      case c0 => exact OwnW.alloc HO.out _
      case c1 => rfl
      case c2 => simp
      case c3 => rw [HLN.out]; omega
      case c4 => first | omega | (simp; omega)
      intro g' cap' w' hO' hg'
      have hB' := HO.out.below HB.out hsz hg'
      rw [HLN.out] at hO' ⊢
      clear hg' HO HB hsz
      obtain ⟨pre, hpre⟩ : ∃ p, L ++ [n] = p := ⟨_, rfl⟩
      rw [hpre] at hO' HLN2
      have hfin : pre ++ leWs (bl nc) 3 = firstC (bl k5) n (bl nc) := by rw [← hpre, ← EL.out]; rfl
      have HFIN := Lib.hid hfin
      have HO := Lib.hid hO'; have HB := Lib.hid hB'
      clear hO' hB' hpre hfin
      go_wp2_with fail
      go_loopw [7, 9] (FiR w.heap.size 13 w pre (bl nc) 3) (fun _ i _ => 3 - (intOf i).toNat)
      case atStart => exact ⟨0, g', cap', by omega, rfl, rfl, by have := HO.out; simpa [leWs] using this, HB.out⟩
      case round =>
        clear HO HB
        obtain ⟨k, g, cap, hk3, rfl, rfl, hO, hB⟩ := hrel
        by_cases hlt : k < 3
        · have h1 : (k : Int) < 3 := by omega
          have e1 : IntKind.i64.wrap (4 * (k : Int)) = 4 * (k : Int) := IntWalk.i64_in _ (by omega)
          have e2 : IntKind.i64.wrap (4 * (k : Int) + 4) = 4 * (k : Int) + 4 := IntWalk.i64_in _ (by omega)
          have e3 : (4 * (k : Int)).toNat = 4 * k := by omega
          have e4 : (4 * (k : Int) + 4).toNat = 4 * k + 4 := by omega
          have hsl := fun W : World => str_slice (P := Tryd.prog) 9 Tryd.underlying9 nc (4 * (k : Int)) (4 * (k : Int) + 4) (4 * k) (4 * k + 4) (by omega) (by omega) (by omega) (by omega) W
          have hwd := word5_at nc k (by omega)
          obtain ⟨x, hx⟩ : ∃ x, leW (bl nc) k = x := ⟨_, rfl⟩
          rw [hx] at hwd
          have hst : pre ++ leWs (bl nc) (k + 1) = (pre ++ leWs (bl nc) k) ++ [x] := by rw [← hx, List.append_assoc]; rfl
          have hln : (pre ++ leWs (bl nc) k).length = 13 + k := by rw [List.length_append, leWs_length, HLN2.out]
          obtain ⟨L, eL⟩ : ∃ L, pre ++ leWs (bl nc) k = L := ⟨_, rfl⟩
          rw [eL] at hst hln hO
          clear eL
          have hsz := hB.size
          have HW := Lib.hid hwd; have HST := Lib.hid hst; have HLN := Lib.hid hln
          have HO := Lib.hid hO; have HB := Lib.hid hB
          clear hO hB hwd hst hln hx
          go_wp2_with fail
          refine (HW.out _).mono ?_
          rintro e w1 ⟨rfl, m1, rfl⟩
          have hO : OwnW (wr.drewN m1) w.heap.size (.slice (some ⟨g, 0, none⟩) (13 + k) cap) L := HO.out
          have hB := below_drewN HB.out m1
          have hsz : w.heap.size ≤ (wr.drewN m1).heap.size := hsz
          clear HO HB HW hsl
          generalize wr.drewN m1 = W at hO hB hsz ⊢
          have HO := Lib.hid hO; have HB := Lib.hid hB
          clear hO hB
          go_wp2_with (at_builtin; refine append_w rfl _ _ rfl w.heap.size _ L x W.heap.size rfl ?c0 ?c1 ?c2 ?c3 ?c4 ?_)
          case c0 => exact OwnW.alloc HO.out _
          case c1 => rfl
          case c2 => simp
          case c3 => rw [HLN.out]; omega
          case c4 => first | omega | (simp; omega)
          intro g' cap' w' hO' hg'
          have hB' := HO.out.below HB.out hsz hg'
          rw [← HST.out, HLN.out] at hO'
          rw [HLN.out]
          have HO' := Lib.hid hO'; have HB' := Lib.hid hB'
          clear hO' hB' hg' HO HB
          go_wp2_with fail
          refine ⟨⟨.slice (some ⟨g', 0, none⟩) (13 + k + 1) cap', .int .i64 ((k : Int) + 1), _, _, _, _, _, _, _, _, _, _, _, _, _, _, _, ⟨k + 1, g', cap', by omega, by simp, rfl, HO'.out, HB'.out⟩, rfl⟩, ?_⟩
          simp [intOf]; omega
        · obtain rfl : k = 3 := by omega
          rw [HFIN.out] at hO
          have HO := Lib.hid hO; have HB := Lib.hid hB
          clear hO hB
          go_wp2_with fail
          go_ret
          exact ⟨g, cap, rfl, HO.out, HB.out⟩
end Go.Proofs.YtikgefcbmoomjaaDoor