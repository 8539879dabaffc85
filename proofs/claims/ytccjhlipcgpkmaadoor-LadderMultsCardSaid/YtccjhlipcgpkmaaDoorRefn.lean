/- The contract of the reference's product of digits. -/
import Derived.Test.YtccjhlipcgpkmaaDoorRefm
namespace Go.Proofs.YtccjhlipcgpkmaaDoor
open Go.RowKit

def mulOut (a b : List Int) (k : Nat) : List Int := (List.range k).map (mulDig (fun j => a.getD j 0) (fun j => b.getD j 0))
theorem mulOut_length (a b : List Int) (k : Nat) : (mulOut a b k).length = k := by simp [mulOut]
theorem mulOut_succ (a b : List Int) (k : Nat) : mulOut a b (k + 1) = mulOut a b k ++ [mulDig (fun j => a.getD j 0) (fun j => b.getD j 0) k] := by simp [mulOut, List.range_succ]
theorem getD_small {a : List Int} (h : Small a) (j : Nat) : 0 ≤ a.getD j 0 ∧ a.getD j 0 < 65536 := by
  rw [List.getD_eq_getElem?_getD]
  rcases Nat.lt_or_ge j a.length with hj | hj
  · rw [List.getElem?_eq_getElem hj]; exact h _ (List.getElem_mem hj)
  · rw [List.getElem?_eq_none hj]; simp
def MulOuter (w : World) (a b : List Int) (v i : Value) (wr : World) : Prop := ∃ k g cap : Nat, k ≤ 16 ∧ i = .int .i64 k ∧ v = .slice (some ⟨g, 0, none⟩) k cap ∧ Ints wr w.heap.size v (mulOut a b k) ∧ Below w.heap.size w wr
def MulInner (wo : World) (a b : List Int) (i : Nat) (n j : Value) (wr : World) : Prop := ∃ k q : Nat, k ≤ 16 ∧ j = .int .i64 k ∧ n = .int .i64 (sumN (mulTerm (fun j => a.getD j 0) (fun j => b.getD j 0) i) k) ∧ wr = wo.drewN q

set_option maxHeartbeats 1000000 in
theorem refMul_any (va vb : Value) (a b : List Int) (hla : a.length = 16) (hlb : b.length = 16) (hsa : Small a) (hsb : Small b) (w : World) (hA : IntsAt w va a) (hB : IntsAt w vb b) :
    Calls Tryd.prog 21 #[va, vb] w (RefPost ((valD a * valD b) % Pr) w) := by
  obtain ⟨ga, ca, rfl, hga, hca⟩ := hA
  obtain ⟨gb, cb, rfl, hgb, hcb⟩ := hB
  have HCA := Lib.hid hca; have HCB := Lib.hid hcb; have HLA := Lib.hid hla; have HLB := Lib.hid hlb; have HSA := Lib.hid hsa; have HSB := Lib.hid hsb
  clear hca hcb hsa hsb
  rw [hla, hlb]
  clear hla hlb
  go_enter Tryd.func21, Tryd.ntmps21
  go_wp2_with fail
  go_loopw [5, 6] (MulOuter w a b) (fun _ i _ => 16 - (intOf i).toNat)
  case atStart => exact ⟨0, _, _, by omega, rfl, rfl, Ints.empty w _ (Nat.le_refl _), by go_grown⟩
  case round =>
    obtain ⟨k, g, cap, hk, rfl, rfl, hI, hBl⟩ := hrel
    have hsz := hBl.size
    have HI := Lib.hid hI
    clear hI
    by_cases hlt : k < 16
    · have h1 : (k : Int) < 16 := by omega
      go_wp2_with fail
      obtain ⟨wo, rfl⟩ : ∃ wo : World, wo = wr := ⟨_, rfl⟩
      go_loopw [7, 8] (MulInner wo a b k) (fun _ j _ => 16 - (intOf j).toNat)
      case atStart => exact ⟨0, 0, by omega, rfl, rfl, rfl⟩
      case round =>
        obtain ⟨j, q, hj, rfl, rfl, rfl⟩ := hrel
        have hs0 := sumN_bound _ _ (mulTerm_bound _ _ (getD_small HSA.out) (getD_small HSB.out) k) j
        by_cases hjl : j < 16
        · have hj1 : (j : Int) < 16 := by omega
          have hda := getD_small HSA.out j
          have hca : wo.cell? ⟨ga, j, none⟩ = some (.int .i64 (a.getD j 0)) := by
            rw [hBl.cell (p := ⟨ga, j, none⟩) hga]; exact HCA.out j (by rw [HLA.out]; exact hjl)
          by_cases hle : j ≤ k
          · have hle' : (j : Int) ≤ (k : Int) := by omega
            have hdb := getD_small HSB.out (k - j)
            have hcb : wo.cell? ⟨gb, k - j, none⟩ = some (.int .i64 (b.getD (k - j) 0)) := by
                rw [hBl.cell (p := ⟨gb, k - j, none⟩) hgb]; exact HCB.out (k - j) (by rw [HLB.out]; omega)
            have ht : sumN (mulTerm (fun j => a.getD j 0) (fun j => b.getD j 0) k) (j + 1) = sumN (mulTerm (fun j => a.getD j 0) (fun j => b.getD j 0) k) j + a.getD j 0 * b.getD (k - j) 0 := by
              show _ + mulTerm _ _ k j = _
              unfold mulTerm; rw [if_pos hle]
            have hs1 := sumN_bound _ _ (mulTerm_bound _ _ (getD_small HSA.out) (getD_small HSB.out) k) (j + 1)
            rw [ht] at hs1
            have HTT := Lib.hid ht
            clear ht
            generalize sumN (mulTerm (fun j => a.getD j 0) (fun j => b.getD j 0) k) j = S at *
            generalize a.getD j 0 = x at *
            generalize b.getD (k - j) 0 = y at *
            have hxy : 0 ≤ x * y := Int.mul_nonneg hda.1 hdb.1
            have w1 : IntKind.i64.wrap (x * y) = x * y := IntWalk.i64_in _ (by omega)
            have w2 : IntKind.i64.wrap (S + x * y) = S + x * y := IntWalk.i64_in _ (by omega)
            have e1 : IntKind.i64.wrap ((k : Int) - (j : Int)) = (k : Int) - (j : Int) := IntWalk.i64_in _ (by omega)
            have e2 : ((k : Int) - (j : Int)).toNat = k - j := by omega
            have e3 : (0 : Int) ≤ (k : Int) - (j : Int) := by omega
            have e4 : (k : Int) - (j : Int) < 16 := by omega
            clear hs0 hs1
            go_wp2_with fail
            go_quiet (fail)
            go_wp2_with fail
            exact ⟨⟨j + 1, _, by omega, by simp, by rw [HTT.out], rfl⟩, by simp [intOf]; omega⟩
          · have hle' : (k : Int) < (j : Int) := by omega
            have hle2 : ¬ (j : Int) ≤ (k : Int) := by omega
            have hdb := getD_small HSB.out (16 + k - j)
            have hcb : wo.cell? ⟨gb, 16 + k - j, none⟩ = some (.int .i64 (b.getD (16 + k - j) 0)) := by
              rw [hBl.cell (p := ⟨gb, 16 + k - j, none⟩) hgb]; exact HCB.out (16 + k - j) (by rw [HLB.out]; omega)
            have ht : sumN (mulTerm (fun j => a.getD j 0) (fun j => b.getD j 0) k) (j + 1) = sumN (mulTerm (fun j => a.getD j 0) (fun j => b.getD j 0) k) j + 38 * a.getD j 0 * b.getD (16 + k - j) 0 := by
              show _ + mulTerm _ _ k j = _
              unfold mulTerm; rw [if_neg hle]
            have hs1 := sumN_bound _ _ (mulTerm_bound _ _ (getD_small HSA.out) (getD_small HSB.out) k) (j + 1)
            rw [ht] at hs1
            have HTT := Lib.hid ht
            clear ht
            generalize sumN (mulTerm (fun j => a.getD j 0) (fun j => b.getD j 0) k) j = S at *
            generalize a.getD j 0 = x at *
            generalize b.getD (16 + k - j) 0 = y at *
            have hxy : 0 ≤ 38 * x * y := Int.mul_nonneg (by omega) hdb.1
            have w0 : IntKind.i64.wrap (38 * x) = 38 * x := IntWalk.i64_in _ (by omega)
            have w1 : IntKind.i64.wrap (38 * x * y) = 38 * x * y := IntWalk.i64_in _ (by omega)
            have w2 : IntKind.i64.wrap (S + 38 * x * y) = S + 38 * x * y := IntWalk.i64_in _ (by omega)
            have e0 : IntKind.i64.wrap (16 + (k : Int)) = 16 + (k : Int) := IntWalk.i64_in _ (by omega)
            have e1 : IntKind.i64.wrap (16 + (k : Int) - (j : Int)) = 16 + (k : Int) - (j : Int) := IntWalk.i64_in _ (by omega)
            have e2 : (16 + (k : Int) - (j : Int)).toNat = 16 + k - j := by omega
            have e3 : (0 : Int) ≤ 16 + (k : Int) - (j : Int) := by omega
            have e4 : 16 + (k : Int) - (j : Int) < 16 := by omega
            clear hs0 hs1
            go_wp2_with fail
            go_quiet (fail)
            go_wp2_with fail
            exact ⟨⟨j + 1, _, by omega, by simp, by rw [HTT.out], rfl⟩, by simp [intOf]; omega⟩
        · obtain rfl : j = 16 := by omega
          have hsum : sumN (mulTerm (fun j => a.getD j 0) (fun j => b.getD j 0) k) 16 = mulDig (fun j => a.getD j 0) (fun j => b.getD j 0) k := rfl
          rw [hsum]
          have HMS := Lib.hid (mulOut_succ a b k)
          generalize mulDig (fun j => a.getD j 0) (fun j => b.getD j 0) k = D at *
          have HML := Lib.hid (mulOut_length a b k)
          obtain ⟨L, hL⟩ : ∃ L, L = mulOut a b k := ⟨_, rfl⟩
          rw [← hL] at HI HML HMS
          clear hL hs0 hsum
          go_wp2_with (at_builtin; refine append_int rfl _ _ rfl w.heap.size _ L D wo.heap.size rfl ?c0 rfl ?c1 ?c2 ?c3 ?_)
          case c0 => exact Ints.alloc (w := wo.drewN _) HI.out _
          case c1 => exact World.cell?_alloc_new (wo.drewN _) _ _ 0
          case c2 => rw [HML.out]; omega
          case c3 => simp; omega
          intro g' cap' w' hI' hg'
          have hB' := Ints.below_grown (wr := wo.drewN _) HI.out (below_quiet hBl _) hsz hg'
          clear hg' hBl
          have HI' := Lib.hid hI'
          clear hI'
          go_wp2_with fail
          refine ⟨⟨k + 1, g', cap', by omega, by simp, by rw [HML.out], ?_, hB'⟩, by simp [intOf]; omega⟩
          rw [HMS.out]
          exact HI'.out
    · obtain rfl : k = 16 := by omega
      have hleft := left_ref_any _ _ (mulOut_length a b 16) (fun d hd => by
        obtain ⟨i, hi, rfl⟩ := List.mem_map.1 hd
        have := sumN_bound _ _ (mulTerm_bound _ _ (getD_small HSA.out) (getD_small HSB.out) i) 16
        unfold mulDig
        omega) wr (HI.out.at (by rw [mulOut_length]; omega))
      have hval : valD (mulOut a b 16) % Pr = (valD a * valD b) % Pr := mul_mod a b HLA.out HLB.out
      rw [hval] at hleft
      have HLF := Lib.hid hleft
      clear hleft hval
      go_wp2_with fail
      refine HLF.out.mono ?_
      rintro e w2 ⟨v2, out, rfl, l2, s2, e2, i2, b2⟩
      go_wp2_with fail
      go_ret
      exact ⟨v2, out, rfl, l2, s2, e2, World.ownsRow.mono i2 hsz, hBl.trans (b2.mono hsz)⟩
end Go.Proofs.YtccjhlipcgpkmaaDoor
