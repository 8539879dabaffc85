/- The contracts of the reference's functions over digits: Add. -/
import Derived.Test.YtccjhlipcgpkmaaDoorRefg
namespace Go.Proofs.YtccjhlipcgpkmaaDoor
open Go.RowKit

theorem valD_zip : ∀ a b : List Int, a.length = b.length → valD (List.zipWith (· + ·) a b) = valD a + valD b
  | [], [], _ => by simp [valD]
  | x :: a, y :: b, h => by
    have ih := valD_zip a b (by simpa using h)
    simp only [List.zipWith_cons_cons, valD, ih]
    omega
theorem zip_take (a b : List Int) (k : Nat) (ha : k < a.length) (hb : k < b.length) : (List.zipWith (· + ·) a b).take (k + 1) = (List.zipWith (· + ·) a b).take k ++ [a[k] + b[k]] := by
  rw [List.take_succ_eq_append_getElem (by simp; omega), List.getElem_zipWith]

def AddRel (w : World) (a b : List Int) (v i : Value) (wr : World) : Prop := ∃ k g cap : Nat, k ≤ 16 ∧ i = .int .i64 k ∧ v = .slice (some ⟨g, 0, none⟩) k cap ∧ Ints wr w.heap.size v ((List.zipWith (· + ·) a b).take k) ∧ Below w.heap.size w wr
def RefPost (x : Int) (w : World) (e : Ending) (w' : World) : Prop := ∃ v out, e = .returned v ∧ out.length = 16 ∧ Small out ∧ valD out = x ∧ Ints w' w.heap.size v out ∧ Below w.heap.size w w'

set_option maxHeartbeats 1000000 in
theorem refAdd_any (va vb : Value) (a b : List Int) (hla : a.length = 16) (hlb : b.length = 16) (hsa : Small a) (hsb : Small b) (w : World) (hA : IntsAt w va a) (hB : IntsAt w vb b) :
    Calls Tryd.prog 19 #[va, vb] w (RefPost ((valD a + valD b) % Pr) w) := by
  obtain ⟨ga, ca, rfl, hga, hca⟩ := hA
  obtain ⟨gb, cb, rfl, hgb, hcb⟩ := hB
  have HCA := Lib.hid hca; have HCB := Lib.hid hcb; have HLA := Lib.hid hla; have HLB := Lib.hid hlb; have HSA := Lib.hid hsa; have HSB := Lib.hid hsb
  clear hca hcb hsa hsb
  rw [hla, hlb]
  clear hla hlb
  have hzl : (List.zipWith (· + ·) a b).length = 16 := by rw [List.length_zipWith, HLA.out, HLB.out]; rfl
  have HZL := Lib.hid hzl
  clear hzl
  go_enter Tryd.func19, Tryd.ntmps19
  go_wp2_with fail
  go_loopw [5, 10] (AddRel w a b) (fun _ i _ => 16 - (intOf i).toNat)
  case atStart => exact ⟨0, _, _, by omega, rfl, rfl, Ints.empty w _ (Nat.le_refl _), by go_grown⟩
  case round =>
    obtain ⟨k, g, cap, hk, rfl, rfl, hI, hBl⟩ := hrel
    have hsz := hBl.size
    by_cases hlt : k < 16
    · have h1 : (k : Int) < 16 := by omega
      have hka : k < a.length := by rw [HLA.out]; exact hlt
      have hkb : k < b.length := by rw [HLB.out]; exact hlt
      have hda := HSA.out _ (List.getElem_mem hka)
      have hdb := HSB.out _ (List.getElem_mem hkb)
      have hcell : wr.cell? ⟨ga, k, none⟩ = some (.int .i64 a[k]) := by
        rw [hBl.cell (p := ⟨ga, k, none⟩) hga]; exact at_cell HCA.out k hka
      have hcell' : wr.cell? ⟨gb, k, none⟩ = some (.int .i64 b[k]) := by
        rw [hBl.cell (p := ⟨gb, k, none⟩) hgb]; exact at_cell HCB.out k hkb
      have hz := zip_take a b k hka hkb
      have HZ := Lib.hid hz
      have HI := Lib.hid hI
      clear hz hI
      have htl : ((List.zipWith (· + ·) a b).take k).length = k := by rw [List.length_take, HZL.out]; omega
      have HTL := Lib.hid htl
      clear htl
      obtain ⟨L, hL⟩ : ∃ L, L = (List.zipWith (· + ·) a b).take k := ⟨_, rfl⟩
      rw [← hL] at HI HTL HZ
      clear hL
      generalize a[k] = x at *
      generalize b[k] = y at *
      obtain ⟨x0, x1⟩ := hda
      obtain ⟨y0, y1⟩ := hdb
      have hl1 : ga < wr.heap.size := by omega
      have hl2 : gb < wr.heap.size := by omega
      have w1 : IntKind.i64.wrap (x + y) = x + y := IntWalk.i64_in _ (by omega)
      go_wp2_with fail
      go_region_law (first | (refine step_append_int rfl _ _ rfl w.heap.size _ L (x + y) wr.heap.size rfl ?_ rfl ?_ ?_ ?_ ?_; exact (HI.out.alloc _); simp; (rw [HTL.out]; omega); (simp; omega); intro g' cap' w' hI' hg'))
      all_goals
        have hB' := (HI.out.alloc (.cells #[.int .i64 (x + y)] 3)).drew.below_at (hBl.alloc hsz _).drew (by simp; omega) hg'
        clear hg' hBl
        have HI' := Lib.hid hI'
        clear hI'
        go_wp2_with fail
        refine ⟨⟨k + 1, g', cap', by omega, by simp, by rw [HTL.out], ?_, hB'⟩, by simp [intOf]; omega⟩
        rw [HZ.out]
        exact HI'.out
    · obtain rfl : k = 16 := by omega
      have et : (List.zipWith (· + ·) a b).take 16 = List.zipWith (· + ·) a b := List.take_of_length_le (by rw [HZL.out]; exact Nat.le_refl _)
      rw [et] at hI
      have hleft := left_ref_any _ _ HZL.out (fun d hd => by
        obtain ⟨i, hi, rfl⟩ := List.getElem_of_mem hd
        have hi' : i < 16 := by rw [← HZL.out]; exact hi
        rw [List.getElem_zipWith]
        have h1 := HSA.out _ (List.getElem_mem (show i < a.length by rw [HLA.out]; exact hi'))
        have h2 := HSB.out _ (List.getElem_mem (show i < b.length by rw [HLB.out]; exact hi'))
        omega) wr (hI.at (by rw [HZL.out]; omega))
      have hval : valD (List.zipWith (· + ·) a b) = valD a + valD b := valD_zip a b (by rw [HLA.out, HLB.out])
      rw [hval] at hleft
      have HLF := Lib.hid hleft
      clear hleft hval et hI
      go_wp2_with fail
      refine HLF.out.mono ?_
      rintro e w2 ⟨v2, out, rfl, l2, s2, e2, i2, b2⟩
      go_wp2_with fail
      go_ret
      exact ⟨v2, out, rfl, l2, s2, e2, World.ownsRow.mono i2 hsz, hBl.trans (b2.mono hsz)⟩
end Go.Proofs.YtccjhlipcgpkmaaDoor
