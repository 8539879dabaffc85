/- The walk of the law LimbField where something is left of the first number. -/
import Derived.Test.YtccjhlipcgpkmaaDoorField
namespace Go.Proofs.YtccjhlipcgpkmaaDoor
open Go.RowKit

set_option maxRecDepth 100000 in
set_option maxHeartbeats 8000000 in
theorem field_one (a b c : ByteArray) (hsa : a.size = 32) (hsb : b.size = 32) (hsc : c.size = 32) (hA : leNum a % Pr ≠ 0) (hF : (leNum a * (leNum a ^ ExpN % Pr)) % Pr = 1) (w : World) (hP : PrimeAt w) :
    Calls Tryd.prog 5 #[.string a, .string b, .string c] w fun e w' => e = .returned (.bool true) ∧ Below w.heap.size w w' := by
  have HF := Lib.hid hF
  clear hF
  have hne : leStr (leNum a % Pr) ≠ leStr 0 := fun h => hA (leStr_inj (mod_range _).1 (mod_range _).2 (by omega) (by unfold W256; omega) h)
  have q1 := list_ne hne
  clear hne hA
  have lb := hP.lt
  have HSA := Lib.hid hsa; have HSB := Lib.hid hsb; have HSC := Lib.hid hsc
  clear hsa hsb hsc
  go_enter Tryd.func5, Tryd.ntmps5
  go_wp2_with fail
  refine (sized3_good a b c HSA.out HSB.out HSC.out _ _ ?_).mono ?_
  · exact ⟨by simp, by simp, by simp⟩
  rintro e w1 ⟨rfl, rfl⟩
  go_wp2_with fail
  refine (told_any _ _).mono ?_
  rintro e w2 ⟨rfl, rfl⟩
  have hk : St w (w.heap.size + 1 + 1) (w.heap.size + 1) (((w.alloc (.cells #[.string a, .string b, .string c] 9)).alloc (.cells #[.bool true] 4)).alloc (.cells #[.pointer (some ⟨w.heap.size + 1, 0, none⟩)] 39)) := by
    refine ⟨by go_grown, ⟨?_, ?_, ?_⟩, by omega, by omega, by simp⟩ <;> simp [World.cell?_alloc_at, World.cell?_alloc_past, World.frozen?_alloc_at, World.frozen?_alloc_past]
  simp only [World.size_alloc]
  generalize World.alloc (World.alloc (World.alloc w _) _) _ = v0 at hk ⊢
  go_wp2_with fail
  refine (norm_good _ HSA.out _ (hk.prime hP)).mono ?_
  rintro e v1 ⟨rfl, hb1⟩
  replace hk := hk.limb hb1
  clear hb1
  go_wp2_with fail
  refine (told_good _ (leStr_size _) _ _ _ hk.2.1 (Nat.ne_of_gt hk.2.2.2.1)).mono ?_
  rintro e v2 ⟨rfl, ht2, hb2⟩
  replace hk := hk.told ht2 hb2
  clear ht2 hb2
  go_wp2_with fail
  refine (add_good _ _ HSA.out HSB.out _ (hk.prime hP)).mono ?_
  rintro e v1 ⟨rfl, hb1⟩
  replace hk := hk.limb hb1
  clear hb1
  go_wp2_with fail
  refine (told_good _ (leStr_size _) _ _ _ hk.2.1 (Nat.ne_of_gt hk.2.2.2.1)).mono ?_
  rintro e v2 ⟨rfl, ht2, hb2⟩
  replace hk := hk.told ht2 hb2
  clear ht2 hb2
  go_wp2_with fail
  refine (mul_good _ _ HSA.out HSB.out _ (hk.prime hP)).mono ?_
  rintro e v1 ⟨rfl, hb1⟩
  replace hk := hk.limb hb1
  clear hb1
  go_wp2_with fail
  refine (told_good _ (leStr_size _) _ _ _ hk.2.1 (Nat.ne_of_gt hk.2.2.2.1)).mono ?_
  rintro e v2 ⟨rfl, ht2, hb2⟩
  replace hk := hk.told ht2 hb2
  clear ht2 hb2
  go_wp2_with fail
  refine (sub_good _ _ (leStr_size _) HSB.out _ (hk.prime hP)).mono ?_
  rintro e v1 ⟨rfl, hb1⟩
  replace hk := hk.limb hb1
  clear hb1
  rw [leNum_mod, f_back]
  go_wp2_with fail
  refine (told_good _ (leStr_size _) _ _ _ hk.2.1 (Nat.ne_of_gt hk.2.2.2.1)).mono ?_
  rintro e v2 ⟨rfl, ht2, hb2⟩
  replace hk := hk.told ht2 hb2
  clear ht2 hb2
  go_wp2_with fail
  refine (add_good _ _ HSB.out HSA.out _ (hk.prime hP)).mono ?_
  rintro e v1 ⟨rfl, hb1⟩
  replace hk := hk.limb hb1
  clear hb1
  rw [Int.add_comm (leNum b) (leNum a)]
  go_wp2_with fail
  refine (told_good _ (leStr_size _) _ _ _ hk.2.1 (Nat.ne_of_gt hk.2.2.2.1)).mono ?_
  rintro e v2 ⟨rfl, ht2, hb2⟩
  replace hk := hk.told ht2 hb2
  clear ht2 hb2
  go_wp2_with fail
  refine (mul_good _ _ HSB.out HSA.out _ (hk.prime hP)).mono ?_
  rintro e v1 ⟨rfl, hb1⟩
  replace hk := hk.limb hb1
  clear hb1
  rw [Int.mul_comm (leNum b) (leNum a)]
  go_wp2_with fail
  refine (told_good _ (leStr_size _) _ _ _ hk.2.1 (Nat.ne_of_gt hk.2.2.2.1)).mono ?_
  rintro e v2 ⟨rfl, ht2, hb2⟩
  replace hk := hk.told ht2 hb2
  clear ht2 hb2
  go_wp2_with fail
  refine (add_good _ _ (leStr_size _) HSC.out _ (hk.prime hP)).mono ?_
  rintro e v1 ⟨rfl, hb1⟩
  replace hk := hk.limb hb1
  clear hb1
  rw [leNum_mod, f_add3]
  go_wp2_with fail
  refine (told_good _ (leStr_size _) _ _ _ hk.2.1 (Nat.ne_of_gt hk.2.2.2.1)).mono ?_
  rintro e v2 ⟨rfl, ht2, hb2⟩
  replace hk := hk.told ht2 hb2
  clear ht2 hb2
  go_wp2_with fail
  refine (add_good _ _ HSB.out HSC.out _ (hk.prime hP)).mono ?_
  rintro e v1 ⟨rfl, hb1⟩
  replace hk := hk.limb hb1
  clear hb1
  go_wp2_with fail
  refine (told_good _ (leStr_size _) _ _ _ hk.2.1 (Nat.ne_of_gt hk.2.2.2.1)).mono ?_
  rintro e v2 ⟨rfl, ht2, hb2⟩
  replace hk := hk.told ht2 hb2
  clear ht2 hb2
  go_wp2_with fail
  refine (add_good _ _ HSA.out (leStr_size _) _ (hk.prime hP)).mono ?_
  rintro e v1 ⟨rfl, hb1⟩
  replace hk := hk.limb hb1
  clear hb1
  rw [leNum_mod, f_add3']
  go_wp2_with fail
  refine (told_good _ (leStr_size _) _ _ _ hk.2.1 (Nat.ne_of_gt hk.2.2.2.1)).mono ?_
  rintro e v2 ⟨rfl, ht2, hb2⟩
  replace hk := hk.told ht2 hb2
  clear ht2 hb2
  go_wp2_with fail
  refine (mul_good _ _ (leStr_size _) HSC.out _ (hk.prime hP)).mono ?_
  rintro e v1 ⟨rfl, hb1⟩
  replace hk := hk.limb hb1
  clear hb1
  rw [leNum_mod, f_mul3]
  go_wp2_with fail
  refine (told_good _ (leStr_size _) _ _ _ hk.2.1 (Nat.ne_of_gt hk.2.2.2.1)).mono ?_
  rintro e v2 ⟨rfl, ht2, hb2⟩
  replace hk := hk.told ht2 hb2
  clear ht2 hb2
  go_wp2_with fail
  refine (mul_good _ _ HSB.out HSC.out _ (hk.prime hP)).mono ?_
  rintro e v1 ⟨rfl, hb1⟩
  replace hk := hk.limb hb1
  clear hb1
  go_wp2_with fail
  refine (told_good _ (leStr_size _) _ _ _ hk.2.1 (Nat.ne_of_gt hk.2.2.2.1)).mono ?_
  rintro e v2 ⟨rfl, ht2, hb2⟩
  replace hk := hk.told ht2 hb2
  clear ht2 hb2
  go_wp2_with fail
  refine (mul_good _ _ HSA.out (leStr_size _) _ (hk.prime hP)).mono ?_
  rintro e v1 ⟨rfl, hb1⟩
  replace hk := hk.limb hb1
  clear hb1
  rw [leNum_mod, f_mul3']
  go_wp2_with fail
  refine (told_good _ (leStr_size _) _ _ _ hk.2.1 (Nat.ne_of_gt hk.2.2.2.1)).mono ?_
  rintro e v2 ⟨rfl, ht2, hb2⟩
  replace hk := hk.told ht2 hb2
  clear ht2 hb2
  go_wp2_with fail
  refine (mul_good _ _ HSC.out (leStr_size _) _ (hk.prime hP)).mono ?_
  rintro e v1 ⟨rfl, hb1⟩
  replace hk := hk.limb hb1
  clear hb1
  rw [leNum_mod, f_spread]
  go_wp2_with fail
  refine (told_good _ (leStr_size _) _ _ _ hk.2.1 (Nat.ne_of_gt hk.2.2.2.1)).mono ?_
  rintro e v2 ⟨rfl, ht2, hb2⟩
  replace hk := hk.told ht2 hb2
  clear ht2 hb2
  go_wp2_with fail
  refine (mul_good _ _ HSC.out HSA.out _ (hk.prime hP)).mono ?_
  rintro e v1 ⟨rfl, hb1⟩
  replace hk := hk.limb hb1
  clear hb1
  go_wp2_with fail
  refine (told_good _ (leStr_size _) _ _ _ hk.2.1 (Nat.ne_of_gt hk.2.2.2.1)).mono ?_
  rintro e v2 ⟨rfl, ht2, hb2⟩
  replace hk := hk.told ht2 hb2
  clear ht2 hb2
  go_wp2_with fail
  refine (mul_good _ _ HSC.out HSB.out _ (hk.prime hP)).mono ?_
  rintro e v1 ⟨rfl, hb1⟩
  replace hk := hk.limb hb1
  clear hb1
  go_wp2_with fail
  refine (told_good _ (leStr_size _) _ _ _ hk.2.1 (Nat.ne_of_gt hk.2.2.2.1)).mono ?_
  rintro e v2 ⟨rfl, ht2, hb2⟩
  replace hk := hk.told ht2 hb2
  clear ht2 hb2
  go_wp2_with fail
  refine (add_good _ _ (leStr_size _) (leStr_size _) _ (hk.prime hP)).mono ?_
  rintro e v1 ⟨rfl, hb1⟩
  replace hk := hk.limb hb1
  clear hb1
  rw [leNum_mod, leNum_mod, f_spread']
  go_wp2_with fail
  refine (told_good _ (leStr_size _) _ _ _ hk.2.1 (Nat.ne_of_gt hk.2.2.2.1)).mono ?_
  rintro e v2 ⟨rfl, ht2, hb2⟩
  replace hk := hk.told ht2 hb2
  clear ht2 hb2
  go_wp2_with fail
  refine (inv_good _ HSA.out _ (hk.prime hP)).mono ?_
  rintro e v1 ⟨rfl, hb1⟩
  replace hk := hk.limb hb1
  clear hb1
  go_wp2_with fail
  refine (told_good _ (leStr_size _) _ _ _ hk.2.1 (Nat.ne_of_gt hk.2.2.2.1)).mono ?_
  rintro e v2 ⟨rfl, ht2, hb2⟩
  replace hk := hk.told ht2 hb2
  clear ht2 hb2
  go_wp2_with fail
  refine (mul_good _ _ HSA.out (leStr_size _) _ (hk.prime hP)).mono ?_
  rintro e v1 ⟨rfl, hb1⟩
  replace hk := hk.limb hb1
  clear hb1
  rw [leNum_mod, HF.out]
  go_wp2_with fail
  refine (told_good _ (leStr_size _) _ _ _ hk.2.1 (Nat.ne_of_gt hk.2.2.2.1)).mono ?_
  rintro e v2 ⟨rfl, ht2, hb2⟩
  replace hk := hk.told ht2 hb2
  clear ht2 hb2
  go_wp2_with fail
  refine (alive_any _ (hk.prime hP)).mono ?_
  rintro e v1 ⟨rfl, hb1⟩
  replace hk := hk.limb hb1
  clear hb1
  obtain ⟨-, ⟨-, hD, -⟩, -, -, -⟩ := id hk
  go_wp2_with fail
  refine (norm_good _ (leStr_size _) _ (hk.prime hP)).mono ?_
  rintro e v1 ⟨rfl, hb1⟩
  replace hk := hk.limb hb1
  clear hb1 hD
  rw [leNum_mod, Int.emod_emod]
  go_wp2_with fail
  refine (told_good _ (leStr_size _) _ _ _ hk.2.1 (Nat.ne_of_gt hk.2.2.2.1)).mono ?_
  rintro e v2 ⟨rfl, ht2, hb2⟩
  replace hk := hk.told ht2 hb2
  clear ht2 hb2
  go_wp2_with fail
  refine (small_any 0 (by omega) (by omega) _).mono ?_
  rintro e v1 ⟨rfl, hb1⟩
  replace hk := hk.limb hb1
  clear hb1
  go_wp2_with fail
  refine (small_any 0 (by omega) (by omega) _).mono ?_
  rintro e v1 ⟨rfl, hb1⟩
  replace hk := hk.limb hb1
  clear hb1
  go_wp2_with fail
  refine (small_any 1 (by omega) (by omega) _).mono ?_
  rintro e v1 ⟨rfl, hb1⟩
  replace hk := hk.limb hb1
  clear hb1
  go_wp2_with fail
  go_ret
  exact ⟨rfl, hk.1⟩
end Go.Proofs.YtccjhlipcgpkmaaDoor
