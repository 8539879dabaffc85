/- The walk of the law LimbField: it returns true, if a number that leaves something times its power leaves 1. -/
import Derived.Test.YtccjhlipcgpkmaaDoorLaw
namespace Go.Proofs.YtccjhlipcgpkmaaDoor
open Go.RowKit

/-- what is carried from call to call: what lay before is as it was, the flag is up -/
def St (w : World) (C D : Nat) (v : World) : Prop := Below w.heap.size w v ∧ ToldAt C D v ∧ w.heap.size ≤ D ∧ D < C ∧ C < v.heap.size
theorem St.limb {w v v' : World} {C D : Nat} (h : St w C D v) (hb : Below v.heap.size v v') : St w C D v' := by
  obtain ⟨h1, h2, h3, h4, h5⟩ := h
  exact ⟨h1.trans (hb.mono (by omega)), h2.below hb h5 (by omega), h3, h4, Nat.lt_of_lt_of_le h5 hb.size⟩
theorem St.told {w v v' : World} {C D : Nat} (h : St w C D v) (ht : ToldAt C D v') (hb : Below D v v') : St w C D v' := by
  obtain ⟨h1, h2, h3, h4, h5⟩ := h
  exact ⟨h1.trans (hb.mono h3), ht, h3, h4, Nat.lt_of_lt_of_le h5 hb.size⟩
theorem St.prime {w v : World} {C D : Nat} (h : St w C D v) (hP : PrimeAt w) : PrimeAt v := hP.below h.1 hP.lt

set_option maxHeartbeats 1000000 in
theorem told_any (D : Nat) (w : World) :
    Calls Tryd.prog 24 #[.pointer (some ⟨D, 0, none⟩)] w fun e w' => e = .returned (.func (Fn.func 45) #[] #[.pointer (some ⟨w.heap.size, 0, none⟩)]) ∧ w' = w.alloc (.cells #[.pointer (some ⟨D, 0, none⟩)] 39) := by
  go_enter Tryd.func24, Tryd.ntmps24
  go_wp2_with fail
  go_ret
  exact ⟨rfl, rfl⟩

theorem f_back (A B : Int) : ((A + B) % Pr - B) % Pr = A % Pr := by rw [Int.sub_eq_add_neg, Int.emod_add_emod]; congr 1; omega
theorem f_add3 (A B C : Int) : ((A + B) % Pr + C) % Pr = (A + B + C) % Pr := by rw [Int.emod_add_emod]
theorem f_add3' (A B C : Int) : (A + (B + C) % Pr) % Pr = (A + B + C) % Pr := by rw [Int.add_emod_emod, Int.add_assoc]
theorem f_mul3 (A B C : Int) : ((A * B) % Pr * C) % Pr = (A * B * C) % Pr := by rw [Int.mul_emod, Int.emod_emod, ← Int.mul_emod]
theorem f_mul3' (A B C : Int) : (A * ((B * C) % Pr)) % Pr = (A * B * C) % Pr := by rw [Int.mul_emod, Int.emod_emod, ← Int.mul_emod, Int.mul_assoc]
theorem f_spread (A B C : Int) : (C * ((A + B) % Pr)) % Pr = (C * A + C * B) % Pr := by rw [Int.mul_emod, Int.emod_emod, ← Int.mul_emod, Int.mul_add]
theorem f_spread' (A B C : Int) : ((C * A) % Pr + (C * B) % Pr) % Pr = (C * A + C * B) % Pr := by rw [← Int.add_emod]

theorem leNum_zero : leNum (leStr 0) % Pr = 0 := by rw [leNum_leStr 0 (by omega) (by unfold W256; omega)]; rfl

theorem list_ne {s t : ByteArray} (h : s ≠ t) : (s.toList == t.toList) = false := by
  rw [beq_eq_false_iff_ne, ByteArray.toList_eq, ByteArray.toList_eq]
  intro e
  apply h
  cases s; cases t
  congr 1
  exact Array.toList_inj.1 e

set_option maxRecDepth 100000 in
set_option maxHeartbeats 8000000 in
theorem field_zero (a b c : ByteArray) (hsa : a.size = 32) (hsb : b.size = 32) (hsc : c.size = 32) (hA : leNum a % Pr = 0) (hF : (leNum a * (leNum a ^ ExpN % Pr)) % Pr = 0) (w : World) (hP : PrimeAt w) :
    Calls Tryd.prog 5 #[.string a, .string b, .string c] w fun e w' => e = .returned (.bool true) ∧ Below w.heap.size w w' := by
  have HF := Lib.hid hF
  clear hF
  have HA := Lib.hid hA
  clear hA
  have lb := hP.lt
  have HSA := Lib.hid hsa; have HSB := Lib.hid hsb; have HSC := Lib.hid hsc
  clear hsa hsb hsc
  go_enter Tryd.func5, Tryd.ntmps5
  go_wp2_with fail
  refine (sized3_good a b c HSA.out HSB.out HSC.out _ _ ?_).mono ?_
  · exact ⟨by simp, by simp, by simp⟩
  rintro e w1 ⟨rfl, rfl⟩
  go_wp2_with fail
  refine (told_any _ _).mono ?_
  rintro e w2 ⟨rfl, rfl⟩
  have hk : St w (w.heap.size + 1 + 1) (w.heap.size + 1) (((w.alloc (.cells #[.string a, .string b, .string c] 9)).alloc (.cells #[.bool true] 4)).alloc (.cells #[.pointer (some ⟨w.heap.size + 1, 0, none⟩)] 39)) := by
    refine ⟨by go_grown, ⟨?_, ?_, ?_⟩, by omega, by omega, by simp⟩ <;> simp [World.cell?_alloc_at, World.cell?_alloc_past, World.frozen?_alloc_at, World.frozen?_alloc_past]
  simp only [World.size_alloc]
  generalize World.alloc (World.alloc (World.alloc w _) _) _ = v0 at hk ⊢
  go_wp2_with fail
  refine (norm_good _ HSA.out _ (hk.prime hP)).mono ?_
  rintro e v1 ⟨rfl, hb1⟩
  replace hk := hk.limb hb1
  clear hb1
  rw [HA.out]
  go_wp2_with fail
  refine (told_good _ (leStr_size _) _ _ _ hk.2.1 (Nat.ne_of_gt hk.2.2.2.1)).mono ?_
  rintro e v2 ⟨rfl, ht2, hb2⟩
  replace hk := hk.told ht2 hb2
  clear ht2 hb2
  go_wp2_with fail
  refine (add_good _ _ HSA.out HSB.out _ (hk.prime hP)).mono ?_
  rintro e v1 ⟨rfl, hb1⟩
  replace hk := hk.limb hb1
  clear hb1
  go_wp2_with fail
  refine (told_good _ (leStr_size _) _ _ _ hk.2.1 (Nat.ne_of_gt hk.2.2.2.1)).mono ?_
  rintro e v2 ⟨rfl, ht2, hb2⟩
  replace hk := hk.told ht2 hb2
  clear ht2 hb2
  go_wp2_with fail
  refine (mul_good _ _ HSA.out HSB.out _ (hk.prime hP)).mono ?_
  rintro e v1 ⟨rfl, hb1⟩
  replace hk := hk.limb hb1
  clear hb1
  go_wp2_with fail
  refine (told_good _ (leStr_size _) _ _ _ hk.2.1 (Nat.ne_of_gt hk.2.2.2.1)).mono ?_
  rintro e v2 ⟨rfl, ht2, hb2⟩
  replace hk := hk.told ht2 hb2
  clear ht2 hb2
  go_wp2_with fail
  refine (sub_good _ _ (leStr_size _) HSB.out _ (hk.prime hP)).mono ?_
  rintro e v1 ⟨rfl, hb1⟩
  replace hk := hk.limb hb1
  clear hb1
  rw [leNum_mod, f_back, HA.out]
  go_wp2_with fail
  refine (told_good _ (leStr_size _) _ _ _ hk.2.1 (Nat.ne_of_gt hk.2.2.2.1)).mono ?_
  rintro e v2 ⟨rfl, ht2, hb2⟩
  replace hk := hk.told ht2 hb2
  clear ht2 hb2
  go_wp2_with fail
  refine (add_good _ _ HSB.out HSA.out _ (hk.prime hP)).mono ?_
  rintro e v1 ⟨rfl, hb1⟩
  replace hk := hk.limb hb1
  clear hb1
  rw [Int.add_comm (leNum b) (leNum a)]
  go_wp2_with fail
  refine (told_good _ (leStr_size _) _ _ _ hk.2.1 (Nat.ne_of_gt hk.2.2.2.1)).mono ?_
  rintro e v2 ⟨rfl, ht2, hb2⟩
  replace hk := hk.told ht2 hb2
  clear ht2 hb2
  go_wp2_with fail
  refine (mul_good _ _ HSB.out HSA.out _ (hk.prime hP)).mono ?_
  rintro e v1 ⟨rfl, hb1⟩
  replace hk := hk.limb hb1
  clear hb1
  rw [Int.mul_comm (leNum b) (leNum a)]
  go_wp2_with fail
  refine (told_good _ (leStr_size _) _ _ _ hk.2.1 (Nat.ne_of_gt hk.2.2.2.1)).mono ?_
  rintro e v2 ⟨rfl, ht2, hb2⟩
  replace hk := hk.told ht2 hb2
  clear ht2 hb2
  go_wp2_with fail
  refine (add_good _ _ (leStr_size _) HSC.out _ (hk.prime hP)).mono ?_
  rintro e v1 ⟨rfl, hb1⟩
  replace hk := hk.limb hb1
  clear hb1
  rw [leNum_mod, f_add3]
  go_wp2_with fail
  refine (told_good _ (leStr_size _) _ _ _ hk.2.1 (Nat.ne_of_gt hk.2.2.2.1)).mono ?_
  rintro e v2 ⟨rfl, ht2, hb2⟩
  replace hk := hk.told ht2 hb2
  clear ht2 hb2
  go_wp2_with fail
  refine (add_good _ _ HSB.out HSC.out _ (hk.prime hP)).mono ?_
  rintro e v1 ⟨rfl, hb1⟩
  replace hk := hk.limb hb1
  clear hb1
  go_wp2_with fail
  refine (told_good _ (leStr_size _) _ _ _ hk.2.1 (Nat.ne_of_gt hk.2.2.2.1)).mono ?_
  rintro e v2 ⟨rfl, ht2, hb2⟩
  replace hk := hk.told ht2 hb2
  clear ht2 hb2
  go_wp2_with fail
  refine (add_good _ _ HSA.out (leStr_size _) _ (hk.prime hP)).mono ?_
  rintro e v1 ⟨rfl, hb1⟩
  replace hk := hk.limb hb1
  clear hb1
  rw [leNum_mod, f_add3']
  go_wp2_with fail
  refine (told_good _ (leStr_size _) _ _ _ hk.2.1 (Nat.ne_of_gt hk.2.2.2.1)).mono ?_
  rintro e v2 ⟨rfl, ht2, hb2⟩
  replace hk := hk.told ht2 hb2
  clear ht2 hb2
  go_wp2_with fail
  refine (mul_good _ _ (leStr_size _) HSC.out _ (hk.prime hP)).mono ?_
  rintro e v1 ⟨rfl, hb1⟩
  replace hk := hk.limb hb1
  clear hb1
  rw [leNum_mod, f_mul3]
  go_wp2_with fail
  refine (told_good _ (leStr_size _) _ _ _ hk.2.1 (Nat.ne_of_gt hk.2.2.2.1)).mono ?_
  rintro e v2 ⟨rfl, ht2, hb2⟩
  replace hk := hk.told ht2 hb2
  clear ht2 hb2
  go_wp2_with fail
  refine (mul_good _ _ HSB.out HSC.out _ (hk.prime hP)).mono ?_
  rintro e v1 ⟨rfl, hb1⟩
  replace hk := hk.limb hb1
  clear hb1
  go_wp2_with fail
  refine (told_good _ (leStr_size _) _ _ _ hk.2.1 (Nat.ne_of_gt hk.2.2.2.1)).mono ?_
  rintro e v2 ⟨rfl, ht2, hb2⟩
  replace hk := hk.told ht2 hb2
  clear ht2 hb2
  go_wp2_with fail
  refine (mul_good _ _ HSA.out (leStr_size _) _ (hk.prime hP)).mono ?_
  rintro e v1 ⟨rfl, hb1⟩
  replace hk := hk.limb hb1
  clear hb1
  rw [leNum_mod, f_mul3']
  go_wp2_with fail
  refine (told_good _ (leStr_size _) _ _ _ hk.2.1 (Nat.ne_of_gt hk.2.2.2.1)).mono ?_
  rintro e v2 ⟨rfl, ht2, hb2⟩
  replace hk := hk.told ht2 hb2
  clear ht2 hb2
  go_wp2_with fail
  refine (mul_good _ _ HSC.out (leStr_size _) _ (hk.prime hP)).mono ?_
  rintro e v1 ⟨rfl, hb1⟩
  replace hk := hk.limb hb1
  clear hb1
  rw [leNum_mod, f_spread]
  go_wp2_with fail
  refine (told_good _ (leStr_size _) _ _ _ hk.2.1 (Nat.ne_of_gt hk.2.2.2.1)).mono ?_
  rintro e v2 ⟨rfl, ht2, hb2⟩
  replace hk := hk.told ht2 hb2
  clear ht2 hb2
  go_wp2_with fail
  refine (mul_good _ _ HSC.out HSA.out _ (hk.prime hP)).mono ?_
  rintro e v1 ⟨rfl, hb1⟩
  replace hk := hk.limb hb1
  clear hb1
  go_wp2_with fail
  refine (told_good _ (leStr_size _) _ _ _ hk.2.1 (Nat.ne_of_gt hk.2.2.2.1)).mono ?_
  rintro e v2 ⟨rfl, ht2, hb2⟩
  replace hk := hk.told ht2 hb2
  clear ht2 hb2
  go_wp2_with fail
  refine (mul_good _ _ HSC.out HSB.out _ (hk.prime hP)).mono ?_
  rintro e v1 ⟨rfl, hb1⟩
  replace hk := hk.limb hb1
  clear hb1
  go_wp2_with fail
  refine (told_good _ (leStr_size _) _ _ _ hk.2.1 (Nat.ne_of_gt hk.2.2.2.1)).mono ?_
  rintro e v2 ⟨rfl, ht2, hb2⟩
  replace hk := hk.told ht2 hb2
  clear ht2 hb2
  go_wp2_with fail
  refine (add_good _ _ (leStr_size _) (leStr_size _) _ (hk.prime hP)).mono ?_
  rintro e v1 ⟨rfl, hb1⟩
  replace hk := hk.limb hb1
  clear hb1
  rw [leNum_mod, leNum_mod, f_spread']
  go_wp2_with fail
  refine (told_good _ (leStr_size _) _ _ _ hk.2.1 (Nat.ne_of_gt hk.2.2.2.1)).mono ?_
  rintro e v2 ⟨rfl, ht2, hb2⟩
  replace hk := hk.told ht2 hb2
  clear ht2 hb2
  go_wp2_with fail
  refine (inv_good _ HSA.out _ (hk.prime hP)).mono ?_
  rintro e v1 ⟨rfl, hb1⟩
  replace hk := hk.limb hb1
  clear hb1
  go_wp2_with fail
  refine (told_good _ (leStr_size _) _ _ _ hk.2.1 (Nat.ne_of_gt hk.2.2.2.1)).mono ?_
  rintro e v2 ⟨rfl, ht2, hb2⟩
  replace hk := hk.told ht2 hb2
  clear ht2 hb2
  go_wp2_with fail
  refine (mul_good _ _ HSA.out (leStr_size _) _ (hk.prime hP)).mono ?_
  rintro e v1 ⟨rfl, hb1⟩
  replace hk := hk.limb hb1
  clear hb1
  rw [leNum_mod, HF.out]
  go_wp2_with fail
  refine (told_good _ (leStr_size _) _ _ _ hk.2.1 (Nat.ne_of_gt hk.2.2.2.1)).mono ?_
  rintro e v2 ⟨rfl, ht2, hb2⟩
  replace hk := hk.told ht2 hb2
  clear ht2 hb2
  go_wp2_with fail
  refine (alive_any _ (hk.prime hP)).mono ?_
  rintro e v1 ⟨rfl, hb1⟩
  replace hk := hk.limb hb1
  clear hb1
  obtain ⟨-, ⟨-, hD, -⟩, -, -, -⟩ := id hk
  go_wp2_with fail
  refine (norm_good _ (leStr_size _) _ (hk.prime hP)).mono ?_
  rintro e v1 ⟨rfl, hb1⟩
  replace hk := hk.limb hb1
  clear hb1 hD
  rw [leNum_zero]
  go_wp2_with fail
  refine (told_good _ (leStr_size _) _ _ _ hk.2.1 (Nat.ne_of_gt hk.2.2.2.1)).mono ?_
  rintro e v2 ⟨rfl, ht2, hb2⟩
  replace hk := hk.told ht2 hb2
  clear ht2 hb2
  go_wp2_with fail
  refine (small_any 0 (by omega) (by omega) _).mono ?_
  rintro e v1 ⟨rfl, hb1⟩
  replace hk := hk.limb hb1
  clear hb1
  go_wp2_with fail
  refine (small_any 0 (by omega) (by omega) _).mono ?_
  rintro e v1 ⟨rfl, hb1⟩
  replace hk := hk.limb hb1
  clear hb1
  go_wp2_with fail
  go_ret
  exact ⟨rfl, hk.1⟩
end Go.Proofs.YtccjhlipcgpkmaaDoor
