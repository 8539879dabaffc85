/- The reference 10: so many of a chain's steps. -/
import Derived.Test.YtolobdeilfgmnaaDoorVf
import Derived.Test.YtolobdeilfgmnaaDoorUy
namespace Go.Proofs.YtolobdeilfgmnaaDoor
open Go.RowKit
set_option maxRecDepth 100000

structure RcAt (w : World) (X Y : Nat) (u0 u1 : Value) (c : ByteArray) (k : Nat) (v : Value) (wr : World) : Prop where
  kr : wr.heap[X]? = some (.cells #[u0, u1] 29)
  res : wr.heap[X + 1]? = some (.cells #[.string ⟨#[]⟩, .slice none 0 0] 41)
  out : wr.heap[Y]? = some (.cells #[.string (runC c k), v] 41)
  own : OwnS wr (Y + 1) v (runK c k)
  below : Below w.heap.size w wr
def RcRel (w : World) (X Y : Nat) (u0 u1 : Value) (c : ByteArray) (n : Nat) (i : Value) (wr : World) : Prop := ∃ (k : Nat) (v : Value), k ≤ n ∧ i = .int .i64 (k : Int) ∧ RcAt w X Y u0 u1 c k v wr
set_option maxHeartbeats 8000000 in
theorem refrunC_any (kv : Value) (c : ByteArray) (hc : c.size = 32) (n : Nat) (hn : n ≤ 64) (w : World) (hk : KAt w kv) :
    Calls Tryd.prog 14 #[kv, .string c, .int .i64 (n : Int)] w fun e w' => ∃ (a : Option Addr) (cap : Nat), e = .returned (.agg #[.string (runC c n), .slice a (runK c n).length cap]) ∧ Rd9 w' a cap (runK c n) ∧ Below w.heap.size w w' := by
  have hKA := id hk
  obtain ⟨k0, k1, rfl, hK0, hK1⟩ := hk
  obtain ⟨g0, o0, c0, rfl, hg0, -⟩ := hK0
  obtain ⟨g1, o1, c1, rfl, hg1, -⟩ := hK1
  simp only [S8.l_length, keysL_length] at hKA ⊢
  obtain ⟨X, eX⟩ : ∃ X, w.heap.size = X := ⟨_, rfl⟩
  obtain ⟨Y, eY⟩ : ∃ Y, X + 1 + 1 = Y := ⟨_, rfl⟩
  obtain ⟨u0, eu0⟩ : ∃ u, Value.slice (some ⟨g0, o0, none⟩) 64 c0 = u := ⟨_, rfl⟩
  obtain ⟨u1, eu1⟩ : ∃ u, Value.slice (some ⟨g1, o1, none⟩) 8 c1 = u := ⟨_, rfl⟩
  have h0 : RcAt w X Y u0 u1 c 0 (.slice none 0 0) (((w.alloc (.cells #[u0, u1] 29)).alloc (.cells #[.string ⟨#[]⟩, .slice none 0 0] 41)).alloc (.cells #[.string c, .slice none 0 0] 41)) := by
    have q0 := heap_alloc2_old w (.cells #[u0, u1] 29) (.cells #[.string ⟨#[]⟩, .slice none 0 0] 41)
    have q1 := heap_alloc2_new w (.cells #[u0, u1] 29) (.cells #[.string ⟨#[]⟩, .slice none 0 0] 41)
    have q2 := heap_alloc_new ((w.alloc (.cells #[u0, u1] 29)).alloc (.cells #[.string ⟨#[]⟩, .slice none 0 0] 41)) (.cells #[.string c, .slice none 0 0] 41)
    rw [eX] at q0 q1
    rw [show ((w.alloc (.cells #[u0, u1] 29)).alloc (.cells #[.string ⟨#[]⟩, .slice none 0 0] 41)).heap.size = Y by simp; omega] at q2
    exact ⟨(heap_alloc_old _ _ (by simp; omega)).trans q0, (heap_alloc_old _ _ (by simp; omega)).trans q1, q2, ⟨rfl, .inl ⟨rfl, rfl⟩⟩, (((Below.refl _ w).alloc (Nat.le_refl _) _).alloc (by simp) _).alloc (by simp; omega) _⟩
  obtain ⟨W0, eW⟩ : ∃ W0, ((w.alloc (.cells #[u0, u1] 29)).alloc (.cells #[.string ⟨#[]⟩, .slice none 0 0] 41)).alloc (.cells #[.string c, .slice none 0 0] 41) = W0 := ⟨_, rfl⟩
  rw [eW] at h0
  rw [eu0, eu1] at hKA ⊢
  have H0 := Lib.hid h0; have HW := Lib.hid eW; have HX := Lib.hid eX; have HKA := Lib.hid hKA; have HC := Lib.hid hc
  subst eu0 eu1
  clear h0 eW hKA hc
  go_enter Tryd.func14, Tryd.ntmps14
  go_wp2_with fail
  rw [HW.out]
  have HY := Lib.hid eY
  clear eX eY HW
  go_loopw [8] (RcRel w X Y (.slice (some ⟨g0, o0, none⟩) 64 c0) (.slice (some ⟨g1, o1, none⟩) 8 c1) c n) (fun i _ => n - (intOf i).toNat)
  case atStart => exact ⟨0, _, Nat.zero_le _, rfl, H0.out⟩
  case round =>
    clear H0
    obtain ⟨k, v, hkn, rfl, hA⟩ := hrel
    obtain ⟨a, cp, rfl, -, -⟩ := hA.own.form
    rw [runK_length] at hA
    by_cases hlt : k < n
    · have l1 : (k : Int) < (n : Int) := by omega
      have l2 : (k : Int) ≤ 64 := by omega
      have e0 : wr.cell? ⟨X, 0, none⟩ = some (.slice (some ⟨g0, o0, none⟩) 64 c0) := by rw [cell_of_row _ _ _ _ _ _ hA.kr]; rfl
      have e1 : wr.cell? ⟨X, 1, none⟩ = some (.slice (some ⟨g1, o1, none⟩) 8 c1) := by rw [cell_of_row _ _ _ _ _ _ hA.kr]; rfl
      have y0 : wr.cell? ⟨Y, 0, none⟩ = some (.string (runC c k)) := by rw [cell_of_row _ _ _ _ _ _ hA.out]; rfl
      have hS := refstepC_any _ (runC c k) (by rw [runC_size c HC.out]; omega) wr (HKA.out.on hA.below)
      have hrn : runC c (k + 1) = spA (runC c k) stWord := rfl
      have hkn1 := runK_succ c k
      have hkl := runK_length c k
      generalize spA (runC c k) stWord = A at hS hrn
      generalize spB (runC c k) stWord = B at hS hkn1
      obtain ⟨r, er⟩ : ∃ r, runC c k = r := ⟨_, rfl⟩
      obtain ⟨L, eL⟩ : ∃ L, runK c k = L := ⟨_, rfl⟩
      have hown := hA.own
      have hkr := hA.kr; have hres := hA.res; have hout := hA.out; have hbel := hA.below
      rw [er] at hS y0 hout
      rw [eL] at hown hkn1 hkl
      have HS := Lib.hid hS; have HA := Lib.hid (And.intro hkr (And.intro hres (And.intro hout (And.intro hown hbel)))); have HN := Lib.hid (And.intro hrn (And.intro hkn1 hkl))
      clear hS hA hrn hkn1 hkl hown hkr hres hout hbel er eL
      go_wp2_with fail
      refine HS.out.mono ?_
      rintro e w1 ⟨rfl, hb⟩
      obtain ⟨R, eR⟩ : ∃ R, w1.heap.size = R := ⟨_, rfl⟩
      have hal : Below w1.heap.size w1 (w1.alloc (.cells #[.string A, .string B] 32)) := (Below.refl _ _).alloc (Nat.le_refl _) _
      have hb2 := hb.trans (hal.mono hb.size)
      have X0 := (hb2.block X (Array.getElem?_eq_some_iff.1 HA.out.1).1).trans HA.out.1
      have X1 := (hb2.block (X + 1) (Array.getElem?_eq_some_iff.1 HA.out.2.1).1).trans HA.out.2.1
      have X2 := (hb2.block Y (Array.getElem?_eq_some_iff.1 HA.out.2.2.1).1).trans HA.out.2.2.1
      have hR := heap_alloc_new w1 (.cells #[.string A, .string B] 32)
      have ho1 := HA.out.2.2.2.1.on hb
      have hRne : some w1.heap.size ≠ (Value.slice a k cp).ownBlock := fun e => by
        have := (World.ownsRow.lt ho1 _ e.symm).2
        omega
      have ho := ho1.on hal
      have hbw := HA.out.2.2.2.2.trans (hb2.mono HA.out.2.2.2.2.size)
      have hXl : Y + 1 ≤ w1.heap.size := by
        have h5 := (Array.getElem?_eq_some_iff.1 HA.out.2.2.1).1
        have := hb.size
        omega
      have HV := Lib.hid (And.intro X0 (And.intro X1 (And.intro X2 (And.intro hR (And.intro ho (And.intro hbw (And.intro hRne (And.intro hXl (show w1.heap.size < (w1.alloc (.cells #[.string A, .string B] 32)).heap.size by simp)))))))))
      clear hal hb2 X0 X1 X2 hR ho1 hRne ho hbw hXl hb HA HS e0 e1 y0
      go_upto_region 6 with fail
      rw [eR] at HV
      clear eR
      generalize World.alloc w1 _ = V at HV ⊢
      obtain ⟨X0, X1, X2, hR, ho, hbw, hRne, hXl, hRl⟩ := HV.out
      have hXY := HY.out
      have p0 : V.cell? ⟨R, 0, none⟩ = some (.string A) := by rw [cell_of_row _ _ _ _ _ _ hR]; rfl
      have y0 : V.cell? ⟨Y, 0, none⟩ = some (.string r) := by rw [cell_of_row _ _ _ _ _ _ X2]; rfl
      have f0 := frozen_of_row V Y 0 _ _ X2
      have z0 := (Below.heap_setCell V ⟨Y, 0, none⟩ (.string A) X (fun e => by have : X = Y := e; omega)).trans X0
      have z1 := (Below.heap_setCell V ⟨Y, 0, none⟩ (.string A) (X + 1) (fun e => by have : X + 1 = Y := e; omega)).trans X1
      have z2 := store_fst X2 (.string A)
      have zR := (Below.heap_setCell V ⟨Y, 0, none⟩ (.string A) R (fun e => by have : R = Y := e; omega)).trans hR
      have zo : OwnS (V.setCell ⟨Y, 0, none⟩ (.string A)) (Y + 1) (.slice a k cp) L := OwnS.same ho fun j hj => Below.heap_setCell _ _ _ j (fun e => by have h1 := (World.ownsRow.lt ho j hj).1; have : j = Y := e; omega)
      have zb := hbw.setCell (p := ⟨Y, 0, none⟩) (show w.heap.size ≤ Y by have := HX.out; omega) (.string A)
      have HZ := Lib.hid (And.intro z0 (And.intro z1 (And.intro z2 (And.intro zR (And.intro zo (And.intro zb (And.intro hXl hRne)))))))
      clear X0 X1 X2 hR ho hbw hRne hXl hRl z0 z1 z2 zR zo zb hXY HV
      go_upto_region 7 with fail
      clear p0 y0 f0
      generalize World.setCell V _ _ = Z at HZ ⊢
      have y1 : Z.cell? ⟨Y, 1, none⟩ = some (.slice a k cp) := by rw [cell_of_row _ _ _ _ _ _ HZ.out.2.2.1]; rfl
      have p1 : Z.cell? ⟨R, 1, none⟩ = some (.string B) := by rw [cell_of_row _ _ _ _ _ _ HZ.out.2.2.2.1]; rfl
      have hZl : Y + 1 ≤ Z.heap.size := (Array.getElem?_eq_some_iff.1 HZ.out.2.2.1).1
      have HZL := Lib.hid hZl
      clear hZl
      go_wp2_with (at_builtin; refine append_s rfl _ _ rfl (Y + 1) _ L B Z.heap.size rfl (HZ.out.2.2.2.2.1.alloc _) rfl (by simp) (by have := HN.out.2.2; omega) (by have := HZL.out; simp; omega) ?_; intro g' cap' w3 ho3 hg3; have HG3 := Lib.hid hg3; have HO3 := Lib.hid ho3; clear hg3 ho3; have j2 := (HG3.out.block Y (by have := HZL.out; simp; omega) (own_ne HZ.out.2.2.2.2.1 Y (by omega))).trans ((heap_alloc_old Z (.cells #[.string B] 9) (show Y < Z.heap.size by have := HZL.out; omega)).trans HZ.out.2.2.1); have n1 : w3.cell? ⟨Y, 1, none⟩ = some (.slice a k cp) := (by rw [cell_of_row _ _ _ _ _ _ j2]; rfl); have g1 := frozen_of_row w3 Y 1 _ _ j2; have HJ := Lib.hid j2; clear j2)
      have hXY := HY.out
      have hoth : ∀ j, j ≤ X + 1 → w3.heap[j]? = Z.heap[j]? := fun j hj => (HG3.out.block j (by have := HZL.out; simp; omega) (own_ne HZ.out.2.2.2.2.1 j (by omega))).trans (heap_alloc_old Z (.cells #[.string B] 9) (show j < Z.heap.size by have := HZL.out; omega))
      have hfar : ∀ (x : Value) (j : Nat), j ≠ Y → (w3.setCell ⟨Y, 1, none⟩ x).heap[j]? = w3.heap[j]? := fun x j hj => Below.heap_setCell _ _ _ j (fun e => hj e)
      have hbl : Below w.heap.size w w3 := OwnS.below (own_base HZ.out.2.2.2.2.1 (show w.heap.size ≤ Y + 1 by have := HX.out; omega)) HZ.out.2.2.2.2.2.1 (by have := HZL.out; have := HX.out; omega) HG3.out
      refine ⟨⟨k + 1, .slice (some ⟨g', 0, none⟩) (L.length + 1) cap', by omega, by simp, ⟨?_, ?_, ?_, ?_, ?_⟩⟩, by simp [intOf]; omega⟩
      · exact (hfar _ X (by omega)).trans ((hoth X (by omega)).trans HZ.out.1)
      · exact (hfar _ (X + 1) (by omega)).trans ((hoth (X + 1) (by omega)).trans HZ.out.2.1)
      · rw [HN.out.1]; exact store_snd HJ.out _
      · rw [HN.out.2.1]
        exact OwnS.same HO3.out fun j hj => hfar _ j (by have := (World.ownsRow.lt HO3.out j hj).1; omega)
      · exact hbl.setCell (p := ⟨Y, 1, none⟩) (show w.heap.size ≤ Y by have := HX.out; omega) _
    · obtain rfl : k = n := by omega
      have l1 : ¬ (k : Int) < (k : Int) := by omega
      have y0 : wr.cell? ⟨Y, 0, none⟩ = some (.string (runC c k)) := by rw [cell_of_row _ _ _ _ _ _ hA.out]; rfl
      have y1 : wr.cell? ⟨Y, 1, none⟩ = some (.slice a k cp) := by rw [cell_of_row _ _ _ _ _ _ hA.out]; rfl
      have r0 : wr.cell? ⟨X + 1, 0, none⟩ = some (.string ⟨#[]⟩) := by rw [cell_of_row _ _ _ _ _ _ hA.res]; rfl
      have r1 : wr.cell? ⟨X + 1, 1, none⟩ = some (.slice none 0 0) := by rw [cell_of_row _ _ _ _ _ _ hA.res]; rfl
      have f0 := frozen_of_row wr (X + 1) 0 _ _ hA.res
      have f1 := frozen_of_row wr (X + 1) 1 _ _ hA.res
      have ho2 : OwnS ((wr.setCell ⟨X + 1, 0, none⟩ (.string (runC c k))).setCell ⟨X + 1, 1, none⟩ (.slice a k cp)) (Y + 1) (.slice a k cp) (runK c k) := by
        refine OwnS.same hA.own fun j hj => ?_
        have hkX := (World.ownsRow.lt hA.own j hj).1
        have hXY := HY.out
        exact (Below.heap_setCell _ _ _ j (fun e => by have : j = X + 1 := e; omega)).trans (Below.heap_setCell _ _ _ j (fun e => by have : j = X + 1 := e; omega))
      have HE := Lib.hid (And.intro (store2 hA.res (.string (runC c k)) (.slice a k cp)) (And.intro (below2 hA.below (show w.heap.size ≤ X + 1 by have := HX.out; omega) (.string (runC c k)) (.slice a k cp)) ho2))
      have hlen := runK_length c k
      have HLEN := Lib.hid hlen
      clear hA ho2 hlen
      obtain ⟨r, er⟩ : ∃ r, runC c k = r := ⟨_, rfl⟩
      obtain ⟨L, eL⟩ : ∃ L, runK c k = L := ⟨_, rfl⟩
      rw [er] at y0 HE
      rw [eL] at HE HLEN
      have HER := Lib.hid (And.intro er eL)
      clear er eL
      go_wp2_with fail
      clear r0 r1 f0 f1 y0 y1
      generalize World.setCell (World.setCell wr _ _) _ _ = Z at HE ⊢
      have t0 : Z.cell? ⟨X + 1, 0, none⟩ = some (.string r) := by rw [cell_of_row _ _ _ _ _ _ HE.out.1]; rfl
      have t1 : Z.cell? ⟨X + 1, 1, none⟩ = some (.slice a k cp) := by rw [cell_of_row _ _ _ _ _ _ HE.out.1]; rfl
      refine bodyPost_ret (v := .agg #[.string r, .slice a k cp]) (by simp [results, Tryd.results14, go_sem, t0, t1]) rfl ?_
      obtain ⟨a', c', e', hrd⟩ := HE.out.2.2.rd
      obtain ⟨rfl, -, rfl⟩ : a = a' ∧ k = L.length ∧ cp = c' := by simpa using e'
      exact ⟨a, cp, by rw [HER.out.1, HER.out.2, HLEN.out], by rw [HER.out.2]; exact hrd, HE.out.2.1⟩
end Go.Proofs.YtolobdeilfgmnaaDoor
