/- The contracts of the reference's Roots and Numbers. -/
import Derived.Test.YtolobdeilfgmnaaDoorEprime
import Derived.Test.YtolobdeilfgmnaaDoorEw
import Derived.Test.YtolobdeilfgmnaaDoorKa
import Derived.Test.YtolobdeilfgmnaaDoorKw
namespace Go.Proofs.YtolobdeilfgmnaaDoor
open Go.RowKit
theorem OwnI.grown {w w' : World} {b b' : Nat} {v v' : Value} {l : List Nat} {l' : List (BitVec 32)} {o : Obj} (h : OwnI w b v l) (h' : OwnW w b' v' l') (hg : (w.alloc o).grownBy w' v'.ownBlock) : OwnI w' b v l := by
  refine ⟨h.1, ?_⟩
  rcases h.2 with h2 | ⟨g, cap, cur, e, hb, hc, h3⟩
  · exact Or.inl h2
  · refine Or.inr ⟨g, cap, cur, e, hb, ?_, h3⟩
    have hlt := (Array.getElem?_eq_some_iff.1 hc).1
    rw [hg.block g (by simp; omega) ?_]
    · rw [((Below.refl w.heap.size w).alloc (Nat.le_refl _) o).block g hlt]; exact hc
    · intro e2
      rcases h'.2 with ⟨rfl, -⟩ | ⟨g', cap', cur', rfl, hb', hc', h3'⟩
      · simp [Value.ownBlock] at e2
      · simp [Value.ownBlock] at e2
        subst e2
        rw [hc'] at hc
        simp at hc
theorem OwnI.drewN' {w : World} {base : Nat} {v : Value} {l : List Nat} (h : OwnI w base v l) (n : Nat) : OwnI (w.drewN n) base v l := h

def rootW (p : Nat) (cube : Bool) : BitVec 32 := BitVec.ofNat 32 (rootL p cube)
theorem rootL_lt (p : Nat) (cube : Bool) : rootL p cube < 4294967296 := by unfold rootL; omega
theorem rootW_toNat (p : Nat) (cube : Bool) : (rootW p cube).toNat = rootL p cube := by
  unfold rootW
  rw [BitVec.toNat_ofNat, Nat.mod_eq_of_lt (rootL_lt p cube)]
def rootsL (K : Nat) (cube : Bool) : List (BitVec 32) := (primU K).map fun p => rootW p cube
theorem rootsL_length (K : Nat) (cube : Bool) : (rootsL K cube).length = (primU K).length := by simp [rootsL]
theorem rootsL_step (K : Nat) (cube : Bool) (j : Nat) (hj : j < (primU K).length) : (rootsL K cube).take (j + 1) = (rootsL K cube).take j ++ [rootW ((primU K).getD j 0) cube] := by
  rw [List.take_add_one]
  have h : j < (rootsL K cube).length := by rw [rootsL_length]; exact hj
  rw [List.getElem?_eq_getElem h]
  simp [rootsL, List.getD, hj]
def RootsRel (w : World) (K : Nat) (cube : Bool) (n : Nat) (vp : Value) (v i : Value) (wr : World) : Prop :=
  ∃ j g cap : Nat, j ≤ (primU K).length ∧ i = .int .i64 (j : Int) ∧ v = .slice (some ⟨g, 0, none⟩) j cap ∧ OwnW wr w.heap.size v ((rootsL K cube).take j) ∧ OwnI wr n vp (primU K) ∧ Below w.heap.size w wr

set_option maxRecDepth 100000 in
set_option maxHeartbeats 4000000 in
theorem roots_any (m K : Nat) (hm0 : 0 < m) (hm : m ≤ 1000) (hK : (primU K).length = m) (hK2 : K ≤ 1000) (cube : Bool) (w : World) :
    Calls Tryd.prog 20 #[.int .i64 (m : Int), .bool cube] w fun e w' => ∃ v, e = .returned v ∧ OwnW w' w.heap.size v (rootsL K cube) ∧ Below w.heap.size w w' := by
  have hmem := primU_get K
  have HM := Lib.hid hmem
  clear hmem
  go_enter Tryd.func20, Tryd.ntmps20
  go_wp2_with fail
  refine (primes_any m K hm hK hK2 _).mono ?_
  rintro e w1 ⟨vp, rfl, hI, hb1⟩
  have hO := (OwnW.empty w w.heap.size (Nat.le_refl _)).on hb1
  have hB : Below w.heap.size w w1 := Below.trans (by go_grown) (hb1.mono (by simp))
  obtain ⟨n1, hn1⟩ : ∃ n1, (w.alloc (.cells #[] 63)).heap.size = n1 := ⟨_, rfl⟩
  rw [hn1] at hI
  obtain ⟨gp, cp, rfl, -, -⟩ := World.ownsRow.form hI (by omega)
  have HI := Lib.hid hI; have HO := Lib.hid hO
  clear hI hO hb1 hn1
  rw [hK]
  go_wp2_with fail
  go_loopw [5, 12] (RootsRel w K cube n1 (.slice (some ⟨gp, 0, none⟩) (primU K).length cp)) (fun _ i _ => m - (intOf i).toNat)
  case atStart => exact ⟨0, _, _, by omega, rfl, rfl, HO.out, HI.out, hB⟩
  case round =>
    clear HI HO hB
    obtain ⟨j, g, cap, hj, rfl, rfl, hO, hI, hB⟩ := hrel
    have hsz := hB.size
    by_cases hlt : j < m
    · have l1 : (j : Int) < (m : Int) := by omega
      obtain ⟨gp', cp', e', hg', hc'⟩ := hI.at (by omega)
      obtain ⟨rfl, rfl⟩ : gp = gp' ∧ cp = cp' := by simpa using e'
      have c1 := hc' j (by omega)
      have hmj := HM.out j (by omega)
      have hst := rootsL_step K cube j (by omega)
      have hlen : ((rootsL K cube).take j).length = j := by rw [List.length_take, rootsL_length]; omega
      obtain ⟨p, hp⟩ : ∃ p, (primU K).getD j 0 = p := ⟨_, rfl⟩
      rw [hp] at c1 hmj hst
      have hrt := rootW_toNat p cube
      obtain ⟨x, hx⟩ : ∃ x, rootW p cube = x := ⟨_, rfl⟩
      rw [hx] at hst hrt
      obtain ⟨l, hl⟩ : ∃ l, (rootsL K cube).take j = l := ⟨_, rfl⟩
      rw [hl] at hO hst hlen
      have HO := Lib.hid hO; have HI := Lib.hid hI; have HST := Lib.hid hst; have HLEN := Lib.hid hlen
      clear hO hI hst hl hx hp hc' e'
      go_wp2_with fail
      refine (root_any p (by omega) cube _).mono ?_
      rintro e w2 ⟨rfl, hbel⟩
      rw [← hrt]
      clear hrt
      have hO2 := HO.out.on hbel.b
      have hI2 := HI.out.on hbel.b
      have hB2 : Below w.heap.size w w2 := hB.trans (hbel.b.mono hsz)
      have hs2 := hB2.size
      have HO2 := Lib.hid hO2; have HI2 := Lib.hid hI2
      clear hO2 hI2 HO HI
      go_wp2_with (at_builtin; refine append_w rfl _ _ rfl w.heap.size _ l x w2.heap.size rfl ?c0 ?c1 ?c2 ?c3 ?c4 ?_)
      case c0 => rw [← HLEN.out]; exact OwnW.alloc (by rw [HLEN.out]; exact HO2.out) _
      case c1 => rfl
      case c2 => simp
      case c3 => rw [HLEN.out]; omega
      case c4 => first | omega | (simp; omega)
      intro g' cap' w' hI3 hg'
      have hB3 := HO2.out.below hB2 hs2 hg'
      have hP3 := HI2.out.grown HO2.out hg'
      have HI3 := Lib.hid hI3; have HP3 := Lib.hid hP3
      clear hI3 hP3 hg'
      go_wp2_with fail
      all_goals (
        refine ⟨⟨j + 1, g', cap', by omega, by simp, rfl, ?_, HP3.out, hB3⟩, by simp [intOf]; omega⟩
        rw [HST.out]
        exact HI3.out)
    · have ej : j = m := by omega
      have l1 : ¬ (j : Int) < (m : Int) := by omega
      go_wp2_with fail
      go_ret
      refine ⟨_, rfl, ?_, hB⟩
      rw [List.take_of_length_le (by rw [rootsL_length]; omega)] at hO
      rw [← ej]
      exact hO

/-- the keys and the first words lie in a K -/
def KAt (w : World) (v : Value) : Prop := ∃ v0 v1, v = .agg #[v0, v1] ∧ WsAt w v0 keysL ∧ WsAt w v1 firstS.l
theorem KAt.on {w w' : World} {v : Value} (h : KAt w v) (hb : Below w.heap.size w w') : KAt w' v := by
  obtain ⟨v0, v1, rfl, h0, h1⟩ := h
  exact ⟨v0, v1, rfl, h0.on hb, h1.on hb⟩

set_option maxRecDepth 100000 in
set_option maxHeartbeats 4000000 in
theorem numbers_any (hk : rootsL 310 true = keysL) (hf : rootsL 18 false = firstS.l) (h64 : (primU 310).length = 64) (h8 : (primU 18).length = 8) (w : World) :
    Calls Tryd.prog 9 #[] w fun e w' => ∃ v, e = .returned v ∧ KAt w' v ∧ Below w.heap.size w w' := by
  have A := roots_any 64 310 (by omega) (by omega) h64 (by omega) true
  have B := roots_any 8 18 (by omega) (by omega) h8 (by omega) false
  rw [hk] at A
  rw [hf] at B
  have HA := Lib.hid A; have HB := Lib.hid B
  clear A B hk hf h64 h8
  go_enter Tryd.func9, Tryd.ntmps9
  have hR0 : (w.alloc (.cells #[.slice none 0 0, .slice none 0 0] 29)).heap[w.heap.size]? = some (.cells #[.slice none 0 0, .slice none 0 0] 29) := heap_alloc_new _ _
  have hb0 : Below w.heap.size w (w.alloc (.cells #[.slice none 0 0, .slice none 0 0] 29)) := by go_grown
  have hs0 : (w.alloc (.cells #[.slice none 0 0, .slice none 0 0] 29)).heap.size = w.heap.size + 1 := by simp
  have HR0 := Lib.hid hR0
  clear hR0
  go_wp2_with fail
  generalize World.alloc w _ = W at HR0 hb0 hs0 ⊢
  refine (HA.out _).mono ?_
  rintro e w1 ⟨v0, rfl, ho0, hb1⟩
  have hv0 := ho0.ws (by rw [keysL_length]; omega)
  have n0 := ho0.ne (by rw [keysL_length]; omega) w.heap.size (by omega)
  have hlt1 := hb1.size
  obtain ⟨b0, k0, rfl, -, -⟩ := World.ownsRow.form ho0 (by rw [keysL_length]; omega)
  clear ho0 HA
  go_wp2_with fail
  refine (HB.out _).mono ?_
  rintro e w2 ⟨v1, rfl, ho1, hb2⟩
  have hv1 := ho1.ws (by rw [S8.l_length]; omega)
  have n1 := ho1.ne (by rw [S8.l_length]; omega) w.heap.size (by omega)
  have hv0' := hv0.on hb2
  have hlt2 := hb2.size
  obtain ⟨b1, k1, rfl, -, -⟩ := World.ownsRow.form ho1 (by rw [S8.l_length]; omega)
  clear ho1 HB hv0
  have hR : w2.heap[w.heap.size]? = some (.cells #[.slice none 0 0, .slice none 0 0] 29) := by rw [hb2.block _ (by omega), hb1.block _ (by omega)]; exact HR0.out
  have d0 : w2.cell? ⟨w.heap.size, 0, none⟩ = some (.slice none 0 0) := by rw [cell_of_row _ _ _ _ _ _ hR]; rfl
  have d1 : w2.cell? ⟨w.heap.size, 1, none⟩ = some (.slice none 0 0) := by rw [cell_of_row _ _ _ _ _ _ hR]; rfl
  have f0 := frozen_of_row w2 w.heap.size 0 _ _ hR
  have f1 := frozen_of_row w2 w.heap.size 1 _ _ hR
  have hbb : Below w.heap.size w w2 := hb0.trans ((hb1.trans (hb2.mono hb1.size)).mono (by omega))
  have e0 := setCell_far (i := 1) (u := (.slice (some ⟨b1, 0, none⟩) firstS.l.length k1)) (World.cell?_setCell_same _ ⟨w.heap.size, 0, none⟩ (.slice (some ⟨b0, 0, none⟩) keysL.length k0) d0) (by omega)
  have e1 := World.cell?_setCell_same _ ⟨w.heap.size, 1, none⟩ (.slice (some ⟨b1, 0, none⟩) firstS.l.length k1) (setCell_far (i := 0) (u := (.slice (some ⟨b0, 0, none⟩) keysL.length k0)) d1 (by omega))
  have q0 := (hv0'.set w.heap.size 0 n0 (.slice (some ⟨b0, 0, none⟩) keysL.length k0)).set w.heap.size 1 n0 (.slice (some ⟨b1, 0, none⟩) firstS.l.length k1)
  have q1 := (hv1.set w.heap.size 0 n1 (.slice (some ⟨b0, 0, none⟩) keysL.length k0)).set w.heap.size 1 n1 (.slice (some ⟨b1, 0, none⟩) firstS.l.length k1)
  have hbl : Below w.heap.size w _ := (hbb.setCell (p := ⟨w.heap.size, 0, none⟩) (Nat.le_refl _) (.slice (some ⟨b0, 0, none⟩) keysL.length k0)).setCell (p := ⟨w.heap.size, 1, none⟩) (Nat.le_refl _) (.slice (some ⟨b1, 0, none⟩) firstS.l.length k1)
  have E0 := Lib.hid e0; have E1 := Lib.hid e1; have Q0 := Lib.hid q0; have Q1 := Lib.hid q1
  clear e0 e1 q0 q1 n0 n1 hv0' hv1 hR hb1 hb2 hbb hb0 HR0
  go_wp2_with fail
  have e0 := E0.out; have e1 := E1.out
  refine bodyPost_ret (v := .agg #[(.slice (some ⟨b0, 0, none⟩) keysL.length k0), (.slice (some ⟨b1, 0, none⟩) firstS.l.length k1)]) (by simp [results, Tryd.results9, go_sem, e0, e1]) rfl ⟨_, rfl, ⟨(.slice (some ⟨b0, 0, none⟩) keysL.length k0), (.slice (some ⟨b1, 0, none⟩) firstS.l.length k1), rfl, Q0.out, Q1.out⟩, hbl⟩
end Go.Proofs.YtolobdeilfgmnaaDoor