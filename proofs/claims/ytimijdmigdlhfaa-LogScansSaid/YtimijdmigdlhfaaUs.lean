/- The reference's Scan. -/
import Derived.Test.YtimijdmigdlhfaaUr
import Derived.Test.YtimijdmigdlhfaaUk
namespace Go.Proofs.Ytimijdmigdlhfaa
open Go.RowKit
set_option maxRecDepth 100000
/-- the second number of a struct in memory -/
def atOf (X : Nat) (w : World) : Nat := match w.cell? ⟨X, 1, none⟩ with | some v => (intOf v).toNat | none => 0
theorem atOf_eq {X e : Nat} {w : World} (h : w.cell? ⟨X, 1, none⟩ = some (.int .i64 (e : Int))) : atOf X w = e := by unfold atOf; rw [h]; simp [intOf]
theorem store_fst {w : World} {B : Nat} {a b : Value} {t : TypeId} (h : w.heap[B]? = some (.cells #[a, b] t (0, 0))) (x : Value) : (w.setCell ⟨B, 0, none⟩ x).heap[B]? = some (.cells #[x, b] t (0, 0)) := by
  rw [heap_setCell_same w B 0 _ t x h]; simp
theorem store_snd {w : World} {B : Nat} {a b : Value} {t : TypeId} (h : w.heap[B]? = some (.cells #[a, b] t (0, 0))) (y : Value) : (w.setCell ⟨B, 1, none⟩ y).heap[B]? = some (.cells #[a, y] t (0, 0)) := by
  rw [heap_setCell_same w B 1 _ t y h]; simp
structure ScAt (w : World) (X : Nat) (s : ByteArray) (acc : List ByteArray) (e : Nat) (a : Option Addr) (c : Nat) (wr : World) : Prop where
  res : wr.heap[X]? = some (.cells #[.slice none 0 0, .int .i64 0] 40)
  out : wr.heap[X + 1]? = some (.cells #[.slice a acc.length c, .int .i64 (e : Int)] 40)
  own : OwnS wr (X + 2) (.slice a acc.length c) acc
  le : e ≤ s.size
  scan : scanL ckR (bl s) = (acc ++ (scanL ckR ((bl s).drop e)).1, e + (scanL ckR ((bl s).drop e)).2)
  below : Below w.heap.size w wr
def ScRel (w : World) (X : Nat) (s : ByteArray) (_ : Value) (wr : World) : Prop := ∃ (acc : List ByteArray) (e : Nat) (a : Option Addr) (c : Nat), ScAt w X s acc e a c wr
set_option maxHeartbeats 8000000 in
theorem rScan_any (s : ByteArray) (hs : s.size ≤ maxLen) (hN : (scanL ckR (bl s)).1.length ≤ 900) (w : World) :
    Calls Try.prog 19 #[.string s] w (RetS w (scanL ckR (bl s)).1 (scanL ckR (bl s)).2) := by
  obtain ⟨X, eX⟩ : ∃ X, w.heap.size = X := ⟨_, rfl⟩
  obtain ⟨W0, eW⟩ : ∃ W0, (w.alloc (.cells #[.slice none 0 0, .int .i64 0] 40)).alloc (.cells #[.slice none 0 0, .int .i64 0] 40) = W0 := ⟨_, rfl⟩
  have h0 : ScAt w X s [] 0 none 0 W0 := by
    have q0 := heap_alloc_new w (.cells #[.slice none 0 0, .int .i64 0] 40)
    have q1 := heap_alloc_new (w.alloc (.cells #[.slice none 0 0, .int .i64 0] 40)) (.cells #[.slice none 0 0, .int .i64 0] 40)
    have q2 := heap_alloc_old (w.alloc (.cells #[.slice none 0 0, .int .i64 0] 40)) (.cells #[.slice none 0 0, .int .i64 0] 40) (show X < _ by simp; omega)
    rw [eX] at q0
    rw [World.size_alloc, eX, eW] at q1
    rw [eW] at q2
    exact ⟨q2.trans q0, q1, ⟨rfl, .inl ⟨rfl, rfl⟩⟩, Nat.zero_le _, by simp, by rw [← eW]; exact ((Below.refl _ w).alloc (Nat.le_refl _) _).alloc (by simp) _⟩
  have H0 := Lib.hid h0; have HS := Lib.hid (And.intro hs hN); have HX := Lib.hid eX; have HW := Lib.hid eW
  clear h0 hs hN eW
  go_enter Try.func19, Try.ntmps19
  go_wp2_with fail
  rw [HW.out]
  clear eX HW
  go_loopw [4] (ScRel w X s) (fun _ wr => s.size - atOf (X + 1) wr)
  case atStart => exact ⟨[], 0, none, 0, H0.out⟩
  case round =>
    clear H0
    obtain ⟨acc, e, a, c, hA⟩ := hrel
    have hcut := cut_behind s e hA.le
    have hO := fun W => one_any (strL ((bl s).drop e)) (by rw [strL_size, List.length_drop, bl_length]; have := HS.out.1; omega) W
    simp only [bl_strL] at hO
    obtain ⟨pr, epr⟩ : ∃ pr, strL ((bl s).drop e) = pr := ⟨_, rfl⟩
    rw [epr] at hcut
    simp only [epr] at hO
    have x1 : wr.cell? ⟨X + 1, 1, none⟩ = some (.int .i64 (e : Int)) := by rw [cell_of_row _ _ _ _ _ _ hA.out]; rfl
    have hat := atOf_eq x1
    have HA := Lib.hid hA; have HO := Lib.hid hO
    clear hA hO epr
    have HAT := Lib.hid hat
    clear hat
    go_wp2_with fail
    refine (HO.out wr).mono ?_
    rintro e' w1 ⟨a1, c1, rfl, hr, hb, -⟩
    obtain ⟨R, eR⟩ : ∃ R, w1.heap.size = R := ⟨_, rfl⟩
    cases hX : aheadR ckR ((bl s).drop e) with
    | none =>
      rw [hX] at hr
      have hal : Below w1.heap.size w1 (w1.alloc (.cells #[.slice a1 0 c1, .int .i64 0] 40)) := (Below.refl _ _).alloc (Nat.le_refl _) _
      have hb2 := hb.trans (hal.mono hb.size)
      have hsc := HA.out.scan
      rw [scanL_none ckR _ hX, List.append_nil, Nat.add_zero] at hsc
      have X0 := (hb2.block X (Array.getElem?_eq_some_iff.1 HA.out.res).1).trans HA.out.res
      have X1 := (hb2.block (X + 1) (Array.getElem?_eq_some_iff.1 HA.out.out).1).trans HA.out.out
      have hR := heap_alloc_new w1 (.cells #[.slice a1 0 c1, .int .i64 0] 40)
      have ho := HA.out.own.on hb2
      have hbw := HA.out.below.trans (hb2.mono HA.out.below.size)
      have HY := Lib.hid (And.intro X0 (And.intro X1 (And.intro hR (And.intro ho (And.intro hbw hsc)))))
      clear hb hr hal hb2 hsc X0 X1 hR ho hbw HA HO hcut x1
      simp only [oneT, fstK, List.length_nil]
      go_upto_region 3 with fail
      rw [eR] at HY
      clear eR
      generalize World.alloc w1 _ = V at HY ⊢
      have v1 : V.cell? ⟨R, 1, none⟩ = some (.int .i64 0) := by rw [cell_of_row _ _ _ _ _ _ HY.out.2.2.1]; rfl
      have y0 : V.cell? ⟨X + 1, 0, none⟩ = some (.slice a acc.length c) := by rw [cell_of_row _ _ _ _ _ _ HY.out.2.1]; rfl
      have y1 : V.cell? ⟨X + 1, 1, none⟩ = some (.int .i64 (e : Int)) := by rw [cell_of_row _ _ _ _ _ _ HY.out.2.1]; rfl
      have r0 : V.cell? ⟨X, 0, none⟩ = some (.slice none 0 0) := by rw [cell_of_row _ _ _ _ _ _ HY.out.1]; rfl
      have r1 : V.cell? ⟨X, 1, none⟩ = some (.int .i64 0) := by rw [cell_of_row _ _ _ _ _ _ HY.out.1]; rfl
      have f0 := frozen_of_row V X 0 _ _ HY.out.1
      have f1 := frozen_of_row V X 1 _ _ HY.out.1
      have hg1 : (V.setCell ⟨X, 0, none⟩ (.slice a acc.length c)).setCell ⟨X, 1, none⟩ (.int .i64 (e : Int)) = (V.setCell ⟨X, 0, none⟩ (.slice a acc.length c)).setCell ⟨X, 1, none⟩ (.int .i64 (e : Int)) := rfl
      have ho2 : OwnS ((V.setCell ⟨X, 0, none⟩ (.slice a acc.length c)).setCell ⟨X, 1, none⟩ (.int .i64 (e : Int))) (X + 2) (.slice a acc.length c) acc := by
        refine OwnS.same HY.out.2.2.2.1 fun k hk => ?_
        have hkX := (World.ownsRow.lt HY.out.2.2.2.1 k hk).1
        exact (Below.heap_setCell _ _ _ k (fun e => by have : k = X := e; omega)).trans (Below.heap_setCell _ _ _ k (fun e => by have : k = X := e; omega))
      have HE := Lib.hid (And.intro (store2 HY.out.1 (.slice a acc.length c) (.int .i64 (e : Int))) (And.intro (below2 HY.out.2.2.2.2.1 (Nat.le_of_eq HX.out) (.slice a acc.length c) (.int .i64 (e : Int))) (And.intro ho2 HY.out.2.2.2.2.2)))
      clear ho2 hg1 HY hX
      go_wp2_with fail
      clear r0 r1 f0 f1 y0 y1 v1
      generalize World.setCell (World.setCell V _ _) _ _ = Z at HE ⊢
      have t0 : Z.cell? ⟨X, 0, none⟩ = some (.slice a acc.length c) := by rw [cell_of_row _ _ _ _ _ _ HE.out.1]; rfl
      have t1 : Z.cell? ⟨X, 1, none⟩ = some (.int .i64 (e : Int)) := by rw [cell_of_row _ _ _ _ _ _ HE.out.1]; rfl
      refine bodyPost_ret (v := .agg #[.slice a acc.length c, .int .i64 (e : Int)]) (by simp [results, Try.results19, go_sem, t0, t1]) rfl ?_
      rw [HE.out.2.2.2]
      obtain ⟨a', c', e', hrd⟩ := HE.out.2.2.1.rd
      cases e'
      refine ⟨a, c, rfl, hrd, HE.out.2.1, fun ad had hpos => ?_⟩
      subst had
      obtain ⟨a2, c2, e2, -, hg2⟩ := HE.out.2.2.1.form
      cases e2
      obtain ⟨g, eg⟩ := hg2 hpos
      cases eg
      have := (World.ownsRow.lt HE.out.2.2.1 g rfl).1
      have := HX.out
      show w.heap.size ≤ g
      omega
    | some p =>
      obtain ⟨t, k⟩ := p
      rw [hX] at hr
      obtain ⟨-, -, h3, h4, -⟩ := aheadR_some ckR _ t k hX
      rw [List.length_drop, bl_length] at h3
      obtain ⟨m, em⟩ : ∃ m, e + k = m := ⟨_, rfl⟩
      have hsc := HA.out.scan
      rw [scanL_some ckR _ t k hX, List.drop_drop, em] at hsc
      have hsc2 : scanL ckR (bl s) = ((acc ++ [t]) ++ (scanL ckR ((bl s).drop m)).1, m + (scanL ckR ((bl s).drop m)).2) := by
        rw [hsc]; simp; omega
      have hacc : acc.length + 1 ≤ 900 := by
        have := HS.out.2
        rw [hsc2] at this
        simp at this; omega
      have hal : Below w1.heap.size w1 (w1.alloc (.cells #[.slice a1 1 c1, .int .i64 (k : Int)] 40)) := (Below.refl _ _).alloc (Nat.le_refl _) _
      have hb2 := hb.trans (hal.mono hb.size)
      have X0 := (hb2.block X (Array.getElem?_eq_some_iff.1 HA.out.res).1).trans HA.out.res
      have X1 := (hb2.block (X + 1) (Array.getElem?_eq_some_iff.1 HA.out.out).1).trans HA.out.out
      have hR := heap_alloc_new w1 (.cells #[.slice a1 1 c1, .int .i64 (k : Int)] 40)
      have ho1 := HA.out.own.on hb
      have hRne : some w1.heap.size ≠ (Value.slice a acc.length c).ownBlock := fun e => by
        have := (World.ownsRow.lt ho1 _ e.symm).2
        omega
      have ho := ho1.on hal
      have hbw := HA.out.below.trans (hb2.mono HA.out.below.size)
      have hrd : Rd9 (w1.alloc (.cells #[.slice a1 1 c1, .int .i64 (k : Int)] 40)) a1 c1 [t] := Rd9.on hr hal
      have hXl : X + 2 ≤ w1.heap.size := by
        have h5 := (Array.getElem?_eq_some_iff.1 HA.out.out).1
        have := hb.size
        omega
      have HY := Lib.hid (And.intro X0 (And.intro X1 (And.intro hR (And.intro ho (And.intro hbw (And.intro hRne (And.intro hrd (And.intro hXl (show w1.heap.size < (w1.alloc (.cells #[.slice a1 1 c1, .int .i64 (k : Int)] 40)).heap.size by simp)))))))))
      have HM := Lib.hid (And.intro hsc2 (And.intro hacc (show m ≤ s.size by omega)))
      have hkm : (e : Int) + (k : Int) = (m : Int) := by omega
      have hmb : (m : Int) ≤ 9223372036854775807 := by have := HS.out.1; unfold maxLen at this; omega
      have hk5 : 5 ≤ (k : Int) := by omega
      have hdec : s.size - m < s.size - e := by have := HM.out.2.2; omega
      have HD := Lib.hid hdec
      clear hdec h3 h4 em hsc hsc2 hacc hal hb2 X0 X1 hR ho1 hRne ho hbw hrd hXl hb hr hX HA HO hcut x1
      simp only [oneT, fstK, List.length_singleton]
      go_upto_region 3 with fail
      rw [eR] at HY
      clear eR
      generalize World.alloc w1 _ = V at HY ⊢
      have v0 : V.cell? ⟨R, 0, none⟩ = some (.slice a1 1 c1) := by rw [cell_of_row _ _ _ _ _ _ HY.out.2.2.1]; rfl
      have v1 : V.cell? ⟨R, 1, none⟩ = some (.int .i64 (k : Int)) := by rw [cell_of_row _ _ _ _ _ _ HY.out.2.2.1]; rfl
      have y0 : V.cell? ⟨X + 1, 0, none⟩ = some (.slice a acc.length c) := by rw [cell_of_row _ _ _ _ _ _ HY.out.2.1]; rfl
      have hk0 : ((k : Int) == 0) = false := by rw [beq_eq_false_iff_ne]; omega
      go_wp2_with (at_builtin; refine append_ss rfl _ _ rfl (X + 2) _ acc [t] a1 c1 rfl HY.out.2.2.2.1 rfl (fun e => by obtain ⟨h1, h2⟩ := HY.out.2.2.2.2.2.2.1.none e; exact absurd h2 (by simp)) HY.out.2.2.2.2.2.2.1.ss (by have := HM.out.2.1; simp; omega) (by have := HY.out.2.2.2.2.2.2.2; omega) ?_; intro v' w3 ho3 hg3; obtain ⟨a3, c3, rfl, -, -⟩ := ho3.form; have HG3 := Lib.hid hg3; have HO3 := Lib.hid ho3; clear hg3 ho3; have j1 : w3.heap[X + 1]? = some (.cells #[.slice a acc.length c, .int .i64 (e : Int)] 40) := (by rw [HG3.out.block (X + 1) (Array.getElem?_eq_some_iff.1 HY.out.2.1).1 (own_ne HY.out.2.2.2.1 (X + 1) (by omega))]; exact HY.out.2.1); have n0 : w3.cell? ⟨X + 1, 0, none⟩ = some (.slice a acc.length c) := (by rw [cell_of_row _ _ _ _ _ _ j1]; rfl); have g0 := frozen_of_row w3 (X + 1) 0 _ _ j1; have j4 := store_fst j1 (.slice a3 (acc ++ [t]).length c3); have jR : (w3.setCell ⟨X + 1, 0, none⟩ (.slice a3 (acc ++ [t]).length c3)).heap[R]? = some (.cells #[.slice a1 1 c1, .int .i64 (k : Int)] 40) := (by rw [Below.heap_setCell _ _ _ R (fun e => by have : R = X + 1 := e; have := HY.out.2.2.2.2.2.2.2.1; omega), HG3.out.block R HY.out.2.2.2.2.2.2.2.2 HY.out.2.2.2.2.2.1]; exact HY.out.2.2.1); have m1 : (w3.setCell ⟨X + 1, 0, none⟩ (.slice a3 (acc.length + 1) c3)).cell? ⟨X + 1, 1, none⟩ = some (.int .i64 (e : Int)) := (by have := j4; rw [List.length_append, List.length_singleton] at this; rw [cell_of_row _ _ _ _ _ _ this]; rfl); have mR : (w3.setCell ⟨X + 1, 0, none⟩ (.slice a3 (acc.length + 1) c3)).cell? ⟨R, 1, none⟩ = some (.int .i64 (k : Int)) := (by have := jR; rw [List.length_append, List.length_singleton] at this; rw [cell_of_row _ _ _ _ _ _ this]; rfl); have g1 : (w3.setCell ⟨X + 1, 0, none⟩ (.slice a3 (acc.length + 1) c3)).frozen? ⟨X + 1, 1, none⟩ = false := (by have := j4; rw [List.length_append, List.length_singleton] at this; exact frozen_of_row _ (X + 1) 1 _ _ this); have HJ := Lib.hid j4; clear j1 j4 jR)
      have i0 : w3.heap[X]? = some (.cells #[.slice none 0 0, .int .i64 0] 40) := by rw [HG3.out.block X (Array.getElem?_eq_some_iff.1 HY.out.1).1 (own_ne HY.out.2.2.2.1 X (by omega))]; exact HY.out.1
      have hlen : (acc ++ [t]).length = acc.length + 1 := by simp
      have hsame : ∀ (j : Nat), j ≠ X + 1 → ((w3.setCell ⟨X + 1, 0, none⟩ (.slice a3 (acc.length + 1) c3)).setCell ⟨X + 1, 1, none⟩ (.int .i64 (m : Int))).heap[j]? = w3.heap[j]? := fun j hj => (Below.heap_setCell _ _ _ j (fun e => hj e)).trans (Below.heap_setCell _ _ _ j (fun e => hj e))
      have hout := store_snd HJ.out (.int .i64 (m : Int))
      have hbl := ((HY.out.2.2.2.2.1.grown HG3.out (by have := HX.out; have := HY.out.2.2.2.2.2.2.2; omega) (fun j hj => by have := (World.ownsRow.lt HY.out.2.2.2.1 j hj).1; have := HX.out; omega)).setCell (p := ⟨X + 1, 0, none⟩) (by have := HX.out; show w.heap.size ≤ X + 1; omega) (.slice a3 (acc.length + 1) c3)).setCell (p := ⟨X + 1, 1, none⟩) (by have := HX.out; show w.heap.size ≤ X + 1; omega) (.int .i64 (m : Int))
      refine ⟨⟨acc ++ [t], m, a3, c3, ⟨(hsame X (by omega)).trans i0, ?_, ?_, HM.out.2.2, HM.out.1, hbl⟩⟩, ?_⟩
      · rw [hlen] at hout ⊢; exact hout
      · have ho := HO3.out
        rw [hlen] at ho ⊢
        exact OwnS.same ho fun j hj => hsame j (by have := (World.ownsRow.lt ho j hj).1; omega)
      · rw [HAT.out]
        have hout2 := hout
        rw [hlen] at hout2
        rw [atOf_eq (X := X + 1) (e := m) (by rw [cell_of_row _ _ _ _ _ _ hout2]; rfl)]
        exact HD.out
end Go.Proofs.Ytimijdmigdlhfaa