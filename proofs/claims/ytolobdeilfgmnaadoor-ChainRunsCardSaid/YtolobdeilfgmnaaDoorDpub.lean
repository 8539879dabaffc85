/- The contracts of digest's exported functions: Right, Write, Sum, New, Of. -/
import Derived.Test.YtolobdeilfgmnaaDoorDbeh
import Derived.Test.YtolobdeilfgmnaaDoorKa
namespace Go.Proofs.YtolobdeilfgmnaaDoor
open Go.RowKit
def rightB (n k m : Nat) : Bool := decide (n = 8 ∧ k < 64 ∧ m % 64 = k)
set_option maxRecDepth 100000 in
set_option maxHeartbeats 400000 in
theorem right_any (a : Option Addr) (n c : Nat) (x : ByteArray) (m : Nat) (hm : m < 18446744073709551616) (hx : x.size ≤ maxLen) (w : World) :
    Calls Tryd.prog 60 #[.agg #[.slice a n c, .string x, .int .u64 (m : Int)]] w fun e w' => e = .returned (.bool (rightB n x.size m)) ∧ Below w.heap.size w w' := by
  unfold maxLen at hx
  have wx : IntKind.u64.wrap (x.size : Int) = (x.size : Int) := by rw [IntKind.wrap_u64]; omega
  by_cases h8 : n = 8
  · subst h8
    have b1 : ((8 : Int) == 8) = true := by simp
    by_cases h64 : x.size < 64
    · have b2 : decide ((x.size : Int) < 64) = true := by simp; omega
      have hr : rightB 8 x.size m = ((m : Int) % 64 == (x.size : Int)) := by
        unfold rightB
        rw [Bool.eq_iff_iff]
        simp [h64]
        omega
      rw [hr]
      clear hr
      go_enter Tryd.func60, Tryd.ntmps60
      go_wp2
      go_ret
      exact ⟨rfl, by go_grown⟩
    · have b2 : decide ((x.size : Int) < 64) = false := by simp; omega
      have hr : rightB 8 x.size m = false := by unfold rightB; simp [h64]
      rw [hr]
      clear hr
      go_enter Tryd.func60, Tryd.ntmps60
      go_wp2
      go_ret
      exact ⟨rfl, by go_grown⟩
  · have b1 : ((n : Int) == 8) = false := by simp; omega
    have hr : rightB n x.size m = false := by unfold rightB; simp [h8]
    rw [hr]
    clear hr
    go_enter Tryd.func60, Tryd.ntmps60
    go_wp2
    go_ret
    exact ⟨rfl, by go_grown⟩

/-- the result of a call that answers a sum on its way and OK -/
def WrotePost (u : S8) (r : List UInt8) (q : Nat) (w : World) (e : Ending) (w' : World) : Prop :=
  ∃ (B : Nat) (x : ByteArray), e = .returned (.tuple #[.agg #[.slice (some ⟨B, 0, none⟩) 8 8, .string x, .int .u64 (q : Int)], .int .i64 0]) ∧ BlkW w' B 98 u.l ∧ bl x = r ∧ Below w.heap.size w w'

set_option maxRecDepth 100000 in
set_option maxHeartbeats 1000000 in
theorem write_bad (a : Option Addr) (n c : Nat) (x y : ByteArray) (m : Nat) (hm : m < 18446744073709551616) (hx : x.size ≤ maxLen) (hr : rightB n x.size m = false) (w : World) :
    Calls Tryd.prog 50 #[.agg #[.slice a n c, .string x, .int .u64 (m : Int)], .string y] w fun e w' => e = .returned (.tuple #[.agg #[.slice none 0 0, .string ⟨#[]⟩, .int .u64 0], .int .i64 1]) ∧ Below w.heap.size w w' := by
  have hc := right_any a n c x m hm hx
  rw [hr] at hc
  have HC := Lib.hid hc
  clear hc hr hx
  go_enter Tryd.func50, Tryd.ntmps50
  go_wp2_with fail
  refine (HC.out _).mono ?_
  rintro e w1 ⟨rfl, hb1⟩
  have hR0 : ((w.alloc (.cells #[.slice a n c, .string x, .int .u64 (m : Int)] 72)).alloc (.cells #[.slice none 0 0, .string ⟨#[]⟩, .int .u64 0] 72)).heap[w.heap.size + 1]? = some (.cells #[.slice none 0 0, .string ⟨#[]⟩, .int .u64 0] 72) := heap_alloc2_new _ _ _
  have hR : w1.heap[w.heap.size + 1]? = some (.cells #[.slice none 0 0, .string ⟨#[]⟩, .int .u64 0] 72) := by rw [hb1.block _ (by simp)]; exact hR0
  have c0 : w1.cell? ⟨w.heap.size + 1, 0, none⟩ = some (.slice none 0 0) := by rw [cell_of_row _ _ _ _ _ _ hR]; rfl
  have c1 : w1.cell? ⟨w.heap.size + 1, 1, none⟩ = some (.string ⟨#[]⟩) := by rw [cell_of_row _ _ _ _ _ _ hR]; rfl
  have c2 : w1.cell? ⟨w.heap.size + 1, 2, none⟩ = some (.int .u64 0) := by rw [cell_of_row _ _ _ _ _ _ hR]; rfl
  have f0 := frozen_of_row w1 (w.heap.size + 1) 0 _ _ hR
  have f1 := frozen_of_row w1 (w.heap.size + 1) 1 _ _ hR
  have f2 := frozen_of_row w1 (w.heap.size + 1) 2 _ _ hR
  have hb : Below w.heap.size w w1 := Below.trans (by go_grown) (hb1.mono (by simp; omega))
  clear hb1 hR0 hR HC
  go_wp2_with fail
  refine bodyPost_ret (v := .tuple #[.agg #[.slice none 0 0, .string ⟨#[]⟩, .int .u64 0], .int .i64 1]) (by simp [results, Tryd.results50, go_sem, c0, c1, c2]) rfl ⟨rfl, ?_⟩
  go_grown

set_option maxRecDepth 100000 in
set_option maxHeartbeats 1000000 in
theorem write_good (a : Option Addr) (n c : Nat) (s : S8) (x y : ByteArray) (m : Nat) (hm : m < 18446744073709551616) (hr : rightB n x.size m = true) (hy : y.size ≤ 1000000) (w : World) (hv : WsAt w (.slice a n c) s.l) (hK : KeysAt w) :
    Calls Tryd.prog 50 #[.agg #[.slice a n c, .string x, .int .u64 (m : Int)], .string y] w (WrotePost (mixAll s (bl x ++ bl y)) (restOf (bl x ++ bl y)) ((m + y.size) % 18446744073709551616) w) := by
  have hx : x.size < 64 := by unfold rightB at hr; simp at hr; omega
  have hc := right_any a n c x m hm (by unfold maxLen; omega)
  rw [hr] at hc
  have HC := Lib.hid hc
  have hbh := fun W h1 h2 => behind_any (.slice a n c) s x y (by omega) hy m hm W h1 h2
  have HB := Lib.hid hbh
  clear hc hr hbh hy hx
  generalize mixAll s (bl x ++ bl y) = u at HB ⊢
  generalize restOf (bl x ++ bl y) = r at HB ⊢
  generalize (m + y.size) % 18446744073709551616 = q at HB ⊢
  go_enter Tryd.func50, Tryd.ntmps50
  go_wp2_with fail
  refine (HC.out _).mono ?_
  rintro e w1 ⟨rfl, hb1⟩
  have hH0 : ((w.alloc (.cells #[.slice a n c, .string x, .int .u64 (m : Int)] 72)).alloc (.cells #[.slice none 0 0, .string ⟨#[]⟩, .int .u64 0] 72)).heap[w.heap.size]? = some (.cells #[.slice a n c, .string x, .int .u64 (m : Int)] 72) := heap_alloc2_old _ _ _
  have hH : w1.heap[w.heap.size]? = some (.cells #[.slice a n c, .string x, .int .u64 (m : Int)] 72) := by rw [hb1.block _ (by simp; omega)]; exact hH0
  have hR0 : ((w.alloc (.cells #[.slice a n c, .string x, .int .u64 (m : Int)] 72)).alloc (.cells #[.slice none 0 0, .string ⟨#[]⟩, .int .u64 0] 72)).heap[w.heap.size + 1]? = some (.cells #[.slice none 0 0, .string ⟨#[]⟩, .int .u64 0] 72) := heap_alloc2_new _ _ _
  have hR : w1.heap[w.heap.size + 1]? = some (.cells #[.slice none 0 0, .string ⟨#[]⟩, .int .u64 0] 72) := by rw [hb1.block _ (by simp)]; exact hR0
  have c0 : w1.cell? ⟨w.heap.size, 0, none⟩ = some (.slice a n c) := by rw [cell_of_row _ _ _ _ _ _ hH]; rfl
  have c1 : w1.cell? ⟨w.heap.size, 1, none⟩ = some (.string x) := by rw [cell_of_row _ _ _ _ _ _ hH]; rfl
  have c2 : w1.cell? ⟨w.heap.size, 2, none⟩ = some (.int .u64 (m : Int)) := by rw [cell_of_row _ _ _ _ _ _ hH]; rfl
  have hb : Below w.heap.size w w1 := Below.trans (by go_grown) (hb1.mono (by simp; omega))
  have hlt : w.heap.size + 1 < w1.heap.size := (Array.getElem?_eq_some_iff.1 hR).1
  have HR := Lib.hid hR
  clear hb1 hR0 hR hH0 hH HC
  go_wp2_with fail
  refine (HB.out _ (hv.on hb) (hK.on hb)).mono ?_
  rintro e w2 ⟨B, x', rfl, hblk, hx', hb2⟩
  have hR : w2.heap[w.heap.size + 1]? = some (.cells #[.slice none 0 0, .string ⟨#[]⟩, .int .u64 0] 72) := by rw [hb2.block _ (by omega)]; exact HR.out
  have d0 : w2.cell? ⟨w.heap.size + 1, 0, none⟩ = some (.slice none 0 0) := by rw [cell_of_row _ _ _ _ _ _ hR]; rfl
  have d1 : w2.cell? ⟨w.heap.size + 1, 1, none⟩ = some (.string ⟨#[]⟩) := by rw [cell_of_row _ _ _ _ _ _ hR]; rfl
  have d2 : w2.cell? ⟨w.heap.size + 1, 2, none⟩ = some (.int .u64 0) := by rw [cell_of_row _ _ _ _ _ _ hR]; rfl
  have f0 := frozen_of_row w2 (w.heap.size + 1) 0 _ _ hR
  have f1 := frozen_of_row w2 (w.heap.size + 1) 1 _ _ hR
  have f2 := frozen_of_row w2 (w.heap.size + 1) 2 _ _ hR
  have hne : B ≠ w.heap.size + 1 := by
    rintro rfl
    have h8 := hblk
    unfold BlkW at h8
    rw [hR] at h8
    have := congrArg (fun o => match o with | some (Obj.cells cs _ _) => cs.size | _ => 0) h8
    simp [Wd, S8.l] at this
  have hbb : Below w.heap.size w w2 := hb.trans (hb2.mono (by omega))
  have e0 := setCell_far (i := 2) (u := .int .u64 (q : Int)) (setCell_far (i := 1) (u := .string x') (World.cell?_setCell_same _ ⟨w.heap.size + 1, 0, none⟩ (.slice (some ⟨B, 0, none⟩) 8 8) d0) (by omega)) (by omega)
  have e1 := setCell_far (i := 2) (u := .int .u64 (q : Int)) (World.cell?_setCell_same _ ⟨w.heap.size + 1, 1, none⟩ (.string x') (setCell_far (i := 0) (u := .slice (some ⟨B, 0, none⟩) 8 8) d1 (by omega))) (by omega)
  have e2 := World.cell?_setCell_same _ ⟨w.heap.size + 1, 2, none⟩ (.int .u64 (q : Int)) (setCell_far (i := 1) (u := .string x') (setCell_far (i := 0) (u := .slice (some ⟨B, 0, none⟩) 8 8) d2 (by omega)) (by omega))
  have hk := ((hblk.far ⟨w.heap.size + 1, 0, none⟩ hne (.slice (some ⟨B, 0, none⟩) 8 8)).far ⟨w.heap.size + 1, 1, none⟩ hne (.string x')).far ⟨w.heap.size + 1, 2, none⟩ hne (.int .u64 (q : Int))
  have hbl : Below w.heap.size w _ := ((hbb.setCell (p := ⟨w.heap.size + 1, 0, none⟩) (Nat.le_succ _) (.slice (some ⟨B, 0, none⟩) 8 8)).setCell (p := ⟨w.heap.size + 1, 1, none⟩) (Nat.le_succ _) (.string x')).setCell (p := ⟨w.heap.size + 1, 2, none⟩) (Nat.le_succ _) (.int .u64 (q : Int))
  have E0 := Lib.hid e0; have E1 := Lib.hid e1; have E2 := Lib.hid e2
  have hlt2 : w.heap.size + 1 < w2.heap.size := (Array.getElem?_eq_some_iff.1 hR).1
  clear HR hR hblk hb hb2 hbb c0 c1 c2 e0 e1 e2 hv hK HB hne
  go_wp2_with fail
  have e0 := E0.out; have e1 := E1.out; have e2 := E2.out
  refine bodyPost_ret (v := .tuple #[.agg #[.slice (some ⟨B, 0, none⟩) 8 8, .string x', .int .u64 (q : Int)], .int .i64 0]) (by simp [results, Tryd.results50, go_sem, e0, e1, e2]) rfl ⟨B, x', rfl, hk, hx', hbl⟩

/-- what a sum on its way comes to -/
def sumL (s : S8) (r : List UInt8) (m : Nat) : List UInt8 := tellL (mixAll s (r ++ padL m)).l
theorem sumL_length (s : S8) (r : List UInt8) (m : Nat) : (sumL s r m).length = 32 := by unfold sumL; rw [tellL_length, S8.l_length]
set_option maxRecDepth 100000 in
set_option maxHeartbeats 1000000 in
theorem sum_bad (a : Option Addr) (n c : Nat) (x : ByteArray) (m : Nat) (hm : m < 18446744073709551616) (hx : x.size ≤ maxLen) (hr : rightB n x.size m = false) (w : World) :
    Calls Tryd.prog 51 #[.agg #[.slice a n c, .string x, .int .u64 (m : Int)]] w fun e w' => e = .returned (.tuple #[.string ⟨#[]⟩, .int .i64 1]) ∧ Below w.heap.size w w' := by
  have hc := right_any a n c x m hm hx
  rw [hr] at hc
  have HC := Lib.hid hc
  clear hc hr hx
  go_enter Tryd.func51, Tryd.ntmps51
  go_wp2_with fail
  refine (HC.out _).mono ?_
  rintro e w1 ⟨rfl, hb1⟩
  have hb : Below w.heap.size w w1 := Below.trans (by go_grown) (hb1.mono (by simp))
  clear hb1 HC
  go_wp2_with fail
  go_ret2
  exact ⟨rfl, hb⟩

set_option maxRecDepth 100000 in
set_option maxHeartbeats 1000000 in
theorem sum_good (a : Option Addr) (n c : Nat) (s : S8) (x : ByteArray) (m : Nat) (hm : m < 18446744073709551616) (hr : rightB n x.size m = true) (w : World) (hv : WsAt w (.slice a n c) s.l) (hK : KeysAt w) :
    Calls Tryd.prog 51 #[.agg #[.slice a n c, .string x, .int .u64 (m : Int)]] w fun e w' => e = .returned (.tuple #[.string (strL (sumL s (bl x) m)), .int .i64 0]) ∧ Below w.heap.size w w' := by
  have hx : x.size < 64 := by unfold rightB at hr; simp at hr; omega
  have hc := right_any a n c x m hm (by unfold maxLen; omega)
  rw [hr] at hc
  have HC := Lib.hid hc
  have hbh := fun W h1 h2 => total_any (.slice a n c) s x (by omega) m hm W h1 h2
  have HB := Lib.hid hbh
  clear hc hr hbh hx
  go_enter Tryd.func51, Tryd.ntmps51
  go_wp2_with fail
  refine (HC.out _).mono ?_
  rintro e w1 ⟨rfl, hb1⟩
  have hH0 : (w.alloc (.cells #[.slice a n c, .string x, .int .u64 (m : Int)] 72)).heap[w.heap.size]? = some (.cells #[.slice a n c, .string x, .int .u64 (m : Int)] 72) := heap_alloc_new _ _
  have hH : w1.heap[w.heap.size]? = some (.cells #[.slice a n c, .string x, .int .u64 (m : Int)] 72) := by rw [hb1.block _ (by simp)]; exact hH0
  have c0 : w1.cell? ⟨w.heap.size, 0, none⟩ = some (.slice a n c) := by rw [cell_of_row _ _ _ _ _ _ hH]; rfl
  have c1 : w1.cell? ⟨w.heap.size, 1, none⟩ = some (.string x) := by rw [cell_of_row _ _ _ _ _ _ hH]; rfl
  have c2 : w1.cell? ⟨w.heap.size, 2, none⟩ = some (.int .u64 (m : Int)) := by rw [cell_of_row _ _ _ _ _ _ hH]; rfl
  have hb : Below w.heap.size w w1 := Below.trans (by go_grown) (hb1.mono (by simp))
  clear hb1 hH0 hH HC
  go_wp2_with fail
  refine (HB.out _ (hv.on hb) (hK.on hb)).mono ?_
  rintro e w2 ⟨rfl, hb2⟩
  clear c0 c1 c2
  go_wp2_with fail
  go_ret2
  exact ⟨rfl, hb.trans (hb2.mono hb.size)⟩

/-- the first words lie in their variable -/
def FirstAt (w : World) : Prop := ∀ i, i < 8 → w.cell? ⟨0, i, none⟩ = some (.int .u32 ((firstS.l.getD i 0).toNat : Int))
theorem FirstAt.lt {w : World} (h : FirstAt w) : 0 < w.heap.size := World.block_lt_of_cell? w _ (h 0 (by omega))
theorem FirstAt.on {w w' : World} (h : FirstAt w) (hb : Below w.heap.size w w') : FirstAt w' := by
  intro i hi
  rw [hb.cell (p := ⟨0, i, none⟩) h.lt]
  exact h i hi

set_option maxRecDepth 100000 in
set_option maxHeartbeats 1000000 in
theorem new_any (w : World) (hF : FirstAt w) :
    Calls Tryd.prog 49 #[] w (HashPost firstS [] 0 w) := by
  have hb0 : Below w.heap.size w (w.alloc (.cells #[.slice none 0 0, .string ⟨#[]⟩, .int .u64 0] 72)) := by go_grown
  have hf := hF.on hb0
  have hrg : (w.alloc (.cells #[.slice none 0 0, .string ⟨#[]⟩, .int .u64 0] 72)).rangeAt 0 0 (Wd firstS.l) := by
    intro j v hv
    have hj : j < 8 := (List.getElem?_eq_some_iff.1 hv).1
    rw [Nat.zero_add, hf j hj, ← hv]
    have hj' : j < firstS.l.length := hj
    simp [Wd, hj']
  have hR0 : (w.alloc (.cells #[.slice none 0 0, .string ⟨#[]⟩, .int .u64 0] 72)).heap[w.heap.size]? = some (.cells #[.slice none 0 0, .string ⟨#[]⟩, .int .u64 0] 72) := heap_alloc_new _ _
  have hl := list_any firstS
  have HL := Lib.hid hl
  have HRG := Lib.hid hrg; have HR0 := Lib.hid hR0
  clear hl hf hF hrg hR0
  go_enter Tryd.func49, Tryd.ntmps49
  go_upto_region 1 with fail
  have hs0 : (w.alloc (.cells #[.slice none 0 0, .string ⟨#[]⟩, .int .u64 0] 72)).heap.size = w.heap.size + 1 := by simp
  generalize World.alloc w _ = W at HRG HR0 hb0 hs0 ⊢
  refine wp_region_lit ?_
  refine wpList_load_mid rfl 98 (.global 0) rfl 0 0 rfl (Wd firstS.l) _ HRG.out Tryd.underlying98 rfl (by kernel_rfl) ?_
  have hlt : w.heap.size < W.heap.size := by omega
  have hBR : W.heap.size ≠ w.heap.size := by omega
  clear hs0
  go_wp2_with fail
  refine (HL.out _).mono ?_
  rintro e w2 ⟨rfl, hblk, hb2⟩
  have hR : w2.heap[w.heap.size]? = some (.cells #[.slice none 0 0, .string ⟨#[]⟩, .int .u64 0] 72) := by rw [hb2.block _ hlt]; exact HR0.out
  have d0 : w2.cell? ⟨w.heap.size, 0, none⟩ = some (.slice none 0 0) := by rw [cell_of_row _ _ _ _ _ _ hR]; rfl
  have d1 : w2.cell? ⟨w.heap.size, 1, none⟩ = some (.string ⟨#[]⟩) := by rw [cell_of_row _ _ _ _ _ _ hR]; rfl
  have d2 : w2.cell? ⟨w.heap.size, 2, none⟩ = some (.int .u64 0) := by rw [cell_of_row _ _ _ _ _ _ hR]; rfl
  have f0 := frozen_of_row w2 w.heap.size 0 _ _ hR
  have f1 := frozen_of_row w2 w.heap.size 1 _ _ hR
  have f2 := frozen_of_row w2 w.heap.size 2 _ _ hR
  generalize W.heap.size = B at hblk hBR ⊢
  have hbb : Below w.heap.size w w2 := hb0.trans (hb2.mono (by omega))
  have e0 := setCell_far (i := 2) (u := .int .u64 0) (setCell_far (i := 1) (u := .string ⟨#[]⟩) (World.cell?_setCell_same _ ⟨w.heap.size, 0, none⟩ (.slice (some ⟨B, 0, none⟩) 8 8) d0) (by omega)) (by omega)
  have e1 := setCell_far (i := 2) (u := .int .u64 0) (World.cell?_setCell_same _ ⟨w.heap.size, 1, none⟩ (.string ⟨#[]⟩) (setCell_far (i := 0) (u := .slice (some ⟨B, 0, none⟩) 8 8) d1 (by omega))) (by omega)
  have e2 := World.cell?_setCell_same _ ⟨w.heap.size, 2, none⟩ (.int .u64 0) (setCell_far (i := 1) (u := .string ⟨#[]⟩) (setCell_far (i := 0) (u := .slice (some ⟨B, 0, none⟩) 8 8) d2 (by omega)) (by omega))
  have hk := ((hblk.far ⟨w.heap.size, 0, none⟩ hBR (.slice (some ⟨B, 0, none⟩) 8 8)).far ⟨w.heap.size, 1, none⟩ hBR (.string ⟨#[]⟩)).far ⟨w.heap.size, 2, none⟩ hBR (.int .u64 0)
  have hbl : Below w.heap.size w _ := ((hbb.setCell (p := ⟨w.heap.size, 0, none⟩) (Nat.le_refl _) (.slice (some ⟨B, 0, none⟩) 8 8)).setCell (p := ⟨w.heap.size, 1, none⟩) (Nat.le_refl _) (.string ⟨#[]⟩)).setCell (p := ⟨w.heap.size, 2, none⟩) (Nat.le_refl _) (.int .u64 0)
  have E0 := Lib.hid e0; have E1 := Lib.hid e1; have E2 := Lib.hid e2
  have hlt2 : w.heap.size < w2.heap.size := (Array.getElem?_eq_some_iff.1 hR).1
  clear hR hblk hb0 hb2 hbb e0 e1 e2 hBR HR0 HRG
  go_wp2_with fail
  have e0 := E0.out; have e1 := E1.out; have e2 := E2.out
  refine bodyPost_ret (v := .agg #[.slice (some ⟨B, 0, none⟩) 8 8, .string ⟨#[]⟩, .int .u64 0]) (by simp [results, Tryd.results49, go_sem, e0, e1, e2]) rfl ⟨B, ⟨#[]⟩, rfl, hk, rfl, hbl⟩

set_option maxRecDepth 100000 in
set_option maxHeartbeats 1000000 in
theorem of_any (x : ByteArray) (hx : x.size ≤ 1000000) (w : World) (hF : FirstAt w) (hK : KeysAt w) :
    Calls Tryd.prog 42 #[.string x] w fun e w' => e = .returned (.string (strL (sumL (mixAll firstS (bl x)) (restOf (bl x)) x.size))) ∧ Below w.heap.size w w' := by
  have hN := Lib.hid (new_any w hF)
  go_enter Tryd.func42, Tryd.ntmps42
  go_wp2_with fail
  refine hN.out.mono ?_
  rintro e w1 ⟨B, y, rfl, hblk, hy, hb1⟩
  obtain rfl : y = ⟨#[]⟩ := bl_inj hy
  have hz : ((0 : Nat) : Int) = 0 := rfl
  have hb2 := behind_any (.slice (some ⟨B, 0, none⟩) 8 8) firstS ⟨#[]⟩ x (by show 0 ≤ 1000000; omega) hx 0 (by omega) w1 (hblk.ws 8 8 rfl) (hK.on hb1)
  rw [hz] at hb2 ⊢
  have H2 := Lib.hid hb2
  clear hb2 hN
  go_wp2_with fail
  refine H2.out.mono ?_
  rintro e w2 ⟨B2, y2, rfl, hblk2, hy2, hb2⟩
  have hxs : (0 + x.size) % 18446744073709551616 = x.size := by omega
  have hmt : bl ⟨#[]⟩ ++ bl x = bl x := rfl
  rw [hmt] at hblk2 hy2
  rw [hxs]
  have hys : y2.size ≤ 1000000 := by rw [← bl_length, hy2, restOf_length]; omega
  have h3 := total_any (.slice (some ⟨B2, 0, none⟩) 8 8) (mixAll firstS (bl x)) y2 hys x.size (by omega) w2 (hblk2.ws 8 8 rfl) ((hK.on hb1).on hb2)
  have H3 := Lib.hid h3
  have hbb := hb1.trans (hb2.mono hb1.size)
  have HY := Lib.hid hy2
  clear h3 H2 hb1 hb2 hy2 hblk hblk2 hK hF
  go_wp2_with fail
  refine H3.out.mono ?_
  rintro e w3 ⟨rfl, hb3⟩
  go_wp2_with fail
  go_ret
  refine ⟨?_, hbb.trans (hb3.mono hbb.size)⟩
  rw [HY.out]
  rfl
end Go.Proofs.YtolobdeilfgmnaaDoor