/- The texts Dpub, Dcut, Ki, Dint, Dparts, Dprod, one behind the other. -/
import Derived.Test.YtdnjieffbgmagaaDoorBg4
import Derived.Test.YtdnjieffbgmagaaDoorBg1
import Derived.ChangeAlike
import Derived.RegionTactic
import Derived.Test.YtdnjieffbgmagaaDoorRows
import Derived.Carry
import Derived.Lib.SmallJoins
/- The contracts of digest's exported functions: Right, Write, Sum, New, Of. -/
namespace Go.Proofs.YtdnjieffbgmagaaDoor
open Go.RowKit
def rightB (n k m : Nat) : Bool := decide (n = 8 ∧ k < 64 ∧ m % 64 = k)
set_option maxRecDepth 100000 in
set_option maxHeartbeats 400000 in
theorem right_any (a : Option Addr) (n c : Nat) (x : ByteArray) (m : Nat) (hm : m < 18446744073709551616) (hx : x.size ≤ maxLen) (w : World) :
    Calls Tryd.prog 103 #[.agg #[.slice a n c, .string x, .int .u64 (m : Int)]] w fun e w' => e = .returned (.bool (rightB n x.size m)) ∧ Below w.heap.size w w' := by
  unfold maxLen at hx
  have wx : IntKind.u64.wrap (x.size : Int) = (x.size : Int) := by rw [IntKind.wrap_u64]; omega
  by_cases h8 : n = 8
  · subst h8
    have b1 : ((8 : Int) == 8) = true := by simp
    by_cases h64 : x.size < 64
    · have b2 : decide ((x.size : Int) < 64) = true := by simp; omega
      have hr : rightB 8 x.size m = ((m : Int) % 64 == (x.size : Int)) := by
        unfold rightB
        rw [Bool.eq_iff_iff]
        simp [h64]
        omega
      rw [hr]
      clear hr
      go_enter Tryd.func103, Tryd.ntmps103
      go_wp2
      go_ret
      exact ⟨rfl, by go_grown⟩
    · have b2 : decide ((x.size : Int) < 64) = false := by simp; omega
      have hr : rightB 8 x.size m = false := by unfold rightB; simp [h64]
      rw [hr]
      clear hr
      go_enter Tryd.func103, Tryd.ntmps103
      go_wp2
      go_ret
      exact ⟨rfl, by go_grown⟩
  · have b1 : ((n : Int) == 8) = false := by simp; omega
    have hr : rightB n x.size m = false := by unfold rightB; simp [h8]
    rw [hr]
    clear hr
    go_enter Tryd.func103, Tryd.ntmps103
    go_wp2
    go_ret
    exact ⟨rfl, by go_grown⟩

/-- the result of a call that answers a sum on its way and OK -/
def WrotePost (u : S8) (r : List UInt8) (q : Nat) (w : World) (e : Ending) (w' : World) : Prop :=
  ∃ (B : Nat) (x : ByteArray), e = .returned (.tuple #[.agg #[.slice (some ⟨B, 0, none⟩) 8 8, .string x, .int .u64 (q : Int)], .int .i64 0]) ∧ BlkW w' B 144 u.l ∧ bl x = r ∧ Below w.heap.size w w'

set_option maxRecDepth 100000 in
set_option maxHeartbeats 1000000 in
theorem write_good (a : Option Addr) (n c : Nat) (s : S8) (x y : ByteArray) (m : Nat) (hm : m < 18446744073709551616) (hr : rightB n x.size m = true) (hy : y.size ≤ 1000000) (w : World) (hv : WsAt w (.slice a n c) s.l) (hK : KeysAt w) :
    Calls Tryd.prog 95 #[.agg #[.slice a n c, .string x, .int .u64 (m : Int)], .string y] w (WrotePost (mixAll s (bl x ++ bl y)) (restOf (bl x ++ bl y)) ((m + y.size) % 18446744073709551616) w) := by
  have hx : x.size < 64 := by unfold rightB at hr; simp at hr; omega
  have hc := right_any a n c x m hm (by unfold maxLen; omega)
  rw [hr] at hc
  have HC := Lib.hid hc
  have hbh := fun W h1 h2 => behind_any (.slice a n c) s x y (by omega) hy m hm W h1 h2
  have HB := Lib.hid hbh
  clear hc hr hbh hy hx
  generalize mixAll s (bl x ++ bl y) = u at HB ⊢
  generalize restOf (bl x ++ bl y) = r at HB ⊢
  generalize (m + y.size) % 18446744073709551616 = q at HB ⊢
  go_enter Tryd.func95, Tryd.ntmps95
  go_wp2_with fail
  refine (HC.out _).mono ?_
  rintro e w1 ⟨rfl, hb1⟩
  have hH0 : ((w.alloc (.cells #[.slice a n c, .string x, .int .u64 (m : Int)] 118)).alloc (.cells #[.slice none 0 0, .string ⟨#[]⟩, .int .u64 0] 118)).heap[w.heap.size]? = some (.cells #[.slice a n c, .string x, .int .u64 (m : Int)] 118) := heap_alloc2_old _ _ _
  have hH : w1.heap[w.heap.size]? = some (.cells #[.slice a n c, .string x, .int .u64 (m : Int)] 118) := by rw [hb1.block _ (by simp; omega)]; exact hH0
  have hR0 : ((w.alloc (.cells #[.slice a n c, .string x, .int .u64 (m : Int)] 118)).alloc (.cells #[.slice none 0 0, .string ⟨#[]⟩, .int .u64 0] 118)).heap[w.heap.size + 1]? = some (.cells #[.slice none 0 0, .string ⟨#[]⟩, .int .u64 0] 118) := heap_alloc2_new _ _ _
  have hR : w1.heap[w.heap.size + 1]? = some (.cells #[.slice none 0 0, .string ⟨#[]⟩, .int .u64 0] 118) := by rw [hb1.block _ (by simp)]; exact hR0
  have c0 : w1.cell? ⟨w.heap.size, 0, none⟩ = some (.slice a n c) := by rw [cell_of_row _ _ _ _ _ _ hH]; rfl
  have c1 : w1.cell? ⟨w.heap.size, 1, none⟩ = some (.string x) := by rw [cell_of_row _ _ _ _ _ _ hH]; rfl
  have c2 : w1.cell? ⟨w.heap.size, 2, none⟩ = some (.int .u64 (m : Int)) := by rw [cell_of_row _ _ _ _ _ _ hH]; rfl
  have hb : Below w.heap.size w w1 := Below.trans (by go_grown) (hb1.mono (by simp; omega))
  have hlt : w.heap.size + 1 < w1.heap.size := (Array.getElem?_eq_some_iff.1 hR).1
  have HR := Lib.hid hR
  clear hb1 hR0 hR hH0 hH HC
  go_wp2_with fail
  refine (HB.out _ (hv.on hb) (hK.on hb)).mono ?_
  rintro e w2 ⟨B, x', rfl, hblk, hx', hb2⟩
  have hR : w2.heap[w.heap.size + 1]? = some (.cells #[.slice none 0 0, .string ⟨#[]⟩, .int .u64 0] 118) := by rw [hb2.block _ (by omega)]; exact HR.out
  have d0 : w2.cell? ⟨w.heap.size + 1, 0, none⟩ = some (.slice none 0 0) := by rw [cell_of_row _ _ _ _ _ _ hR]; rfl
  have d1 : w2.cell? ⟨w.heap.size + 1, 1, none⟩ = some (.string ⟨#[]⟩) := by rw [cell_of_row _ _ _ _ _ _ hR]; rfl
  have d2 : w2.cell? ⟨w.heap.size + 1, 2, none⟩ = some (.int .u64 0) := by rw [cell_of_row _ _ _ _ _ _ hR]; rfl
  have f0 := frozen_of_row w2 (w.heap.size + 1) 0 _ _ hR
  have f1 := frozen_of_row w2 (w.heap.size + 1) 1 _ _ hR
  have f2 := frozen_of_row w2 (w.heap.size + 1) 2 _ _ hR
  have hne : B ≠ w.heap.size + 1 := by
    rintro rfl
    have h8 := hblk
    unfold BlkW at h8
    rw [hR] at h8
    have := congrArg (fun o => match o with | some (Obj.cells cs _ _) => cs.size | _ => 0) h8
    simp [Wd, S8.l] at this
  have hbb : Below w.heap.size w w2 := hb.trans (hb2.mono (by omega))
  have e0 := setCell_far (i := 2) (u := .int .u64 (q : Int)) (setCell_far (i := 1) (u := .string x') (World.cell?_setCell_same _ ⟨w.heap.size + 1, 0, none⟩ (.slice (some ⟨B, 0, none⟩) 8 8) d0) (by omega)) (by omega)
  have e1 := setCell_far (i := 2) (u := .int .u64 (q : Int)) (World.cell?_setCell_same _ ⟨w.heap.size + 1, 1, none⟩ (.string x') (setCell_far (i := 0) (u := .slice (some ⟨B, 0, none⟩) 8 8) d1 (by omega))) (by omega)
  have e2 := World.cell?_setCell_same _ ⟨w.heap.size + 1, 2, none⟩ (.int .u64 (q : Int)) (setCell_far (i := 1) (u := .string x') (setCell_far (i := 0) (u := .slice (some ⟨B, 0, none⟩) 8 8) d2 (by omega)) (by omega))
  have hk := ((hblk.far ⟨w.heap.size + 1, 0, none⟩ hne (.slice (some ⟨B, 0, none⟩) 8 8)).far ⟨w.heap.size + 1, 1, none⟩ hne (.string x')).far ⟨w.heap.size + 1, 2, none⟩ hne (.int .u64 (q : Int))
  have hbl : Below w.heap.size w _ := ((hbb.setCell (p := ⟨w.heap.size + 1, 0, none⟩) (Nat.le_succ _) (.slice (some ⟨B, 0, none⟩) 8 8)).setCell (p := ⟨w.heap.size + 1, 1, none⟩) (Nat.le_succ _) (.string x')).setCell (p := ⟨w.heap.size + 1, 2, none⟩) (Nat.le_succ _) (.int .u64 (q : Int))
  have E0 := Lib.hid e0; have E1 := Lib.hid e1; have E2 := Lib.hid e2
  have hlt2 : w.heap.size + 1 < w2.heap.size := (Array.getElem?_eq_some_iff.1 hR).1
  clear HR hR hblk hb hb2 hbb c0 c1 c2 e0 e1 e2 hv hK HB hne
  go_wp2_with fail
  have e0 := E0.out; have e1 := E1.out; have e2 := E2.out
  refine bodyPost_ret (v := .tuple #[.agg #[.slice (some ⟨B, 0, none⟩) 8 8, .string x', .int .u64 (q : Int)], .int .i64 0]) (by simp [results, Tryd.results95, go_sem, e0, e1, e2]) rfl ⟨B, x', rfl, hk, hx', hbl⟩

/-- what a sum on its way comes to -/
def sumL (s : S8) (r : List UInt8) (m : Nat) : List UInt8 := tellL (mixAll s (r ++ padL m)).l
theorem sumL_length (s : S8) (r : List UInt8) (m : Nat) : (sumL s r m).length = 32 := by unfold sumL; rw [tellL_length, S8.l_length]
set_option maxRecDepth 100000 in
set_option maxHeartbeats 1000000 in
theorem sum_good (a : Option Addr) (n c : Nat) (s : S8) (x : ByteArray) (m : Nat) (hm : m < 18446744073709551616) (hr : rightB n x.size m = true) (w : World) (hv : WsAt w (.slice a n c) s.l) (hK : KeysAt w) :
    Calls Tryd.prog 96 #[.agg #[.slice a n c, .string x, .int .u64 (m : Int)]] w fun e w' => e = .returned (.tuple #[.string (strL (sumL s (bl x) m)), .int .i64 0]) ∧ Below w.heap.size w w' := by
  have hx : x.size < 64 := by unfold rightB at hr; simp at hr; omega
  have hc := right_any a n c x m hm (by unfold maxLen; omega)
  rw [hr] at hc
  have HC := Lib.hid hc
  have hbh := fun W h1 h2 => total_any (.slice a n c) s x (by omega) m hm W h1 h2
  have HB := Lib.hid hbh
  clear hc hr hbh hx
  go_enter Tryd.func96, Tryd.ntmps96
  go_wp2_with fail
  refine (HC.out _).mono ?_
  rintro e w1 ⟨rfl, hb1⟩
  have hH0 : (w.alloc (.cells #[.slice a n c, .string x, .int .u64 (m : Int)] 118)).heap[w.heap.size]? = some (.cells #[.slice a n c, .string x, .int .u64 (m : Int)] 118) := heap_alloc_new _ _
  have hH : w1.heap[w.heap.size]? = some (.cells #[.slice a n c, .string x, .int .u64 (m : Int)] 118) := by rw [hb1.block _ (by simp)]; exact hH0
  have c0 : w1.cell? ⟨w.heap.size, 0, none⟩ = some (.slice a n c) := by rw [cell_of_row _ _ _ _ _ _ hH]; rfl
  have c1 : w1.cell? ⟨w.heap.size, 1, none⟩ = some (.string x) := by rw [cell_of_row _ _ _ _ _ _ hH]; rfl
  have c2 : w1.cell? ⟨w.heap.size, 2, none⟩ = some (.int .u64 (m : Int)) := by rw [cell_of_row _ _ _ _ _ _ hH]; rfl
  have hb : Below w.heap.size w w1 := Below.trans (by go_grown) (hb1.mono (by simp))
  clear hb1 hH0 hH HC
  go_wp2_with fail
  refine (HB.out _ (hv.on hb) (hK.on hb)).mono ?_
  rintro e w2 ⟨rfl, hb2⟩
  clear c0 c1 c2
  go_wp2_with fail
  go_ret2
  exact ⟨rfl, hb.trans (hb2.mono hb.size)⟩

/-- the first words lie in their variable -/
def FirstAt (w : World) : Prop := ∀ i, i < 8 → w.cell? ⟨1, i, none⟩ = some (.int .u32 ((firstS.l.getD i 0).toNat : Int))
theorem FirstAt.lt {w : World} (h : FirstAt w) : 1 < w.heap.size := World.block_lt_of_cell? w _ (h 0 (by omega))
theorem FirstAt.on {w w' : World} (h : FirstAt w) (hb : Below w.heap.size w w') : FirstAt w' := by
  intro i hi
  rw [hb.cell (p := ⟨1, i, none⟩) h.lt]
  exact h i hi

set_option maxRecDepth 100000 in
set_option maxHeartbeats 1000000 in
theorem new_any (w : World) (hF : FirstAt w) :
    Calls Tryd.prog 94 #[] w (HashPost firstS [] 0 w) := by
  have hb0 : Below w.heap.size w (w.alloc (.cells #[.slice none 0 0, .string ⟨#[]⟩, .int .u64 0] 118)) := by go_grown
  have hf := hF.on hb0
  have hrg : (w.alloc (.cells #[.slice none 0 0, .string ⟨#[]⟩, .int .u64 0] 118)).rangeAt 1 0 (Wd firstS.l) := by
    intro j v hv
    have hj : j < 8 := (List.getElem?_eq_some_iff.1 hv).1
    rw [Nat.zero_add, hf j hj, ← hv]
    have hj' : j < firstS.l.length := hj
    simp [Wd, hj']
  have hR0 : (w.alloc (.cells #[.slice none 0 0, .string ⟨#[]⟩, .int .u64 0] 118)).heap[w.heap.size]? = some (.cells #[.slice none 0 0, .string ⟨#[]⟩, .int .u64 0] 118) := heap_alloc_new _ _
  have hl := list_any firstS
  have HL := Lib.hid hl
  have HRG := Lib.hid hrg; have HR0 := Lib.hid hR0
  clear hl hf hF hrg hR0
  go_enter Tryd.func94, Tryd.ntmps94
  go_upto_region 1 with fail
  have hs0 : (w.alloc (.cells #[.slice none 0 0, .string ⟨#[]⟩, .int .u64 0] 118)).heap.size = w.heap.size + 1 := by simp
  generalize World.alloc w _ = W at HRG HR0 hb0 hs0 ⊢
  refine wp_region_lit ?_
  refine wpList_load_mid rfl 144 (.global 1) rfl 1 0 rfl (Wd firstS.l) _ HRG.out Tryd.underlying144 rfl (by kernel_rfl) ?_
  have hlt : w.heap.size < W.heap.size := by omega
  have hBR : W.heap.size ≠ w.heap.size := by omega
  clear hs0
  go_wp2_with fail
  refine (HL.out _).mono ?_
  rintro e w2 ⟨rfl, hblk, hb2⟩
  have hR : w2.heap[w.heap.size]? = some (.cells #[.slice none 0 0, .string ⟨#[]⟩, .int .u64 0] 118) := by rw [hb2.block _ hlt]; exact HR0.out
  have d0 : w2.cell? ⟨w.heap.size, 0, none⟩ = some (.slice none 0 0) := by rw [cell_of_row _ _ _ _ _ _ hR]; rfl
  have d1 : w2.cell? ⟨w.heap.size, 1, none⟩ = some (.string ⟨#[]⟩) := by rw [cell_of_row _ _ _ _ _ _ hR]; rfl
  have d2 : w2.cell? ⟨w.heap.size, 2, none⟩ = some (.int .u64 0) := by rw [cell_of_row _ _ _ _ _ _ hR]; rfl
  have f0 := frozen_of_row w2 w.heap.size 0 _ _ hR
  have f1 := frozen_of_row w2 w.heap.size 1 _ _ hR
  have f2 := frozen_of_row w2 w.heap.size 2 _ _ hR
  generalize W.heap.size = B at hblk hBR ⊢
  have hbb : Below w.heap.size w w2 := hb0.trans (hb2.mono (by omega))
  have e0 := setCell_far (i := 2) (u := .int .u64 0) (setCell_far (i := 1) (u := .string ⟨#[]⟩) (World.cell?_setCell_same _ ⟨w.heap.size, 0, none⟩ (.slice (some ⟨B, 0, none⟩) 8 8) d0) (by omega)) (by omega)
  have e1 := setCell_far (i := 2) (u := .int .u64 0) (World.cell?_setCell_same _ ⟨w.heap.size, 1, none⟩ (.string ⟨#[]⟩) (setCell_far (i := 0) (u := .slice (some ⟨B, 0, none⟩) 8 8) d1 (by omega))) (by omega)
  have e2 := World.cell?_setCell_same _ ⟨w.heap.size, 2, none⟩ (.int .u64 0) (setCell_far (i := 1) (u := .string ⟨#[]⟩) (setCell_far (i := 0) (u := .slice (some ⟨B, 0, none⟩) 8 8) d2 (by omega)) (by omega))
  have hk := ((hblk.far ⟨w.heap.size, 0, none⟩ hBR (.slice (some ⟨B, 0, none⟩) 8 8)).far ⟨w.heap.size, 1, none⟩ hBR (.string ⟨#[]⟩)).far ⟨w.heap.size, 2, none⟩ hBR (.int .u64 0)
  have hbl : Below w.heap.size w _ := ((hbb.setCell (p := ⟨w.heap.size, 0, none⟩) (Nat.le_refl _) (.slice (some ⟨B, 0, none⟩) 8 8)).setCell (p := ⟨w.heap.size, 1, none⟩) (Nat.le_refl _) (.string ⟨#[]⟩)).setCell (p := ⟨w.heap.size, 2, none⟩) (Nat.le_refl _) (.int .u64 0)
  have E0 := Lib.hid e0; have E1 := Lib.hid e1; have E2 := Lib.hid e2
  have hlt2 : w.heap.size < w2.heap.size := (Array.getElem?_eq_some_iff.1 hR).1
  clear hR hblk hb0 hb2 hbb e0 e1 e2 hBR HR0 HRG
  go_wp2_with fail
  have e0 := E0.out; have e1 := E1.out; have e2 := E2.out
  refine bodyPost_ret (v := .agg #[.slice (some ⟨B, 0, none⟩) 8 8, .string ⟨#[]⟩, .int .u64 0]) (by simp [results, Tryd.results94, go_sem, e0, e1, e2]) rfl ⟨B, ⟨#[]⟩, rfl, hk, rfl, hbl⟩

set_option maxRecDepth 100000 in
set_option maxHeartbeats 1000000 in
theorem of_any (x : ByteArray) (hx : x.size ≤ 1000000) (w : World) (hF : FirstAt w) (hK : KeysAt w) :
    Calls Tryd.prog 89 #[.string x] w fun e w' => e = .returned (.string (strL (sumL (mixAll firstS (bl x)) (restOf (bl x)) x.size))) ∧ Below w.heap.size w w' := by
  have hN := Lib.hid (new_any w hF)
  go_enter Tryd.func89, Tryd.ntmps89
  go_wp2_with fail
  refine hN.out.mono ?_
  rintro e w1 ⟨B, y, rfl, hblk, hy, hb1⟩
  obtain rfl : y = ⟨#[]⟩ := bl_inj hy
  have hz : ((0 : Nat) : Int) = 0 := rfl
  have hb2 := behind_any (.slice (some ⟨B, 0, none⟩) 8 8) firstS ⟨#[]⟩ x (by show 0 ≤ 1000000; omega) hx 0 (by omega) w1 (hblk.ws 8 8 rfl) (hK.on hb1)
  rw [hz] at hb2 ⊢
  have H2 := Lib.hid hb2
  clear hb2 hN
  go_wp2_with fail
  refine H2.out.mono ?_
  rintro e w2 ⟨B2, y2, rfl, hblk2, hy2, hb2⟩
  have hxs : (0 + x.size) % 18446744073709551616 = x.size := by omega
  have hmt : bl ⟨#[]⟩ ++ bl x = bl x := rfl
  rw [hmt] at hblk2 hy2
  rw [hxs]
  have hys : y2.size ≤ 1000000 := by rw [← bl_length, hy2, restOf_length]; omega
  have h3 := total_any (.slice (some ⟨B2, 0, none⟩) 8 8) (mixAll firstS (bl x)) y2 hys x.size (by omega) w2 (hblk2.ws 8 8 rfl) ((hK.on hb1).on hb2)
  have H3 := Lib.hid h3
  have hbb := hb1.trans (hb2.mono hb1.size)
  have HY := Lib.hid hy2
  clear h3 H2 hb1 hb2 hy2 hblk hblk2 hK hF
  go_wp2_with fail
  refine H3.out.mono ?_
  rintro e w3 ⟨rfl, hb3⟩
  go_wp2_with fail
  go_ret
  refine ⟨?_, hbb.trans (hb3.mono hbb.size)⟩
  rw [HY.out]
  rfl
end Go.Proofs.YtdnjieffbgmagaaDoor

/- What a law's statement x, e := f(..) leaves: a sum on its way in a block of its own. -/
namespace Go.Proofs.YtdnjieffbgmagaaDoor
open Go.RowKit
/-- parts do not matter -/
theorem mix_parts (n : Nat) : ∀ (s : S8) (p q : List UInt8), p.length ≤ n → mixAll s (p ++ q) = mixAll (mixAll s p) (restOf p ++ q) ∧ restOf (p ++ q) = restOf (restOf p ++ q) := by
  induction n using Nat.strongRecOn with
  | _ n ih =>
    intro s p q hn
    by_cases h : p.length < 64
    · rw [mixAll_end s p h, restOf_end p h]; exact ⟨rfl, rfl⟩
    · have h64 : 64 ≤ p.length := by omega
      have h1 : (p ++ q).take 64 = p.take 64 := List.take_append_of_le_length h64
      have h2 : (p ++ q).drop 64 = p.drop 64 ++ q := List.drop_append_of_le_length h64
      have hl : 64 ≤ (p ++ q).length := by rw [List.length_append]; omega
      obtain ⟨i1, i2⟩ := ih (n - 64) (by omega) (mixS s (p.take 64)) (p.drop 64) q (by rw [List.length_drop]; omega)
      rw [mixAll_step s (p ++ q) hl, restOf_step (p ++ q) hl, h1, h2, mixAll_step s p h64, restOf_step p h64]
      exact ⟨i1, i2⟩
theorem mix_app (s : S8) (p q : List UInt8) : mixAll (mixAll s p) (restOf p ++ q) = mixAll s (p ++ q) := (mix_parts _ s p q (Nat.le_refl _)).1.symm
theorem rest_app (p q : List UInt8) : restOf (restOf p ++ q) = restOf (p ++ q) := (mix_parts _ firstS p q (Nat.le_refl _)).2.symm

/-- a sum on its way in block B -/
structure HashAt (w : World) (B D : Nat) (u : S8) (x : ByteArray) (q : Nat) : Prop where
  c0 : w.cell? ⟨B, 0, none⟩ = some (.slice (some ⟨D, 0, none⟩) 8 8)
  c1 : w.cell? ⟨B, 1, none⟩ = some (.string x)
  c2 : w.cell? ⟨B, 2, none⟩ = some (.int .u64 (q : Int))
  blk : BlkW w D 144 u.l
theorem HashAt.lt {w : World} {B D : Nat} {u : S8} {x : ByteArray} {q : Nat} (h : HashAt w B D u x q) : B < w.heap.size := World.block_lt_of_cell? w _ h.c0
theorem HashAt.on {w w' : World} {B D : Nat} {u : S8} {x : ByteArray} {q : Nat} (h : HashAt w B D u x q) (hb : Below w.heap.size w w') : HashAt w' B D u x q :=
  ⟨by rw [hb.cell (p := ⟨B, 0, none⟩) h.lt]; exact h.c0, by rw [hb.cell (p := ⟨B, 1, none⟩) h.lt]; exact h.c1, by rw [hb.cell (p := ⟨B, 2, none⟩) h.lt]; exact h.c2, h.blk.on hb⟩
/-- laid at once -/
theorem HashAt.laid {w : World} {D : Nat} {u : S8} (hD : BlkW w D 144 u.l) (x : ByteArray) (q : Nat) : HashAt (w.alloc (.cells #[.slice (some ⟨D, 0, none⟩) 8 8, .string x, .int .u64 (q : Int)] 118)) w.heap.size D u x q :=
  ⟨by simp, by simp, by simp, hD.alloc _⟩

/-- a block of zeros that the region has made: kept over a call -/
structure Zh (w : World) (B : Nat) : Prop where
  blk : w.heap[B]? = some (.cells #[.slice none 0 0, .string ⟨#[]⟩, .int .u64 0] 118)
theorem Zh.first {w w' : World} {o : Obj} (hb : Below (w.alloc o).heap.size (w.alloc o) w') (ho : o = .cells #[.slice none 0 0, .string ⟨#[]⟩, .int .u64 0] 118) : Zh w' w.heap.size := by
  subst ho
  exact ⟨by rw [hb.block _ (by simp)]; exact heap_alloc_new _ _⟩
theorem Zh.firstd {w w' : World} {o : Obj} (hb : Below (w.alloc o).drew.heap.size (w.alloc o).drew w') (ho : o = .cells #[.slice none 0 0, .string ⟨#[]⟩, .int .u64 0] 118) : Zh w' w.heap.size := by
  subst ho
  refine ⟨?_⟩
  rw [hb.block w.heap.size (by show w.heap.size < (w.alloc _).heap.size; simp)]
  exact heap_alloc_new _ _
theorem Zh.on {w w' : World} {B : Nat} (h : Zh w B) (hb : Below w.heap.size w w') : Zh w' B := ⟨by rw [hb.block _ (Array.getElem?_eq_some_iff.1 h.blk).1]; exact h.blk⟩
theorem Zh.open {w : World} {B : Nat} (h : Zh w B) : (w.cell? ⟨B, 0, none⟩ = some (.slice none 0 0) ∧ w.cell? ⟨B, 1, none⟩ = some (.string ⟨#[]⟩) ∧ w.cell? ⟨B, 2, none⟩ = some (.int .u64 0)) ∧
    (w.frozen? ⟨B, 0, none⟩ = false ∧ w.frozen? ⟨B, 1, none⟩ = false ∧ w.frozen? ⟨B, 2, none⟩ = false) ∧ B < w.heap.size :=
  ⟨⟨by rw [cell_of_row _ _ _ _ _ _ h.blk]; rfl, by rw [cell_of_row _ _ _ _ _ _ h.blk]; rfl, by rw [cell_of_row _ _ _ _ _ _ h.blk]; rfl⟩,
   ⟨frozen_of_row _ _ _ _ _ h.blk, frozen_of_row _ _ _ _ _ h.blk, frozen_of_row _ _ _ _ _ h.blk⟩, (Array.getElem?_eq_some_iff.1 h.blk).1⟩
/-- stored into it -/
theorem Zh.put {w : World} {B D : Nat} {u : S8} (z : Zh w B) (hD : BlkW w D 144 u.l) (x : ByteArray) (q : Nat) :
    HashAt (((w.setCell ⟨B, 0, none⟩ (.slice (some ⟨D, 0, none⟩) 8 8)).setCell ⟨B, 1, none⟩ (.string x)).setCell ⟨B, 2, none⟩ (.int .u64 (q : Int))) B D u x q := by
  obtain ⟨⟨d0, d1, d2⟩, -, -⟩ := z.open
  have hne : D ≠ B := by
    rintro rfl
    have h8 := hD
    unfold BlkW at h8
    rw [z.blk] at h8
    have := congrArg (fun o => match o with | some (Obj.cells cs _ _) => cs.size | _ => 0) h8
    simp [Wd, S8.l] at this
  exact ⟨setCell_far (setCell_far (World.cell?_setCell_same _ ⟨B, 0, none⟩ _ d0) (by omega)) (by omega), setCell_far (World.cell?_setCell_same _ ⟨B, 1, none⟩ _ (setCell_far d1 (by omega))) (by omega),
    World.cell?_setCell_same _ ⟨B, 2, none⟩ _ (setCell_far (setCell_far d2 (by omega)) (by omega)), ((hD.far ⟨B, 0, none⟩ hne _).far ⟨B, 1, none⟩ hne _).far ⟨B, 2, none⟩ hne _⟩

end Go.Proofs.YtdnjieffbgmagaaDoor

/- Slices of whole numbers of a call's own. -/
namespace Go.Proofs.YtdnjieffbgmagaaDoor
open Go.RowKit
set_option maxRecDepth 100000
/-- a slice of ints of the call's own that reads as l -/
def OwnI (w : World) (base : Nat) (v : Value) (l : List Nat) : Prop := w.ownsRow base 3 1 v l.length (l.map iv)
theorem OwnI.at {w : World} {base : Nat} {v : Value} {l : List Nat} (h : OwnI w base v l) (hl : 0 < l.length) : IntsAt w v l := by
  obtain ⟨g, cap, rfl, -, hg⟩ := World.ownsRow.form h hl
  refine ⟨g, cap, rfl, hg, fun j hj => ?_⟩
  have := World.ownsRow.cellAt h j (by omega)
  rw [this]
  simp [List.getD, hj, iv]
theorem OwnI.alloc {w : World} {base : Nat} {v : Value} {l : List Nat} (h : OwnI w base v l) (o : Obj) : OwnI (w.alloc o) base v l := World.ownsRow.alloc h o
theorem OwnI.drewN {w : World} {base : Nat} {v : Value} {l : List Nat} (h : OwnI w base v l) (n : Nat) : OwnI (w.drewN n) base v l := h
theorem OwnI.on {w w' : World} {base : Nat} {v : Value} {l : List Nat} (h : OwnI w base v l) (hb : Below w.heap.size w w') : OwnI w' base v l := by
  refine ⟨h.1, ?_⟩
  rcases h.2 with h2 | ⟨g, cap, cur, e, hg, hc, h3⟩
  · exact Or.inl h2
  · exact Or.inr ⟨g, cap, cur, e, hg, by rw [hb.block g (Array.getElem?_eq_some_iff.1 hc).1]; exact hc, h3⟩
theorem OwnI.empty (w : World) (base : Nat) (hb : base ≤ w.heap.size) : OwnI (w.alloc (.cells #[] 3)) base (.slice (some ⟨w.heap.size, 0, none⟩) 0 0) [] :=
  World.ownsRow_lit w #[] 0 hb (by decide) rfl
theorem infoI : (Tryd.prog.info? 3).map (fun i => (i.zero, i.size, i.bytes)) = some (some (.int .i64 0), 1, 8) := by kernel_rfl
/-- one int put behind a slice of the call's own -/
theorem append_i {ops : Array Oper} {rest : List Oper} {o : Oper} {a : Act} {Q : Exit → Act → World → Prop} {w : World} (hgd : o.guard = none) (s x : Operand)
    (ho : o.op = .call { callee := .builtin .append, args := #[s, x], argTypes := #[90, 90] })
    (base : Nat) (v : Value) (l : List Nat) (y : Nat) (B : Nat) (hs : a.eval s = v) (hown : OwnI w base v l) (hx : a.eval x = .slice (some ⟨B, 0, none⟩) 1 1)
    (hc : w.cell? ⟨B, 0, none⟩ = some (.int .i64 (y : Int))) (hl : l.length ≤ 1000) (hbase : base ≤ w.heap.size)
    (h : ∀ g cap w', OwnI w' base (.slice (some ⟨g, 0, none⟩) (l.length + 1) cap) (l ++ [y]) → w.grownBy w' v.ownBlock → wpList Tryd.prog ops Q rest (a.put o.dst (.slice (some ⟨g, 0, none⟩) (l.length + 1) cap)) w') :
    wpList Tryd.prog ops Q (o :: rest) a w := by
  obtain ⟨i0, hi, hz0, hz1, hz2⟩ := info_parts infoI
  refine wpList_append_own w hgd s x 90 ho base 3 i0 (.int .i64 0) 1 8 Tryd.underlying90 hi hz0 hz1 hz2 rfl (by decide) v l.length (l.map iv) hs hown ⟨B, 0, none⟩ 1 1 [iv y] hx rfl ?_ ?_ (by unfold maxLen; omega) (by omega) hbase ?_
  · intro j u hu
    rcases j with _ | j
    · simp at hu; subst hu; simpa [Addr.add, iv] using hc
    · simp at hu
  · intro u hu; simp at hu; subst hu; rfl
  · intro v' w' ho' hg _
    obtain ⟨g, cap, rfl, -, -⟩ := World.ownsRow.form ho' (by omega)
    exact h g cap w' (by unfold OwnI; simpa using ho') hg
theorem OwnI.below {w wr w' : World} {n : Nat} {v : Value} {l : List Nat} {o : Obj} (hI : OwnI wr n v l) (hB : Below n w wr) (hn : n ≤ wr.heap.size) (hg : (wr.alloc o).grownBy w' v.ownBlock) : Below n w w' :=
  (hB.alloc hn o).grown hg (by simp; omega) fun k hk => (World.ownsRow.lt hI k hk).1
end Go.Proofs.YtdnjieffbgmagaaDoor

/- Slices of whole numbers of a call's own, and such as can be read. -/
namespace Go.Proofs.YtdnjieffbgmagaaDoor
open Go.RowKit
set_option maxRecDepth 100000
set_option maxRecDepth 100000 in
set_option maxHeartbeats 400000 in
theorem digits_any (n : Nat) (hn : n < 281474976710656) (w : World) :
    Calls Tryd.prog 64 #[.int .i64 (n : Int)] w fun e w' => ∃ v, e = .returned v ∧ IntsAt w' v [n % 65536, n / 65536 % 65536, n / 4294967296] ∧ Below w.heap.size w w' := by
  go_enter Tryd.func64, Tryd.ntmps64
  go_wp2
  go_ret
  refine ⟨_, rfl, ⟨w.heap.size, 3, rfl, by simp, fun j hj => ?_⟩, by go_grown⟩
  rcases j with _ | _ | _ | j
  · simp
  · simp
  · simp
  · exfalso
    have : j + 1 + 1 + 1 < 3 := hj
    omega
end Go.Proofs.YtdnjieffbgmagaaDoor

/- DigestParts: it does not matter in which parts bytes come. -/
namespace Go.Proofs.YtdnjieffbgmagaaDoor
open Go.RowKit
theorem FirstAt.bel {w0 w : World} (h : FirstAt w0) (hb : Bel w0 w) : FirstAt w := h.on hb.b
theorem KeysAt.bel {w0 w : World} (h : KeysAt w0) (hb : Bel w0 w) : KeysAt w := h.on hb.b
theorem HashAt.bel {w0 w : World} {B D : Nat} {u : S8} {x : ByteArray} {q : Nat} (h : HashAt w0 B D u x q) (hb : Bel w0 w) : HashAt w B D u x q := h.on hb.b
end Go.Proofs.YtdnjieffbgmagaaDoor

/- The contract of the reference's product. -/
namespace Go.Proofs.YtdnjieffbgmagaaDoor
open Go.RowKit
/-- the terms of column i, the first k of them -/
def colS (a b : List Nat) (i : Nat) : Nat → Nat
  | 0 => 0
  | k + 1 => colS a b i k + if k ≤ i ∧ i - k < b.length then a.getD k 0 * b.getD (i - k) 0 else 0
/-- the digits so far, and what is over -/
def prodS (a b : List Nat) : Nat → List Nat × Nat
  | 0 => ([], 0)
  | i + 1 => ((prodS a b i).1 ++ [((prodS a b i).2 + colS a b i a.length) % 65536], ((prodS a b i).2 + colS a b i a.length) / 65536)
def prodL (a b : List Nat) : List Nat := (prodS a b (a.length + b.length)).1
theorem prodS_length (a b : List Nat) (i : Nat) : (prodS a b i).1.length = i := by
  induction i with
  | zero => rfl
  | succ i ih => simp [prodS, ih]
def SmallN (l : List Nat) : Prop := ∀ j, l.getD j 0 < 65536
theorem sq_le {x y : Nat} (h1 : x < 65536) (h2 : y < 65536) : x * y ≤ 4294836225 := by
  have h : x * y ≤ 65535 * 65535 := Nat.mul_le_mul (Nat.le_of_lt_succ h1) (Nat.le_of_lt_succ h2)
  exact h
theorem colS_le (a b : List Nat) (ha : SmallN a) (hb : SmallN b) (i k : Nat) : colS a b i k ≤ k * 4294836225 := by
  induction k with
  | zero => simp [colS]
  | succ k ih =>
    simp only [colS]
    have h1 := ha k
    have h2 := hb (i - k)
    have h3 : a.getD k 0 * b.getD (i - k) 0 ≤ 4294836225 := sq_le h1 h2
    have h4 : (k + 1) * 4294836225 = k * 4294836225 + 4294836225 := Nat.succ_mul _ _
    rw [h4]
    refine Nat.add_le_add ih ?_
    split
    · exact h3
    · exact Nat.zero_le _
theorem prodS_over (a b : List Nat) (ha : SmallN a) (hb : SmallN b) (hl : a.length ≤ 100) (i : Nat) : (prodS a b i).2 ≤ 6553501 := by
  induction i with
  | zero => simp [prodS]
  | succ i ih =>
    simp only [prodS]
    have h := colS_le a b ha hb i a.length
    have h2 : a.length * 4294836225 ≤ 100 * 4294836225 := Nat.mul_le_mul_right _ hl
    omega
theorem prodS_small (a b : List Nat) (i : Nat) : SmallN (prodS a b i).1 := by
  induction i with
  | zero => intro j; simp [prodS]
  | succ i ih =>
    intro j
    simp only [prodS]
    rw [List.getD_eq_getElem?_getD, List.getElem?_append]
    have := ih j
    rw [List.getD_eq_getElem?_getD] at this
    split
    · exact this
    · rcases j - (prodS a b i).1.length with _ | q
      · simp; omega
      · simp
theorem prodL_small (a b : List Nat) : SmallN (prodL a b) := prodS_small a b _
theorem prodL_length (a b : List Nat) : (prodL a b).length = a.length + b.length := prodS_length a b _

def ProdOuter (w : World) (a b : List Nat) (v o i : Value) (wr : World) : Prop :=
  ∃ k g cap : Nat, k ≤ a.length + b.length ∧ i = .int .i64 (k : Int) ∧ v = .slice (some ⟨g, 0, none⟩) k cap ∧ OwnI wr w.heap.size v (prodS a b k).1 ∧ o = .int .i64 (((prodS a b k).2 : Nat) : Int) ∧ Below w.heap.size w wr
def ProdInner (w0 : World) (a b : List Nat) (i ov : Nat) (n j : Value) (wr : World) : Prop :=
  ∃ k : Nat, k ≤ a.length ∧ j = .int .i64 (k : Int) ∧ n = .int .i64 ((ov + colS a b i k : Nat) : Int) ∧ Bel w0 wr

set_option maxRecDepth 100000 in
set_option maxHeartbeats 4000000 in
theorem product_any (va vb : Value) (a b : List Nat) (ha : SmallN a) (hb : SmallN b) (hla : a.length ≤ 100) (hlb : b.length ≤ 100) (w : World) (h0 : IntsAt w va a) (h1 : IntsAt w vb b) :
    Calls Tryd.prog 66 #[va, vb] w fun e w' => ∃ v, e = .returned v ∧ OwnI w' w.heap.size v (prodL a b) ∧ Below w.heap.size w w' := by
  obtain ⟨ga, ca, rfl, hga, hca⟩ := h0
  obtain ⟨gb, cb, rfl, hgb, hcb⟩ := h1
  have HA := Lib.hid hca; have HB := Lib.hid hcb
  clear hca hcb
  have za : (0 : Int) ≤ (a.length : Int) := by omega
  go_enter Tryd.func66, Tryd.ntmps66
  go_wp2_with fail
  go_loopw [5, 6, 7] (ProdOuter w a b) (fun _ _ i _ => a.length + b.length - (intOf i).toNat)
  case atStart => exact ⟨0, _, _, by omega, rfl, rfl, OwnI.empty w _ (Nat.le_refl _), rfl, by go_grown⟩
  case round =>
    obtain ⟨k, g, cap, hk, rfl, rfl, hI, rfl, hbl⟩ := hrel
    have hov := prodS_over a b ha hb hla k
    obtain ⟨ov, hovv⟩ : ∃ o, (prodS a b k).2 = o := ⟨_, rfl⟩
    rw [hovv] at hov
    have HI := Lib.hid hI; have HO := Lib.hid hovv
    rw [hovv]
    clear hI hovv
    have hsz := hbl.size
    by_cases hlt : k < a.length + b.length
    · have l1 : (k : Int) < (a.length : Int) + (b.length : Int) := by omega
      go_wp2_with fail
      obtain ⟨wo, rfl⟩ : ∃ wo : World, wo = wr := ⟨_, rfl⟩
      go_loopw [8, 23] (ProdInner wo a b k ov) (fun _ j _ => a.length - (intOf j).toNat)
      case atStart => exact ⟨0, by omega, rfl, rfl, Bel.refl _⟩
      case round =>
        obtain ⟨j, hj, rfl, rfl, hbel⟩ := hrel
        have hcol := colS_le a b ha hb k j
        have hcol2 : j * 4294836225 ≤ 100 * 4294836225 := Nat.mul_le_mul_right _ (by omega)
        obtain ⟨s, hs⟩ : ∃ s, ov + colS a b k j = s := ⟨_, rfl⟩
        have hs2 : s ≤ 429490176001 := by omega
        rw [hs]
        have HS := Lib.hid hs
        clear hs hcol hcol2
        by_cases hjl : j < a.length
        · have l2 : (j : Int) < (a.length : Int) := by omega
          by_cases hin : j ≤ k ∧ k - j < b.length
          · have m1 : (0 : Int) ≤ (k : Int) - (j : Int) := by omega
            have m2 : (k : Int) - (j : Int) < (b.length : Int) := by omega
            have m3 : ((k : Int) - (j : Int)).toNat = k - j := by omega
            have m4 : IntKind.i64.wrap ((k : Int) - (j : Int)) = (k : Int) - (j : Int) := IntWalk.i64_in _ (by omega)
            have q1 : decide ((0 : Int) ≤ (k : Int) - (j : Int)) = true := by simpa using m1
            have c1 : wr.cell? ⟨ga, j, none⟩ = some (.int .i64 ((a.getD j 0 : Nat) : Int)) := by
              rw [hbel.b.cell (p := ⟨ga, j, none⟩) (by show ga < _; omega), hbl.cell (p := ⟨ga, j, none⟩) hga]; exact HA.out j hjl
            have c2 : wr.cell? ⟨gb, k - j, none⟩ = some (.int .i64 ((b.getD (k - j) 0 : Nat) : Int)) := by
              rw [hbel.b.cell (p := ⟨gb, k - j, none⟩) (by show gb < _; omega), hbl.cell (p := ⟨gb, k - j, none⟩) hgb]; exact HB.out (k - j) hin.2
            have x1 := ha j
            have x2 := hb (k - j)
            obtain ⟨x, hx⟩ : ∃ x, a.getD j 0 = x := ⟨_, rfl⟩
            obtain ⟨y, hy⟩ : ∃ y, b.getD (k - j) 0 = y := ⟨_, rfl⟩
            rw [hx] at c1 x1
            rw [hy] at c2 x2
            have hxy : x * y ≤ 4294836225 := sq_le x1 x2
            obtain ⟨p, hp⟩ : ∃ p, x * y = p := ⟨_, rfl⟩
            rw [hp] at hxy
            have hp' : (x : Int) * (y : Int) = (p : Int) := by rw [← hp]; norm_cast
            have w1 : IntKind.i64.wrap ((x : Int) * (y : Int)) = (p : Int) := by rw [hp']; exact IntWalk.i64_in _ (by omega)
            have w2 : IntKind.i64.wrap ((s : Int) + (p : Int)) = ((s + p : Nat) : Int) := by rw [← Int.natCast_add]; exact IntWalk.i64_in _ (by omega)
            have HX := Lib.hid hx; have HY := Lib.hid hy; have HP := Lib.hid hp; have HIN := Lib.hid hin
            clear hx hy hp hin hp'
            go_wp2_with fail
            go_quiet (fail)
            go_wp2_with fail
            all_goals (
              refine ⟨⟨j + 1, by omega, by simp, ?_, ⟨below_drewN hbel.b _⟩⟩, by simp [intOf]; omega⟩
              have e : ov + colS a b k (j + 1) = s + p := by
                rw [colS, HX.out, HY.out, HP.out, if_pos HIN.out, ← Nat.add_assoc, HS.out]
              rw [e]
              simp)
          · by_cases hjk : j ≤ k
            · have m1 : (0 : Int) ≤ (k : Int) - (j : Int) := by omega
              have m2 : ¬ (k : Int) - (j : Int) < (b.length : Int) := by omega
              have m4 : IntKind.i64.wrap ((k : Int) - (j : Int)) = (k : Int) - (j : Int) := IntWalk.i64_in _ (by omega)
              have q1 : decide ((0 : Int) ≤ (k : Int) - (j : Int)) = true := by simpa using m1
              go_wp2_with fail
              all_goals (
                refine ⟨⟨j + 1, by omega, by simp, ?_, by first | exact hbel | exact ⟨below_drewN hbel.b _⟩⟩, by simp [intOf]; omega⟩
                have e : ov + colS a b k (j + 1) = s := by
                  rw [colS, if_neg hin, Nat.add_zero, HS.out]
                rw [e])
            · have m1 : ¬ (0 : Int) ≤ (k : Int) - (j : Int) := by omega
              have m4 : IntKind.i64.wrap ((k : Int) - (j : Int)) = (k : Int) - (j : Int) := IntWalk.i64_in _ (by omega)
              have q1 : decide ((0 : Int) ≤ (k : Int) - (j : Int)) = false := by simpa using m1
              go_wp2_with fail
              all_goals (
                refine ⟨⟨j + 1, by omega, by simp, ?_, by first | exact hbel | exact ⟨below_drewN hbel.b _⟩⟩, by simp [intOf]; omega⟩
                have e : ov + colS a b k (j + 1) = s := by
                  rw [colS, if_neg hin, Nat.add_zero, HS.out]
                rw [e])
        · have ej : j = a.length := by omega
          have l2 : ¬ (j : Int) < (a.length : Int) := by omega
          have hI' : OwnI wr w.heap.size (.slice (some ⟨g, 0, none⟩) k cap) (prodS a b k).1 := HI.out.on hbel.b
          have hB' : Below w.heap.size w wr := hbl.trans (hbel.b.mono hsz)
          have hsr := hB'.size
          have hlen : (prodS a b k).1.length = k := prodS_length a b k
          have d1 : (s : Int) % 65536 = ((s % 65536 : Nat) : Int) := by omega
          have d2 : (s : Int) / 65536 = ((s / 65536 : Nat) : Int) := by omega
          obtain ⟨y, hy⟩ : ∃ y, s % 65536 = y := ⟨_, rfl⟩
          obtain ⟨z, hz⟩ : ∃ z, s / 65536 = z := ⟨_, rfl⟩
          rw [hy] at d1; rw [hz] at d2
          have HY := Lib.hid hy; have HZ := Lib.hid hz; have HI2 := Lib.hid hI'; have HLEN := Lib.hid hlen
          clear hy hz hI' hlen
          go_wp2_with (at_builtin; refine append_i rfl _ _ rfl w.heap.size _ (prodS a b k).1 y wr.heap.size rfl ?c0 ?c1 ?c2 ?c3 ?c4 ?_)
          case c0 => exact OwnI.alloc HI2.out _
          case c3 => rw [HLEN.out]; omega
          case c4 => first | omega | (simp; omega)
          intro g' cap' w' hI3 hg'
          have hB2 := HI2.out.below hB' hsr hg'
          rw [HLEN.out] at hI3 ⊢
          have HI3 := Lib.hid hI3
          clear hI3 hg' hB'
          go_wp2_with fail
          all_goals (
            have e1 : (prodS a b (k + 1)).1 = (prodS a b k).1 ++ [y] := by
              rw [prodS, HO.out, ← ej, HS.out, HY.out]
            have e2 : (prodS a b (k + 1)).2 = z := by
              rw [prodS, HO.out, ← ej, HS.out, HZ.out]
            refine ⟨⟨k + 1, g', cap', by omega, by simp, rfl, ?_, by rw [e2], hB2⟩, by simp [intOf]; omega⟩
            rw [e1]
            exact HI3.out)
    · have l1 : ¬ (k : Int) < (a.length : Int) + (b.length : Int) := by omega
      have ek : k = a.length + b.length := by omega
      go_wp2_with fail
      go_ret
      refine ⟨_, rfl, ?_, hbl⟩
      rw [prodL, ← ek]
      exact HI.out
end Go.Proofs.YtdnjieffbgmagaaDoor
