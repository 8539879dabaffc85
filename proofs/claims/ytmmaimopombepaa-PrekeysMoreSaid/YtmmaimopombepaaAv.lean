/- slices.choosePivotOrdered at fewer than fifty numbers: some place. -/
import Derived.Test.YtmmaimopombepaaAu
namespace Go.Proofs.Ytmmaimopombepaa
open Go.RowKit
set_option maxRecDepth 100000
/-- a box that holds an int -/
def BoxI (w : World) (b : Nat) (x : Nat) : Prop := w.heap[b]? = some (.cells #[.int .i64 (x : Int)] 3 (0, 0))
theorem BoxI.lt {w : World} {b x : Nat} (h : BoxI w b x) : b < w.heap.size := (Array.getElem?_eq_some_iff.1 h).1
theorem BoxI.cell {w : World} {b x : Nat} (h : BoxI w b x) : w.cell? ⟨b, 0, none⟩ = some (.int .i64 (x : Int)) := by rw [cell_of_row w b 0 _ _ _ h]; rfl
theorem BoxI.frozen {w : World} {b x : Nat} (h : BoxI w b x) : w.frozen? ⟨b, 0, none⟩ = false := frozen_of_row w b 0 _ _ h
theorem BoxI.put {w : World} {b x : Nat} (h : BoxI w b x) (y : Nat) : BoxI (w.setCell ⟨b, 0, none⟩ (.int .i64 (y : Int))) b y := by
  unfold BoxI
  rw [heap_setCell_same w b 0 _ _ _ h]
  rfl
/-- the row and the box, under way -/
structure RB (w0 w : World) (blk off B : Nat) (d : Array Nat) (s : Nat) : Prop where
  row : RowU w blk off d
  box : BoxI w B s
  oth : w0.os = w.os ∧ w0.tape = w.tape ∧ w0.output = w.output
  size : w0.heap.size ≤ w.heap.size
  block : ∀ k, k < w0.heap.size → k ≠ B → w.heap[k]? = w0.heap[k]?
theorem RB.refl {w : World} {blk off B s : Nat} {d : Array Nat} (h : RowU w blk off d) (b : BoxI w B s) : RB w w blk off B d s := ⟨h, b, ⟨rfl, rfl, rfl⟩, Nat.le_refl _, fun _ _ _ => rfl⟩
theorem RB.trans {w0 w w' : World} {blk off B s t : Nat} {d : Array Nat} (h : RB w0 w blk off B d s) (k : RB w w' blk off B d t) : RB w0 w' blk off B d t :=
  ⟨k.row, k.box, ⟨h.oth.1.trans k.oth.1, h.oth.2.1.trans k.oth.2.1, h.oth.2.2.trans k.oth.2.2⟩, Nat.le_trans h.size k.size, fun i h1 h2 => by have := h.size; rw [k.block i (by omega) h2, h.block i h1 h2]⟩
theorem RB.drewN {w0 w : World} {blk off B s : Nat} {d : Array Nat} (h : RB w0 w blk off B d s) (q : Nat) : RB w0 (w.drewN q) blk off B d s := ⟨h.row.via rfl, h.box, h.oth, h.size, h.block⟩
theorem RB.put {w0 w : World} {blk off B s : Nat} {d : Array Nat} (h : RB w0 w blk off B d s) (hne : B ≠ blk) (t : Nat) : RB w0 (w.setCell ⟨B, 0, none⟩ (.int .i64 (t : Int))) blk off B d t :=
  ⟨h.row.via (heap_setCell_other w ⟨B, 0, none⟩ blk _ (fun e => hne e.symm)), h.box.put t, h.oth, by rw [World.size_setCell]; exact h.size, fun k h1 h2 => by rw [heap_setCell_other w ⟨B, 0, none⟩ k _ h2]; exact h.block k h1 h2⟩
theorem RB.sr {w0 w1 w : World} {blk off B s : Nat} {d : Array Nat} (h : RB w1 w blk off B d s) (g : SR w0 w1 blk off d) (hB : w0.heap.size ≤ B) : SR w0 w blk off d :=
  ⟨⟨h.oth.1.symm.trans g.gr.os, h.oth.2.1.symm.trans g.gr.tape, h.oth.2.2.symm.trans g.gr.output, Nat.le_trans g.gr.size h.size, fun k hk hk2 => by have := g.gr.size; rw [h.block k (by omega) (by omega)]; exact g.gr.block k hk hk2⟩, h.row⟩
set_option maxHeartbeats 4000000 in
theorem order2_any (blk off c x y n B s : Nat) (d : Array Nat) (hn : d.size = n) (hx : x < n) (hy : y < n) (_hs : n ≤ 1000) (hne : B ≠ blk) (hs2 : s ≤ 100) (w : World) (h : RowU w blk off d) (hb : BoxI w B s) :
    Calls Try.prog 139 #[.slice (some ⟨blk, off, none⟩) n c, .int .i64 (x : Int), .int .i64 (y : Int), .pointer (some ⟨B, 0, none⟩)] w fun e w' => ∃ x' y' s' : Nat, (x' = x ∧ y' = y ∨ x' = y ∧ y' = x) ∧ s' ≤ s + 1 ∧ e = .returned (.tuple #[.int .i64 (x' : Int), .int .i64 (y' : Int)]) ∧ RB w w' blk off B d s' := by
  obtain ⟨G, hG, hcw, hfw⟩ := h.fam n hn
  have R0 := Lib.hid (RB.refl h hb)
  have hc := hb.cell
  have hf := hb.frozen
  have q1 : (s : Int) ≤ 100 := by omega
  clear h hb hG
  go_enter Try.func139, Try.ntmps139
  go_wp2_with fail
  go_quiet (first | (go_at_call 127; refine Calls.quiet_of_same (less_u _ _ _)))
  go_wp2_with fail
  · refine bodyPost_ret (v := .tuple #[.int .i64 (y : Int), .int .i64 (x : Int)]) (by simp [results, Try.results139, go_sem]) rfl ?_
    exact ⟨y, x, s + 1, Or.inr ⟨rfl, rfl⟩, Nat.le_refl _, rfl, (R0.out.drewN nq).put hne (s + 1)⟩
  · refine bodyPost_ret (v := .tuple #[.int .i64 (x : Int), .int .i64 (y : Int)]) (by simp [results, Try.results139, go_sem]) rfl ?_
    exact ⟨x, y, s, Or.inl ⟨rfl, rfl⟩, Nat.le_succ _, rfl, R0.out.drewN nq⟩
set_option maxHeartbeats 4000000 in
theorem median_any (blk off c x y z n B s : Nat) (d : Array Nat) (hn : d.size = n) (hx : x < n) (hy : y < n) (hz : z < n) (hs : n ≤ 1000) (hne : B ≠ blk) (hs2 : s ≤ 90) (w : World) (h : RowU w blk off d) (hb : BoxI w B s) :
    Calls Try.prog 138 #[.slice (some ⟨blk, off, none⟩) n c, .int .i64 (x : Int), .int .i64 (y : Int), .int .i64 (z : Int), .pointer (some ⟨B, 0, none⟩)] w fun e w' => ∃ m s' : Nat, (m = x ∨ m = y ∨ m = z) ∧ s' ≤ s + 3 ∧ e = .returned (.int .i64 (m : Int)) ∧ RB w w' blk off B d s' := by
  have O1 := Lib.hid (order2_any blk off c x y n B s d hn hx hy hs hne (by omega) w h hb)
  have HO := Lib.hid (fun x y s hx hy hs2 W h hb => order2_any blk off c x y n B s d hn hx hy hs hne hs2 W h hb)
  clear h hb
  go_enter Try.func138, Try.ntmps138
  go_upto_region 2 with (go_at_call 139; refine O1.out.mono ?_; rintro e w1 ⟨x1, y1, s1, h1, k1, rfl, r1⟩)
  have R1 := Lib.hid r1
  clear r1
  go_upto_region 3 with (go_at_call 139; refine (HO.out y1 z s1 (by omega) (by omega) (by omega) _ R1.out.row R1.out.box).mono ?_; rintro e w2 ⟨x2, y2, s2, h2, k2, rfl, r2⟩)
  have R2 := Lib.hid r2
  clear r2
  go_wp2_with (go_at_call 139; refine (HO.out x1 x2 s2 (by omega) (by omega) (by omega) _ R2.out.row R2.out.box).mono ?_; rintro e w3 ⟨x3, y3, s3, h3, k3, rfl, r3⟩)
  go_ret
  exact ⟨y3, s3, by omega, by omega, rfl, (R1.out.trans R2.out).trans r3⟩
set_option maxHeartbeats 8000000 in
theorem pivot_any (blk off c a b n : Nat) (d : Array Nat) (hn : d.size = n) (hab : a + 12 < b) (hb : b ≤ n) (hs : n < 50) (w : World) (h : RowU w blk off d) :
    Calls Try.prog 124 #[.slice (some ⟨blk, off, none⟩) n c, .int .i64 (a : Int), .int .i64 (b : Int)] w fun e w' => ∃ m t : Nat, a ≤ m ∧ m < b ∧ (t = 0 ∨ t = 1) ∧ e = .returned (.tuple #[.int .i64 (m : Int), .int .i64 (t : Int)]) ∧ SR w w' blk off d := by
  obtain ⟨L, eL⟩ : ∃ L : Nat, (b : Int) - (a : Int) = (L : Int) := ⟨b - a, by omega⟩
  obtain ⟨q, eq⟩ : ∃ q : Nat, (L : Int).tdiv 4 = (q : Int) := ⟨L / 4, by rw [Int.tdiv_eq_ediv_of_nonneg (by omega)]; omega⟩
  have hq : 4 * q ≤ L ∧ L < 4 * q + 4 := by rw [Int.tdiv_eq_ediv_of_nonneg (by omega)] at eq; omega
  obtain ⟨i, ei⟩ : ∃ i : Nat, (a : Int) + (q : Int) = (i : Int) := ⟨a + q, by omega⟩
  obtain ⟨j, ej⟩ : ∃ j : Nat, (a : Int) + (q : Int) * 2 = (j : Int) := ⟨a + q * 2, by omega⟩
  obtain ⟨k, ek⟩ : ∃ k : Nat, (a : Int) + (q : Int) * 3 = (k : Int) := ⟨a + q * 3, by omega⟩
  have hlt := h.lt
  have hL1 : 8 ≤ (L : Int) := by omega
  have hL2 : (L : Int) < 50 := by omega
  have hL3 : ¬ (50 : Int) ≤ (L : Int) := by omega
  have q1 : (a : Int) ≤ 50 := by omega
  have q2 : (b : Int) ≤ 50 := by omega
  have q4 : (q : Int) ≤ 50 := by omega
  have S0 : SR w (w.alloc (.cells #[.int .i64 0] 3)) blk off d := (SR.refl h).alloc _
  have B0 : BoxI (w.alloc (.cells #[.int .i64 0] 3)) w.heap.size 0 := heap_alloc_new w _
  obtain ⟨W0, eW⟩ : ∃ W0, w.alloc (.cells #[.int .i64 0] 3) = W0 := ⟨_, rfl⟩
  rw [eW] at S0 B0
  obtain ⟨B, eB⟩ : ∃ B, w.heap.size = B := ⟨_, rfl⟩
  rw [eB] at B0
  have hne : B ≠ blk := by omega
  have O1 := Lib.hid (median_any blk off c i j k n B 0 d hn (by omega) (by omega) (by omega) (by omega) hne (by omega) W0 S0.row B0)
  have HS := Lib.hid S0
  clear h hn S0 B0
  go_enter Try.func124, Try.ntmps124
  go_upto_region 12 with (go_at_call 138; refine O1.out.mono ?_; rintro e w1 ⟨m, s1, h1, k1, rfl, r1⟩)
  have hc := r1.box.cell
  have hm : a ≤ m ∧ m < b := by omega
  have HR := Lib.hid (r1.sr HS.out (by omega))
  have hs1 : s1 = 0 ∨ 0 < s1 ∧ s1 ≤ 3 := by omega
  clear r1 h1 k1
  rcases hs1 with rfl | ⟨g1, g2⟩
  · go_wp2_with fail
    refine bodyPost_ret (v := .tuple #[.int .i64 (m : Int), .int .i64 1]) (by simp [results, Try.results124, go_sem]) rfl ?_
    exact ⟨m, 1, hm.1, hm.2, Or.inr rfl, rfl, HR.out⟩
  · have e1 : ((s1 : Int) == 0) = false := by simp; omega
    have e2 : ((s1 : Int) == 12) = false := by simp; omega
    go_wp2_with fail
    refine bodyPost_ret (v := .tuple #[.int .i64 (m : Int), .int .i64 0]) (by simp [results, Try.results124, go_sem]) rfl ?_
    exact ⟨m, 0, hm.1, hm.2, Or.inl rfl, rfl, HR.out⟩
end Go.Proofs.Ytmmaimopombepaa