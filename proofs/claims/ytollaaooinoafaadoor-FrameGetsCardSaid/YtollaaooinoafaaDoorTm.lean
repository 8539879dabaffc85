/- The reference's frame of parts. -/
import Derived.Test.YtollaaooinoafaaDoorTl
namespace Go.Proofs.YtollaaooinoafaaDoor
open Go.RowKit Go.Sort
set_option maxRecDepth 100000
theorem bel_4 {w0 w : World} {p0 p1 p2 p3 : Addr} {v0 v1 v2 v3 : Value} (h : w0.cell? p0 = some v0 ∧ w0.cell? p1 = some v1 ∧ w0.cell? p2 = some v2 ∧ w0.cell? p3 = some v3) (hb : Bel w0 w) :
    (w.cell? p0 = some v0 ∧ w.cell? p1 = some v1 ∧ w.cell? p2 = some v2 ∧ w.cell? p3 = some v3) ∧ Bel w0 w := by
  have f : ∀ p v, w0.cell? p = some v → w.cell? p = some v := fun p v h => by rw [hb.b.cell (World.block_lt_of_cell? w0 _ h)]; exact h
  obtain ⟨h0, h1, h2, h3⟩ := h
  exact ⟨⟨f _ _ h0, f _ _ h1, f _ _ h2, f _ _ h3⟩, hb⟩
theorem psl_n {w : World} {b off : Nat} {l : List Pt} (h : ∀ i, i < l.length → PtAt w b (off + i * 3) (l.getD i p0)) (i : Nat) (hi : i < l.length) : w.cell? ⟨b, off + i * 3 + 1, none⟩ = some (.int .u64 (gN l i : Int)) := (h i hi).c1
theorem psl_s {w : World} {b off : Nat} {l : List Pt} (h : ∀ i, i < l.length → PtAt w b (off + i * 3) (l.getD i p0)) (i : Nat) (hi : i < l.length) : w.cell? ⟨b, off + i * 3 + 2, none⟩ = some (.string (gS l i)) := (h i hi).c2
set_option maxHeartbeats 4000000 in
theorem r8helloA_any (a : Option Addr) (c : Nat) (l : List Pt) (hl : l.length = 12) (h0 : gN l 0 = 0) (w : World) (hp : PSl w a l) :
    Calls Tryd.prog 32 #[.slice a l.length c] w fun e w' => e = .returned (frV (helloA l) none 0) ∧ Below w.heap.size w w' := by
  obtain ⟨b, off, rfl, hlt, hc⟩ := hp (by omega)
  rw [hl]
  have q0 := psl_n hc 0 (by omega)
  have q1 := psl_n hc 1 (by omega)
  have q2 := psl_n hc 2 (by omega)
  have q3 := psl_n hc 3 (by omega)
  have q4 := psl_s hc 4 (by omega)
  have q5 := psl_s hc 5 (by omega)
  have q6 := psl_n hc 6 (by omega)
  have q7 := psl_n hc 7 (by omega)
  have q8 := psl_s hc 8 (by omega)
  have q9 := psl_n hc 9 (by omega)
  have q10 := psl_n hc 10 (by omega)
  have q11 := psl_s hc 11 (by omega)
  rw [h0] at q0
  obtain ⟨x1, e1⟩ : ∃ x, gN l 1 = x := ⟨_, rfl⟩
  rw [e1] at q1
  obtain ⟨x2, e2⟩ : ∃ x, gN l 2 = x := ⟨_, rfl⟩
  rw [e2] at q2
  obtain ⟨x3, e3⟩ : ∃ x, gN l 3 = x := ⟨_, rfl⟩
  rw [e3] at q3
  obtain ⟨x4, e4⟩ : ∃ x, gS l 4 = x := ⟨_, rfl⟩
  rw [e4] at q4
  obtain ⟨x5, e5⟩ : ∃ x, gS l 5 = x := ⟨_, rfl⟩
  rw [e5] at q5
  obtain ⟨x6, e6⟩ : ∃ x, gN l 6 = x := ⟨_, rfl⟩
  rw [e6] at q6
  obtain ⟨x7, e7⟩ : ∃ x, gN l 7 = x := ⟨_, rfl⟩
  rw [e7] at q7
  obtain ⟨x8, e8⟩ : ∃ x, gS l 8 = x := ⟨_, rfl⟩
  rw [e8] at q8
  obtain ⟨x9, e9⟩ : ∃ x, gN l 9 = x := ⟨_, rfl⟩
  rw [e9] at q9
  obtain ⟨x10, e10⟩ : ∃ x, gN l 10 = x := ⟨_, rfl⟩
  rw [e10] at q10
  obtain ⟨x11, e11⟩ : ∃ x, gS l 11 = x := ⟨_, rfl⟩
  rw [e11] at q11
  have hE : helloA l = ⟨0, x1, x2, x3, x4, x5, x6, x7, x8, x9, x10, x11, []⟩ := by unfold helloA; rw [e1, e2, e3, e4, e5, e6, e7, e8, e9, e10, e11]
  rw [hE]
  simp only [Nat.zero_mul, Nat.add_zero, Nat.one_mul, Nat.reduceMul, Nat.add_assoc, Nat.reduceAdd] at q0 q1 q2 q3 q4 q5 q6 q7 q8 q9 q10 q11
  have HQ := Lib.hid ((And.intro q0 (And.intro q1 (And.intro q2 (And.intro q3 (And.intro q4 (And.intro q5 (And.intro q6 (And.intro q7 (And.intro q8 (And.intro q9 (And.intro q10 q11))))))))))))
  clear hc hE e1 e2 e3 e4 e5 e6 e7 e8 e9 e10 e11 hl h0 q0 q1 q2 q3 q4 q5 q6 q7 q8 q9 q10 q11 hp
  have hB0 : Below w.heap.size w (w.alloc (.cells zeroL.toArray 25)) := (Below.refl _ _).alloc (Nat.le_refl _) _
  have hR0 : BlkV (w.alloc (.cells zeroL.toArray 25)) w.heap.size 25 zeroL := BlkV.fresh _ _ _ _ rfl _ rfl
  obtain ⟨W0, eW0⟩ : ∃ W0, w.alloc (.cells zeroL.toArray 25) = W0 := ⟨_, rfl⟩
  obtain ⟨RB, eRB⟩ : ∃ RB, w.heap.size = RB := ⟨_, rfl⟩
  rw [eW0] at hB0 hR0
  rw [eRB] at hR0
  have HEW := Lib.hid eW0; have HB0 := Lib.hid hB0; have HR0 := Lib.hid hR0; have HRB := Lib.hid eRB
  clear eW0 hB0 hR0 eRB hlt
  go_enter Tryd.func32, Tryd.ntmps32
  go_upto_region 1 with fail
  change Code.wp Tryd.prog _ _ _ (w.alloc (.cells zeroL.toArray 25))
  rw [HEW.out, HRB.out]
  clear HEW
  obtain ⟨q0, q1, q2, q3, q4, q5, q6, q7, q8, q9, q10, q11⟩ := HQ.out
  have d0 := (HB0.out.cell (World.block_lt_of_cell? w _ q0)).trans q0
  have d1 := (HB0.out.cell (World.block_lt_of_cell? w _ q1)).trans q1
  have d2 := (HB0.out.cell (World.block_lt_of_cell? w _ q2)).trans q2
  have d3 := (HB0.out.cell (World.block_lt_of_cell? w _ q3)).trans q3
  clear q0 q1 q2 q3 q4 q5 q6 q7 q8 q9 q10 q11
  have hc4 := And.intro d0 (And.intro d1 (And.intro d2 d3))
  have hb0 := Bel.refl W0
  clear d0 d1 d2 d3
  go_region_held3 (fun w' => (w'.cell? ⟨b, off + 1, none⟩ = some (.int .u64 0) ∧ w'.cell? ⟨b, off + 4, none⟩ = some (.int .u64 (x1 : Int)) ∧ w'.cell? ⟨b, off + 7, none⟩ = some (.int .u64 (x2 : Int)) ∧ w'.cell? ⟨b, off + 10, none⟩ = some (.int .u64 (x3 : Int))) ∧ Bel W0 w')
    ((refine bel_4 hc4 ?_; first | with_reducible assumption | exact And.right (by with_reducible assumption) | ((with_reducible refine Bel.drew ?_); with_reducible assumption) | ((with_reducible refine Bel.alloc ?_ _); with_reducible assumption) | ((with_reducible refine Bel.alloc ?_ _); exact And.right (by with_reducible assumption)) | ((with_reducible refine Bel.drew ?_); (with_reducible refine Bel.alloc ?_ _); with_reducible assumption)))
    (fail)
  rename_i hHeld
  clear hHeld hc4 hb0
  rw [show IntKind.i64.wrap 0 = 0 from rfl]
  have hD : BlkV ((W0.alloc (.cells #[.int .i64 0, .int .u64 (x1 : Int), .int .u64 (x2 : Int), .int .u64 (x3 : Int), .string ⟨#[]⟩, .string ⟨#[]⟩, .int .u64 0, .int .u64 0, .string ⟨#[]⟩, .int .u64 0, .int .u64 0, .string ⟨#[]⟩, .slice none 0 0] 25)).drew) W0.heap.size 25 [.int .i64 0, .int .u64 (x1 : Int), .int .u64 (x2 : Int), .int .u64 (x3 : Int), .string ⟨#[]⟩, .string ⟨#[]⟩, .int .u64 0, .int .u64 0, .string ⟨#[]⟩, .int .u64 0, .int .u64 0, .string ⟨#[]⟩, .slice none 0 0] := BlkV.fresh W0 _ _ _ rfl _ rfl
  have hB : Below w.heap.size w ((W0.alloc (.cells #[.int .i64 0, .int .u64 (x1 : Int), .int .u64 (x2 : Int), .int .u64 (x3 : Int), .string ⟨#[]⟩, .string ⟨#[]⟩, .int .u64 0, .int .u64 0, .string ⟨#[]⟩, .int .u64 0, .int .u64 0, .string ⟨#[]⟩, .slice none 0 0] 25)).drew) := (HB0.out.alloc HB0.out.size _).drew
  have hR : BlkV ((W0.alloc (.cells #[.int .i64 0, .int .u64 (x1 : Int), .int .u64 (x2 : Int), .int .u64 (x3 : Int), .string ⟨#[]⟩, .string ⟨#[]⟩, .int .u64 0, .int .u64 0, .string ⟨#[]⟩, .int .u64 0, .int .u64 0, .string ⟨#[]⟩, .slice none 0 0] 25)).drew) RB 25 zeroL := HR0.out.alloc _
  have hlt := HR0.out.lt
  generalize (World.drew _) = V0 at hD hB hR ⊢
  generalize W0.heap.size = D at hD hlt ⊢
  have HD := Lib.hid hD; have HB := Lib.hid hB; have HR := Lib.hid hR; have HLT := Lib.hid (And.intro hlt (show w.heap.size ≤ D by have := HRB.out; omega))
  clear hD hB hR hlt HB0 HR0
  rename_i K hK
  refine hK _ _ ?_
  clear hK K
  have c0 := HD.out.cell 0 _ rfl
  go_upto_region 4 with fail
  clear c0
  obtain ⟨q0, q1, q2, q3, q4, q5, q6, q7, q8, q9, q10, q11⟩ := HQ.out
  have c0 := (HB.out.cell (World.block_lt_of_cell? w _ q4)).trans q4
  clear q0 q1 q2 q3 q4 q5 q6 q7 q8 q9 q10 q11
  have c1 := HD.out.cell 4 _ rfl
  have c2 := HD.out.frozen 4
  go_upto_region 5 with fail
  clear c0 c1 c2
  have hD : BlkV (World.setCell V0 ⟨D, 4, none⟩ (.string x4)) D 25 [.int .i64 0, .int .u64 (x1 : Int), .int .u64 (x2 : Int), .int .u64 (x3 : Int), .string x4, .string ⟨#[]⟩, .int .u64 0, .int .u64 0, .string ⟨#[]⟩, .int .u64 0, .int .u64 0, .string ⟨#[]⟩, .slice none 0 0] := HD.out.set 4 _
  have hB := HB.out.setCell (p := ⟨D, 4, none⟩) HLT.out.2 (.string x4)
  have hR := HR.out.far ⟨D, 4, none⟩ (Nat.ne_of_lt HLT.out.1) (.string x4)
  generalize World.setCell V0 _ _ = V1 at hD hB hR ⊢
  clear HD HB HR
  have HD := Lib.hid hD; have HB := Lib.hid hB; have HR := Lib.hid hR
  clear hD hB hR
  obtain ⟨q0, q1, q2, q3, q4, q5, q6, q7, q8, q9, q10, q11⟩ := HQ.out
  have c0 := (HB.out.cell (World.block_lt_of_cell? w _ q5)).trans q5
  clear q0 q1 q2 q3 q4 q5 q6 q7 q8 q9 q10 q11
  have c1 := HD.out.cell 5 _ rfl
  have c2 := HD.out.frozen 5
  go_upto_region 6 with fail
  clear c0 c1 c2
  have hD : BlkV (World.setCell V1 ⟨D, 5, none⟩ (.string x5)) D 25 [.int .i64 0, .int .u64 (x1 : Int), .int .u64 (x2 : Int), .int .u64 (x3 : Int), .string x4, .string x5, .int .u64 0, .int .u64 0, .string ⟨#[]⟩, .int .u64 0, .int .u64 0, .string ⟨#[]⟩, .slice none 0 0] := HD.out.set 5 _
  have hB := HB.out.setCell (p := ⟨D, 5, none⟩) HLT.out.2 (.string x5)
  have hR := HR.out.far ⟨D, 5, none⟩ (Nat.ne_of_lt HLT.out.1) (.string x5)
  generalize World.setCell V1 _ _ = V2 at hD hB hR ⊢
  clear HD HB HR
  have HD := Lib.hid hD; have HB := Lib.hid hB; have HR := Lib.hid hR
  clear hD hB hR
  obtain ⟨q0, q1, q2, q3, q4, q5, q6, q7, q8, q9, q10, q11⟩ := HQ.out
  have c0 := (HB.out.cell (World.block_lt_of_cell? w _ q6)).trans q6
  clear q0 q1 q2 q3 q4 q5 q6 q7 q8 q9 q10 q11
  have c1 := HD.out.cell 6 _ rfl
  have c2 := HD.out.frozen 6
  go_upto_region 7 with fail
  clear c0 c1 c2
  have hD : BlkV (World.setCell V2 ⟨D, 6, none⟩ (.int .u64 (x6 : Int))) D 25 [.int .i64 0, .int .u64 (x1 : Int), .int .u64 (x2 : Int), .int .u64 (x3 : Int), .string x4, .string x5, .int .u64 (x6 : Int), .int .u64 0, .string ⟨#[]⟩, .int .u64 0, .int .u64 0, .string ⟨#[]⟩, .slice none 0 0] := HD.out.set 6 _
  have hB := HB.out.setCell (p := ⟨D, 6, none⟩) HLT.out.2 (.int .u64 (x6 : Int))
  have hR := HR.out.far ⟨D, 6, none⟩ (Nat.ne_of_lt HLT.out.1) (.int .u64 (x6 : Int))
  generalize World.setCell V2 _ _ = V3 at hD hB hR ⊢
  clear HD HB HR
  have HD := Lib.hid hD; have HB := Lib.hid hB; have HR := Lib.hid hR
  clear hD hB hR
  obtain ⟨q0, q1, q2, q3, q4, q5, q6, q7, q8, q9, q10, q11⟩ := HQ.out
  have c0 := (HB.out.cell (World.block_lt_of_cell? w _ q7)).trans q7
  clear q0 q1 q2 q3 q4 q5 q6 q7 q8 q9 q10 q11
  have c1 := HD.out.cell 7 _ rfl
  have c2 := HD.out.frozen 7
  go_upto_region 9 with fail
  clear c0 c1 c2
  have hD : BlkV (World.setCell V3 ⟨D, 7, none⟩ (.int .u64 (x7 : Int))) D 25 [.int .i64 0, .int .u64 (x1 : Int), .int .u64 (x2 : Int), .int .u64 (x3 : Int), .string x4, .string x5, .int .u64 (x6 : Int), .int .u64 (x7 : Int), .string ⟨#[]⟩, .int .u64 0, .int .u64 0, .string ⟨#[]⟩, .slice none 0 0] := HD.out.set 7 _
  have hB := HB.out.setCell (p := ⟨D, 7, none⟩) HLT.out.2 (.int .u64 (x7 : Int))
  have hR := HR.out.far ⟨D, 7, none⟩ (Nat.ne_of_lt HLT.out.1) (.int .u64 (x7 : Int))
  generalize World.setCell V3 _ _ = V4 at hD hB hR ⊢
  clear HD HB HR
  have HD := Lib.hid hD; have HB := Lib.hid hB; have HR := Lib.hid hR
  clear hD hB hR
  obtain ⟨q0, q1, q2, q3, q4, q5, q6, q7, q8, q9, q10, q11⟩ := HQ.out
  have c0 := (HB.out.cell (World.block_lt_of_cell? w _ q8)).trans q8
  clear q0 q1 q2 q3 q4 q5 q6 q7 q8 q9 q10 q11
  have c1 := HD.out.cell 8 _ rfl
  have c2 := HD.out.frozen 8
  go_upto_region 10 with fail
  clear c0 c1 c2
  have hD : BlkV (World.setCell V4 ⟨D, 8, none⟩ (.string x8)) D 25 [.int .i64 0, .int .u64 (x1 : Int), .int .u64 (x2 : Int), .int .u64 (x3 : Int), .string x4, .string x5, .int .u64 (x6 : Int), .int .u64 (x7 : Int), .string x8, .int .u64 0, .int .u64 0, .string ⟨#[]⟩, .slice none 0 0] := HD.out.set 8 _
  have hB := HB.out.setCell (p := ⟨D, 8, none⟩) HLT.out.2 (.string x8)
  have hR := HR.out.far ⟨D, 8, none⟩ (Nat.ne_of_lt HLT.out.1) (.string x8)
  generalize World.setCell V4 _ _ = V5 at hD hB hR ⊢
  clear HD HB HR
  have HD := Lib.hid hD; have HB := Lib.hid hB; have HR := Lib.hid hR
  clear hD hB hR
  obtain ⟨q0, q1, q2, q3, q4, q5, q6, q7, q8, q9, q10, q11⟩ := HQ.out
  have c0 := (HB.out.cell (World.block_lt_of_cell? w _ q9)).trans q9
  clear q0 q1 q2 q3 q4 q5 q6 q7 q8 q9 q10 q11
  have c1 := HD.out.cell 9 _ rfl
  have c2 := HD.out.frozen 9
  go_upto_region 11 with fail
  clear c0 c1 c2
  have hD : BlkV (World.setCell V5 ⟨D, 9, none⟩ (.int .u64 (x9 : Int))) D 25 [.int .i64 0, .int .u64 (x1 : Int), .int .u64 (x2 : Int), .int .u64 (x3 : Int), .string x4, .string x5, .int .u64 (x6 : Int), .int .u64 (x7 : Int), .string x8, .int .u64 (x9 : Int), .int .u64 0, .string ⟨#[]⟩, .slice none 0 0] := HD.out.set 9 _
  have hB := HB.out.setCell (p := ⟨D, 9, none⟩) HLT.out.2 (.int .u64 (x9 : Int))
  have hR := HR.out.far ⟨D, 9, none⟩ (Nat.ne_of_lt HLT.out.1) (.int .u64 (x9 : Int))
  generalize World.setCell V5 _ _ = V6 at hD hB hR ⊢
  clear HD HB HR
  have HD := Lib.hid hD; have HB := Lib.hid hB; have HR := Lib.hid hR
  clear hD hB hR
  obtain ⟨q0, q1, q2, q3, q4, q5, q6, q7, q8, q9, q10, q11⟩ := HQ.out
  have c0 := (HB.out.cell (World.block_lt_of_cell? w _ q10)).trans q10
  clear q0 q1 q2 q3 q4 q5 q6 q7 q8 q9 q10 q11
  have c1 := HD.out.cell 10 _ rfl
  have c2 := HD.out.frozen 10
  go_upto_region 12 with fail
  clear c0 c1 c2
  have hD : BlkV (World.setCell V6 ⟨D, 10, none⟩ (.int .u64 (x10 : Int))) D 25 [.int .i64 0, .int .u64 (x1 : Int), .int .u64 (x2 : Int), .int .u64 (x3 : Int), .string x4, .string x5, .int .u64 (x6 : Int), .int .u64 (x7 : Int), .string x8, .int .u64 (x9 : Int), .int .u64 (x10 : Int), .string ⟨#[]⟩, .slice none 0 0] := HD.out.set 10 _
  have hB := HB.out.setCell (p := ⟨D, 10, none⟩) HLT.out.2 (.int .u64 (x10 : Int))
  have hR := HR.out.far ⟨D, 10, none⟩ (Nat.ne_of_lt HLT.out.1) (.int .u64 (x10 : Int))
  generalize World.setCell V6 _ _ = V7 at hD hB hR ⊢
  clear HD HB HR
  have HD := Lib.hid hD; have HB := Lib.hid hB; have HR := Lib.hid hR
  clear hD hB hR
  obtain ⟨q0, q1, q2, q3, q4, q5, q6, q7, q8, q9, q10, q11⟩ := HQ.out
  have c0 := (HB.out.cell (World.block_lt_of_cell? w _ q11)).trans q11
  clear q0 q1 q2 q3 q4 q5 q6 q7 q8 q9 q10 q11
  have c1 := HD.out.cell 11 _ rfl
  have c2 := HD.out.frozen 11
  go_upto_region 13 with fail
  clear c0 c1 c2
  have hD : BlkV (World.setCell V7 ⟨D, 11, none⟩ (.string x11)) D 25 [.int .i64 0, .int .u64 (x1 : Int), .int .u64 (x2 : Int), .int .u64 (x3 : Int), .string x4, .string x5, .int .u64 (x6 : Int), .int .u64 (x7 : Int), .string x8, .int .u64 (x9 : Int), .int .u64 (x10 : Int), .string x11, .slice none 0 0] := HD.out.set 11 _
  have hB := HB.out.setCell (p := ⟨D, 11, none⟩) HLT.out.2 (.string x11)
  have hR := HR.out.far ⟨D, 11, none⟩ (Nat.ne_of_lt HLT.out.1) (.string x11)
  generalize World.setCell V7 _ _ = V8 at hD hB hR ⊢
  clear HD HB HR
  have HD := Lib.hid hD; have HB := Lib.hid hB; have HR := Lib.hid hR
  clear hD hB hR
  have HD2 : Hid (BlkV V8 D 25 (frL ⟨0, x1, x2, x3, x4, x5, x6, x7, x8, x9, x10, x11, []⟩ none 0)) := HD
  refine wp_region_lit ?_
  refine load_v rfl _ _ rfl D rfl HD2.out Tryd.underlying25 rfl (by kernel_rfl) ?_
  refine store_v rfl rfl _ _ _ rfl RB rfl (l' := frL ⟨0, x1, x2, x3, x4, x5, x6, x7, x8, x9, x10, x11, []⟩ none 0) rfl HR.out rfl (frL_one _ none 0) (by kernel_rfl) ?_
  have hS3 := HR.out.stored (frL ⟨0, x1, x2, x3, x4, x5, x6, x7, x8, x9, x10, x11, []⟩ none 0) rfl
  have hBF := below_setCells (show w.heap.size ≤ RB by rw [HRB.out]; exact Nat.le_refl _) (frL ⟨0, x1, x2, x3, x4, x5, x6, x7, x8, x9, x10, x11, []⟩ none 0) 0 _ HB.out
  generalize World.setCells V8 _ _ _ = W at hS3 hBF ⊢
  have HS3 := Lib.hid hS3; have HBF := Lib.hid hBF
  clear hS3 hBF HR HB HD HD2
  go_wp2_with fail
  exact bodyPost_ret (results_v (p := 2) (T := 25) (by kernel_rfl) _ _ RB rfl HS3.out Tryd.underlying25 rfl (by kernel_rfl)) rfl ⟨rfl, HBF.out⟩
set_option maxHeartbeats 4000000 in
theorem r8helloB_any (a : Option Addr) (c : Nat) (l : List Pt) (hl : l.length = 8) (h0 : gN l 0 = 1) (w : World) (hp : PSl w a l) :
    Calls Tryd.prog 32 #[.slice a l.length c] w fun e w' => e = .returned (frV (helloB l) none 0) ∧ Below w.heap.size w w' := by
  obtain ⟨b, off, rfl, hlt, hc⟩ := hp (by omega)
  rw [hl]
  have q0 := psl_n hc 0 (by omega)
  have q1 := psl_n hc 1 (by omega)
  have q2 := psl_n hc 2 (by omega)
  have q3 := psl_n hc 3 (by omega)
  have q4 := psl_s hc 4 (by omega)
  have q5 := psl_n hc 5 (by omega)
  have q6 := psl_n hc 6 (by omega)
  have q7 := psl_s hc 7 (by omega)
  rw [h0] at q0
  obtain ⟨x1, e1⟩ : ∃ x, gN l 1 = x := ⟨_, rfl⟩
  rw [e1] at q1
  obtain ⟨x2, e2⟩ : ∃ x, gN l 2 = x := ⟨_, rfl⟩
  rw [e2] at q2
  obtain ⟨x3, e3⟩ : ∃ x, gN l 3 = x := ⟨_, rfl⟩
  rw [e3] at q3
  obtain ⟨x4, e4⟩ : ∃ x, gS l 4 = x := ⟨_, rfl⟩
  rw [e4] at q4
  obtain ⟨x5, e5⟩ : ∃ x, gN l 5 = x := ⟨_, rfl⟩
  rw [e5] at q5
  obtain ⟨x6, e6⟩ : ∃ x, gN l 6 = x := ⟨_, rfl⟩
  rw [e6] at q6
  obtain ⟨x7, e7⟩ : ∃ x, gS l 7 = x := ⟨_, rfl⟩
  rw [e7] at q7
  have hE : helloB l = ⟨1, x1, x2, x3, ⟨#[]⟩, ⟨#[]⟩, 0, 0, x4, x5, x6, x7, []⟩ := by unfold helloB; rw [e1, e2, e3, e4, e5, e6, e7]
  rw [hE]
  simp only [Nat.zero_mul, Nat.add_zero, Nat.one_mul, Nat.reduceMul, Nat.add_assoc, Nat.reduceAdd] at q0 q1 q2 q3 q4 q5 q6 q7
  have HQ := Lib.hid ((And.intro q0 (And.intro q1 (And.intro q2 (And.intro q3 (And.intro q4 (And.intro q5 (And.intro q6 q7))))))))
  clear hc hE e1 e2 e3 e4 e5 e6 e7 hl h0 q0 q1 q2 q3 q4 q5 q6 q7 hp
  have hB0 : Below w.heap.size w (w.alloc (.cells zeroL.toArray 25)) := (Below.refl _ _).alloc (Nat.le_refl _) _
  have hR0 : BlkV (w.alloc (.cells zeroL.toArray 25)) w.heap.size 25 zeroL := BlkV.fresh _ _ _ _ rfl _ rfl
  obtain ⟨W0, eW0⟩ : ∃ W0, w.alloc (.cells zeroL.toArray 25) = W0 := ⟨_, rfl⟩
  obtain ⟨RB, eRB⟩ : ∃ RB, w.heap.size = RB := ⟨_, rfl⟩
  rw [eW0] at hB0 hR0
  rw [eRB] at hR0
  have HEW := Lib.hid eW0; have HB0 := Lib.hid hB0; have HR0 := Lib.hid hR0; have HRB := Lib.hid eRB
  clear eW0 hB0 hR0 eRB hlt
  go_enter Tryd.func32, Tryd.ntmps32
  go_upto_region 1 with fail
  change Code.wp Tryd.prog _ _ _ (w.alloc (.cells zeroL.toArray 25))
  rw [HEW.out, HRB.out]
  clear HEW
  obtain ⟨q0, q1, q2, q3, q4, q5, q6, q7⟩ := HQ.out
  have d0 := (HB0.out.cell (World.block_lt_of_cell? w _ q0)).trans q0
  have d1 := (HB0.out.cell (World.block_lt_of_cell? w _ q1)).trans q1
  have d2 := (HB0.out.cell (World.block_lt_of_cell? w _ q2)).trans q2
  have d3 := (HB0.out.cell (World.block_lt_of_cell? w _ q3)).trans q3
  clear q0 q1 q2 q3 q4 q5 q6 q7
  have hc4 := And.intro d0 (And.intro d1 (And.intro d2 d3))
  have hb0 := Bel.refl W0
  clear d0 d1 d2 d3
  go_region_held3 (fun w' => (w'.cell? ⟨b, off + 1, none⟩ = some (.int .u64 1) ∧ w'.cell? ⟨b, off + 4, none⟩ = some (.int .u64 (x1 : Int)) ∧ w'.cell? ⟨b, off + 7, none⟩ = some (.int .u64 (x2 : Int)) ∧ w'.cell? ⟨b, off + 10, none⟩ = some (.int .u64 (x3 : Int))) ∧ Bel W0 w')
    ((refine bel_4 hc4 ?_; first | with_reducible assumption | exact And.right (by with_reducible assumption) | ((with_reducible refine Bel.drew ?_); with_reducible assumption) | ((with_reducible refine Bel.alloc ?_ _); with_reducible assumption) | ((with_reducible refine Bel.alloc ?_ _); exact And.right (by with_reducible assumption)) | ((with_reducible refine Bel.drew ?_); (with_reducible refine Bel.alloc ?_ _); with_reducible assumption)))
    (fail)
  rename_i hHeld
  clear hHeld hc4 hb0
  rw [show IntKind.i64.wrap 1 = 1 from rfl]
  have hD : BlkV ((W0.alloc (.cells #[.int .i64 1, .int .u64 (x1 : Int), .int .u64 (x2 : Int), .int .u64 (x3 : Int), .string ⟨#[]⟩, .string ⟨#[]⟩, .int .u64 0, .int .u64 0, .string ⟨#[]⟩, .int .u64 0, .int .u64 0, .string ⟨#[]⟩, .slice none 0 0] 25)).drew) W0.heap.size 25 [.int .i64 1, .int .u64 (x1 : Int), .int .u64 (x2 : Int), .int .u64 (x3 : Int), .string ⟨#[]⟩, .string ⟨#[]⟩, .int .u64 0, .int .u64 0, .string ⟨#[]⟩, .int .u64 0, .int .u64 0, .string ⟨#[]⟩, .slice none 0 0] := BlkV.fresh W0 _ _ _ rfl _ rfl
  have hB : Below w.heap.size w ((W0.alloc (.cells #[.int .i64 1, .int .u64 (x1 : Int), .int .u64 (x2 : Int), .int .u64 (x3 : Int), .string ⟨#[]⟩, .string ⟨#[]⟩, .int .u64 0, .int .u64 0, .string ⟨#[]⟩, .int .u64 0, .int .u64 0, .string ⟨#[]⟩, .slice none 0 0] 25)).drew) := (HB0.out.alloc HB0.out.size _).drew
  have hR : BlkV ((W0.alloc (.cells #[.int .i64 1, .int .u64 (x1 : Int), .int .u64 (x2 : Int), .int .u64 (x3 : Int), .string ⟨#[]⟩, .string ⟨#[]⟩, .int .u64 0, .int .u64 0, .string ⟨#[]⟩, .int .u64 0, .int .u64 0, .string ⟨#[]⟩, .slice none 0 0] 25)).drew) RB 25 zeroL := HR0.out.alloc _
  have hlt := HR0.out.lt
  generalize (World.drew _) = V0 at hD hB hR ⊢
  generalize W0.heap.size = D at hD hlt ⊢
  have HD := Lib.hid hD; have HB := Lib.hid hB; have HR := Lib.hid hR; have HLT := Lib.hid (And.intro hlt (show w.heap.size ≤ D by have := HRB.out; omega))
  clear hD hB hR hlt HB0 HR0
  rename_i K hK
  refine hK _ _ ?_
  clear hK K
  have c0 := HD.out.cell 0 _ rfl
  go_upto_region 9 with fail
  clear c0
  obtain ⟨q0, q1, q2, q3, q4, q5, q6, q7⟩ := HQ.out
  have c0 := (HB.out.cell (World.block_lt_of_cell? w _ q4)).trans q4
  clear q0 q1 q2 q3 q4 q5 q6 q7
  have c1 := HD.out.cell 8 _ rfl
  have c2 := HD.out.frozen 8
  go_upto_region 10 with fail
  clear c0 c1 c2
  have hD : BlkV (World.setCell V0 ⟨D, 8, none⟩ (.string x4)) D 25 [.int .i64 1, .int .u64 (x1 : Int), .int .u64 (x2 : Int), .int .u64 (x3 : Int), .string ⟨#[]⟩, .string ⟨#[]⟩, .int .u64 0, .int .u64 0, .string x4, .int .u64 0, .int .u64 0, .string ⟨#[]⟩, .slice none 0 0] := HD.out.set 8 _
  have hB := HB.out.setCell (p := ⟨D, 8, none⟩) HLT.out.2 (.string x4)
  have hR := HR.out.far ⟨D, 8, none⟩ (Nat.ne_of_lt HLT.out.1) (.string x4)
  generalize World.setCell V0 _ _ = V1 at hD hB hR ⊢
  clear HD HB HR
  have HD := Lib.hid hD; have HB := Lib.hid hB; have HR := Lib.hid hR
  clear hD hB hR
  obtain ⟨q0, q1, q2, q3, q4, q5, q6, q7⟩ := HQ.out
  have c0 := (HB.out.cell (World.block_lt_of_cell? w _ q5)).trans q5
  clear q0 q1 q2 q3 q4 q5 q6 q7
  have c1 := HD.out.cell 9 _ rfl
  have c2 := HD.out.frozen 9
  go_upto_region 11 with fail
  clear c0 c1 c2
  have hD : BlkV (World.setCell V1 ⟨D, 9, none⟩ (.int .u64 (x5 : Int))) D 25 [.int .i64 1, .int .u64 (x1 : Int), .int .u64 (x2 : Int), .int .u64 (x3 : Int), .string ⟨#[]⟩, .string ⟨#[]⟩, .int .u64 0, .int .u64 0, .string x4, .int .u64 (x5 : Int), .int .u64 0, .string ⟨#[]⟩, .slice none 0 0] := HD.out.set 9 _
  have hB := HB.out.setCell (p := ⟨D, 9, none⟩) HLT.out.2 (.int .u64 (x5 : Int))
  have hR := HR.out.far ⟨D, 9, none⟩ (Nat.ne_of_lt HLT.out.1) (.int .u64 (x5 : Int))
  generalize World.setCell V1 _ _ = V2 at hD hB hR ⊢
  clear HD HB HR
  have HD := Lib.hid hD; have HB := Lib.hid hB; have HR := Lib.hid hR
  clear hD hB hR
  obtain ⟨q0, q1, q2, q3, q4, q5, q6, q7⟩ := HQ.out
  have c0 := (HB.out.cell (World.block_lt_of_cell? w _ q6)).trans q6
  clear q0 q1 q2 q3 q4 q5 q6 q7
  have c1 := HD.out.cell 10 _ rfl
  have c2 := HD.out.frozen 10
  go_upto_region 12 with fail
  clear c0 c1 c2
  have hD : BlkV (World.setCell V2 ⟨D, 10, none⟩ (.int .u64 (x6 : Int))) D 25 [.int .i64 1, .int .u64 (x1 : Int), .int .u64 (x2 : Int), .int .u64 (x3 : Int), .string ⟨#[]⟩, .string ⟨#[]⟩, .int .u64 0, .int .u64 0, .string x4, .int .u64 (x5 : Int), .int .u64 (x6 : Int), .string ⟨#[]⟩, .slice none 0 0] := HD.out.set 10 _
  have hB := HB.out.setCell (p := ⟨D, 10, none⟩) HLT.out.2 (.int .u64 (x6 : Int))
  have hR := HR.out.far ⟨D, 10, none⟩ (Nat.ne_of_lt HLT.out.1) (.int .u64 (x6 : Int))
  generalize World.setCell V2 _ _ = V3 at hD hB hR ⊢
  clear HD HB HR
  have HD := Lib.hid hD; have HB := Lib.hid hB; have HR := Lib.hid hR
  clear hD hB hR
  obtain ⟨q0, q1, q2, q3, q4, q5, q6, q7⟩ := HQ.out
  have c0 := (HB.out.cell (World.block_lt_of_cell? w _ q7)).trans q7
  clear q0 q1 q2 q3 q4 q5 q6 q7
  have c1 := HD.out.cell 11 _ rfl
  have c2 := HD.out.frozen 11
  go_upto_region 13 with fail
  clear c0 c1 c2
  have hD : BlkV (World.setCell V3 ⟨D, 11, none⟩ (.string x7)) D 25 [.int .i64 1, .int .u64 (x1 : Int), .int .u64 (x2 : Int), .int .u64 (x3 : Int), .string ⟨#[]⟩, .string ⟨#[]⟩, .int .u64 0, .int .u64 0, .string x4, .int .u64 (x5 : Int), .int .u64 (x6 : Int), .string x7, .slice none 0 0] := HD.out.set 11 _
  have hB := HB.out.setCell (p := ⟨D, 11, none⟩) HLT.out.2 (.string x7)
  have hR := HR.out.far ⟨D, 11, none⟩ (Nat.ne_of_lt HLT.out.1) (.string x7)
  generalize World.setCell V3 _ _ = V4 at hD hB hR ⊢
  clear HD HB HR
  have HD := Lib.hid hD; have HB := Lib.hid hB; have HR := Lib.hid hR
  clear hD hB hR
  have HD2 : Hid (BlkV V4 D 25 (frL ⟨1, x1, x2, x3, ⟨#[]⟩, ⟨#[]⟩, 0, 0, x4, x5, x6, x7, []⟩ none 0)) := HD
  refine wp_region_lit ?_
  refine load_v rfl _ _ rfl D rfl HD2.out Tryd.underlying25 rfl (by kernel_rfl) ?_
  refine store_v rfl rfl _ _ _ rfl RB rfl (l' := frL ⟨1, x1, x2, x3, ⟨#[]⟩, ⟨#[]⟩, 0, 0, x4, x5, x6, x7, []⟩ none 0) rfl HR.out rfl (frL_one _ none 0) (by kernel_rfl) ?_
  have hS3 := HR.out.stored (frL ⟨1, x1, x2, x3, ⟨#[]⟩, ⟨#[]⟩, 0, 0, x4, x5, x6, x7, []⟩ none 0) rfl
  have hBF := below_setCells (show w.heap.size ≤ RB by rw [HRB.out]; exact Nat.le_refl _) (frL ⟨1, x1, x2, x3, ⟨#[]⟩, ⟨#[]⟩, 0, 0, x4, x5, x6, x7, []⟩ none 0) 0 _ HB.out
  generalize World.setCells V4 _ _ _ = W at hS3 hBF ⊢
  have HS3 := Lib.hid hS3; have HBF := Lib.hid hBF
  clear hS3 hBF HR HB HD HD2
  go_wp2_with fail
  exact bodyPost_ret (results_v (p := 2) (T := 25) (by kernel_rfl) _ _ RB rfl HS3.out Tryd.underlying25 rfl (by kernel_rfl)) rfl ⟨rfl, HBF.out⟩
end Go.Proofs.YtollaaooinoafaaDoor