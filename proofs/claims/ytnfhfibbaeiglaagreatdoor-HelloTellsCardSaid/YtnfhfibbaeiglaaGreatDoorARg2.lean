/- The texts Mstep, Mclamp, one behind the other. -/
import Derived.Test.YtnfhfibbaeiglaaGreatDoorARg1
import Derived.Deep.Cut
/- One step of the reference's ladder. -/
namespace Go.Proofs.YtnfhfibbaeiglaaGreatDoor
set_option maxRecDepth 100000
open Go.RowKit
set_option maxHeartbeats 4000000 in
theorem refStep_any {gx cx gz cz gp cp gq cq gu cu : Nat} {x2 z2 x3 z3 u : Int} (w : World) (Dx : DigS w gx cx x2) (Dz : DigS w gz cz z2) (Dp : DigS w gp cp x3) (Dq : DigS w gq cq z3) (Du : DigS w gu cu u)
    (rz : Rd z2) (rq : Rd z3) :
    Calls Tryz.prog 25 #[.agg #[.slice (some ⟨gx, 0, none⟩) 16 cx, .slice (some ⟨gz, 0, none⟩) 16 cz, .slice (some ⟨gp, 0, none⟩) 16 cp, .slice (some ⟨gq, 0, none⟩) 16 cq], .slice (some ⟨gu, 0, none⟩) 16 cu] w fun e w' =>
      ∃ ga ca gb cb gc cc gd cd, e = .returned (.agg #[.slice (some ⟨ga, 0, none⟩) 16 ca, .slice (some ⟨gb, 0, none⟩) 16 cb, .slice (some ⟨gc, 0, none⟩) 16 cc, .slice (some ⟨gd, 0, none⟩) 16 cd]) ∧
        DigS w' ga ca (nX2 x2 z2) ∧ DigS w' gb cb (nZ2 x2 z2) ∧ DigS w' gc cc (nX3 x2 z2 x3 z3) ∧ DigS w' gd cd (nZ3 u x2 z2 x3 z3) ∧ Below w.heap.size w w' := by
  go_enter Tryz.func25, Tryz.ntmps25
  go_wp2_with fail
  have hI := (Row4.fresh_at w (.slice (some ⟨gx, 0, none⟩) 16 cx) (.slice (some ⟨gz, 0, none⟩) 16 cz) (.slice (some ⟨gp, 0, none⟩) 16 cp) (.slice (some ⟨gq, 0, none⟩) 16 cq) 46 w.heap.size rfl).alloc (.cells #[.slice none 0 0, .slice none 0 0, .slice none 0 0, .slice none 0 0] 46)
  have hO := Row4.fresh_at (w.alloc (.cells #[.slice (some ⟨gx, 0, none⟩) 16 cx, .slice (some ⟨gz, 0, none⟩) 16 cz, .slice (some ⟨gp, 0, none⟩) 16 cp, .slice (some ⟨gq, 0, none⟩) 16 cq] 46)) (.slice none 0 0) (.slice none 0 0) (.slice none 0 0) (.slice none 0 0) 46 (w.heap.size + 1) (by simp)
  have hB : Below w.heap.size w ((w.alloc (.cells #[.slice (some ⟨gx, 0, none⟩) 16 cx, .slice (some ⟨gz, 0, none⟩) 16 cz, .slice (some ⟨gp, 0, none⟩) 16 cp, .slice (some ⟨gq, 0, none⟩) 16 cq] 46)).alloc (.cells #[.slice none 0 0, .slice none 0 0, .slice none 0 0, .slice none 0 0] 46)) := by go_grown
  have hb := hB
  replace Dx := DigS.on Dx hb
  replace Dz := DigS.on Dz hb
  replace Dp := DigS.on Dp hb
  replace Dq := DigS.on Dq hb
  replace Du := DigS.on Du hb
  clear hb
  generalize World.alloc (World.alloc w _) _ = W at hI hO hB Dx Dz Dp Dq Du ⊢
  obtain ⟨⟨i0, i1, i2, i3⟩, -⟩ := id hI
  obtain ⟨a, ra, ea⟩ : ∃ z, Rd z ∧ (x2 + z2) % Pr = z := ⟨_, Rd.mod _, rfl⟩
  have q := digAdd Dx Dz
  rw [ea] at q
  have Q := Lib.hid q
  clear q
  go_wp2_with fail
  refine Q.out.mono ?_
  rintro e W1 ⟨v, rfl, D, hb⟩
  obtain ⟨ga, ca, rfl, Da⟩ := D.form
  clear D Q
  replace Dx := DigS.on Dx hb
  replace Dz := DigS.on Dz hb
  replace Dp := DigS.on Dp hb
  replace Dq := DigS.on Dq hb
  replace Du := DigS.on Du hb
  replace hI := Row4.on hI hb
  replace hO := Row4.on hO hb
  replace hB := Below.trans hB (hb.mono hB.size)
  clear hb
  clear i0 i1 i2 i3
  obtain ⟨⟨i0, i1, i2, i3⟩, -⟩ := id hI
  obtain ⟨b, rb, eb⟩ : ∃ z, Rd z ∧ (x2 - z2) % Pr = z := ⟨_, Rd.mod _, rfl⟩
  have q := digSub Dx Dz rz.2
  rw [eb] at q
  have Q := Lib.hid q
  clear q
  go_wp2_with fail
  refine Q.out.mono ?_
  rintro e W2 ⟨v, rfl, D, hb⟩
  obtain ⟨gb, cb, rfl, Db⟩ := D.form
  clear D Q
  replace Da := DigS.on Da hb
  replace Dp := DigS.on Dp hb
  replace Dq := DigS.on Dq hb
  replace Du := DigS.on Du hb
  replace hI := Row4.on hI hb
  replace hO := Row4.on hO hb
  replace hB := Below.trans hB (hb.mono hB.size)
  clear hb
  clear Dx Dz
  clear i0 i1 i2 i3
  obtain ⟨⟨i0, i1, i2, i3⟩, -⟩ := id hI
  obtain ⟨s, rs, es⟩ : ∃ z, Rd z ∧ (a * a) % Pr = z := ⟨_, Rd.mod _, rfl⟩
  have q := digMul Da Da
  rw [es] at q
  have Q := Lib.hid q
  clear q
  go_wp2_with fail
  refine Q.out.mono ?_
  rintro e W3 ⟨v, rfl, D, hb⟩
  obtain ⟨gs, cs, rfl, Ds⟩ := D.form
  clear D Q
  replace Da := DigS.on Da hb
  replace Db := DigS.on Db hb
  replace Dp := DigS.on Dp hb
  replace Dq := DigS.on Dq hb
  replace Du := DigS.on Du hb
  replace hI := Row4.on hI hb
  replace hO := Row4.on hO hb
  replace hB := Below.trans hB (hb.mono hB.size)
  clear hb
  clear i0 i1 i2 i3
  obtain ⟨⟨i0, i1, i2, i3⟩, -⟩ := id hI
  obtain ⟨t, rt, et⟩ : ∃ z, Rd z ∧ (b * b) % Pr = z := ⟨_, Rd.mod _, rfl⟩
  have q := digMul Db Db
  rw [et] at q
  have Q := Lib.hid q
  clear q
  go_wp2_with fail
  refine Q.out.mono ?_
  rintro e W4 ⟨v, rfl, D, hb⟩
  obtain ⟨gt, ct, rfl, Dt⟩ := D.form
  clear D Q
  replace Da := DigS.on Da hb
  replace Db := DigS.on Db hb
  replace Ds := DigS.on Ds hb
  replace Dp := DigS.on Dp hb
  replace Dq := DigS.on Dq hb
  replace Du := DigS.on Du hb
  replace hI := Row4.on hI hb
  replace hO := Row4.on hO hb
  replace hB := Below.trans hB (hb.mono hB.size)
  clear hb
  clear i0 i1 i2 i3
  obtain ⟨⟨i0, i1, i2, i3⟩, -⟩ := id hI
  obtain ⟨e1, re1, ee1⟩ : ∃ z, Rd z ∧ (s - t) % Pr = z := ⟨_, Rd.mod _, rfl⟩
  have q := digSub Ds Dt rt.2
  rw [ee1] at q
  have Q := Lib.hid q
  clear q
  go_wp2_with fail
  refine Q.out.mono ?_
  rintro e W5 ⟨v, rfl, D, hb⟩
  obtain ⟨ge1, ce1, rfl, De1⟩ := D.form
  clear D Q
  replace Da := DigS.on Da hb
  replace Db := DigS.on Db hb
  replace Ds := DigS.on Ds hb
  replace Dt := DigS.on Dt hb
  replace Dp := DigS.on Dp hb
  replace Dq := DigS.on Dq hb
  replace Du := DigS.on Du hb
  replace hI := Row4.on hI hb
  replace hO := Row4.on hO hb
  replace hB := Below.trans hB (hb.mono hB.size)
  clear hb
  clear i0 i1 i2 i3
  obtain ⟨⟨i0, i1, i2, i3⟩, -⟩ := id hI
  obtain ⟨d, rd, ed⟩ : ∃ z, Rd z ∧ (x3 - z3) % Pr = z := ⟨_, Rd.mod _, rfl⟩
  have q := digSub Dp Dq rq.2
  rw [ed] at q
  have Q := Lib.hid q
  clear q
  go_wp2_with fail
  refine Q.out.mono ?_
  rintro e W6 ⟨v, rfl, D, hb⟩
  obtain ⟨gd, cd, rfl, Dd⟩ := D.form
  clear D Q
  replace Da := DigS.on Da hb
  replace Db := DigS.on Db hb
  replace Ds := DigS.on Ds hb
  replace Dt := DigS.on Dt hb
  replace De1 := DigS.on De1 hb
  replace Dp := DigS.on Dp hb
  replace Dq := DigS.on Dq hb
  replace Du := DigS.on Du hb
  replace hI := Row4.on hI hb
  replace hO := Row4.on hO hb
  replace hB := Below.trans hB (hb.mono hB.size)
  clear hb
  clear i0 i1 i2 i3
  obtain ⟨⟨i0, i1, i2, i3⟩, -⟩ := id hI
  obtain ⟨da, rda, eda⟩ : ∃ z, Rd z ∧ (d * a) % Pr = z := ⟨_, Rd.mod _, rfl⟩
  have q := digMul Dd Da
  rw [eda] at q
  have Q := Lib.hid q
  clear q
  go_wp2_with fail
  refine Q.out.mono ?_
  rintro e W7 ⟨v, rfl, D, hb⟩
  obtain ⟨gda, cda, rfl, Dda⟩ := D.form
  clear D Q
  replace Db := DigS.on Db hb
  replace Ds := DigS.on Ds hb
  replace Dt := DigS.on Dt hb
  replace De1 := DigS.on De1 hb
  replace Dp := DigS.on Dp hb
  replace Dq := DigS.on Dq hb
  replace Du := DigS.on Du hb
  replace hI := Row4.on hI hb
  replace hO := Row4.on hO hb
  replace hB := Below.trans hB (hb.mono hB.size)
  clear hb
  clear Da Dd
  clear i0 i1 i2 i3
  obtain ⟨⟨i0, i1, i2, i3⟩, -⟩ := id hI
  obtain ⟨c, rc, ec⟩ : ∃ z, Rd z ∧ (x3 + z3) % Pr = z := ⟨_, Rd.mod _, rfl⟩
  have q := digAdd Dp Dq
  rw [ec] at q
  have Q := Lib.hid q
  clear q
  go_wp2_with fail
  refine Q.out.mono ?_
  rintro e W8 ⟨v, rfl, D, hb⟩
  obtain ⟨gc, cc, rfl, Dc⟩ := D.form
  clear D Q
  replace Db := DigS.on Db hb
  replace Ds := DigS.on Ds hb
  replace Dt := DigS.on Dt hb
  replace De1 := DigS.on De1 hb
  replace Dda := DigS.on Dda hb
  replace Du := DigS.on Du hb
  replace hI := Row4.on hI hb
  replace hO := Row4.on hO hb
  replace hB := Below.trans hB (hb.mono hB.size)
  clear hb
  clear Dp Dq
  clear i0 i1 i2 i3
  obtain ⟨⟨i0, i1, i2, i3⟩, -⟩ := id hI
  obtain ⟨cb, rcb, ecb⟩ : ∃ z, Rd z ∧ (c * b) % Pr = z := ⟨_, Rd.mod _, rfl⟩
  have q := digMul Dc Db
  rw [ecb] at q
  have Q := Lib.hid q
  clear q
  go_wp2_with fail
  refine Q.out.mono ?_
  rintro e W9 ⟨v, rfl, D, hb⟩
  obtain ⟨gcb, ccb, rfl, Dcb⟩ := D.form
  clear D Q
  replace Ds := DigS.on Ds hb
  replace Dt := DigS.on Dt hb
  replace De1 := DigS.on De1 hb
  replace Dda := DigS.on Dda hb
  replace Du := DigS.on Du hb
  replace hO := Row4.on hO hb
  replace hB := Below.trans hB (hb.mono hB.size)
  clear hb
  clear Dc Db hI i0 i1 i2 i3
  obtain ⟨pl, rpl, epl⟩ : ∃ z, Rd z ∧ (da + cb) % Pr = z := ⟨_, Rd.mod _, rfl⟩
  have q := digAdd Dda Dcb
  rw [epl] at q
  have Q := Lib.hid q
  clear q
  go_wp2_with fail
  refine Q.out.mono ?_
  rintro e W10 ⟨v, rfl, D, hb⟩
  obtain ⟨gpl, cpl, rfl, Dpl⟩ := D.form
  clear D Q
  replace Ds := DigS.on Ds hb
  replace Dt := DigS.on Dt hb
  replace De1 := DigS.on De1 hb
  replace Dda := DigS.on Dda hb
  replace Dcb := DigS.on Dcb hb
  replace Du := DigS.on Du hb
  replace hO := Row4.on hO hb
  replace hB := Below.trans hB (hb.mono hB.size)
  clear hb
  obtain ⟨mi, rmi, emi⟩ : ∃ z, Rd z ∧ (da - cb) % Pr = z := ⟨_, Rd.mod _, rfl⟩
  have q := digSub Dda Dcb rcb.2
  rw [emi] at q
  have Q := Lib.hid q
  clear q
  go_wp2_with fail
  refine Q.out.mono ?_
  rintro e W11 ⟨v, rfl, D, hb⟩
  obtain ⟨gmi, cmi, rfl, Dmi⟩ := D.form
  clear D Q
  replace Ds := DigS.on Ds hb
  replace Dt := DigS.on Dt hb
  replace De1 := DigS.on De1 hb
  replace Dpl := DigS.on Dpl hb
  replace Du := DigS.on Du hb
  replace hO := Row4.on hO hb
  replace hB := Below.trans hB (hb.mono hB.size)
  clear hb
  clear Dda Dcb
  obtain ⟨o0, ro0, eo0⟩ : ∃ z, Rd z ∧ (s * t) % Pr = z := ⟨_, Rd.mod _, rfl⟩
  have q := digMul Ds Dt
  rw [eo0] at q
  have Q := Lib.hid q
  clear q
  go_wp2_with fail
  refine Q.out.mono ?_
  rintro e W12 ⟨v, rfl, D, hb⟩
  obtain ⟨go0, co0, rfl, Do0⟩ := D.form
  clear D Q
  replace Ds := DigS.on Ds hb
  replace De1 := DigS.on De1 hb
  replace Dpl := DigS.on Dpl hb
  replace Dmi := DigS.on Dmi hb
  replace Du := DigS.on Du hb
  replace hO := Row4.on hO hb
  replace hB := Below.trans hB (hb.mono hB.size)
  clear hb
  clear Dt
  obtain ⟨o2, ro2, eo2⟩ : ∃ z, Rd z ∧ (pl * pl) % Pr = z := ⟨_, Rd.mod _, rfl⟩
  have q := digMul Dpl Dpl
  rw [eo2] at q
  have Q := Lib.hid q
  clear q
  go_wp2_with fail
  refine Q.out.mono ?_
  rintro e W13 ⟨v, rfl, D, hb⟩
  obtain ⟨go2, co2, rfl, Do2⟩ := D.form
  clear D Q
  replace Ds := DigS.on Ds hb
  replace De1 := DigS.on De1 hb
  replace Do0 := DigS.on Do0 hb
  replace Dmi := DigS.on Dmi hb
  replace Du := DigS.on Du hb
  replace hO := Row4.on hO hb
  replace hB := Below.trans hB (hb.mono hB.size)
  clear hb
  clear Dpl
  have hT := Row4.fresh_at W13 (.slice (some ⟨go0, 0, none⟩) 16 co0) (.slice none 0 0) (.slice (some ⟨go2, 0, none⟩) 16 co2) (.slice none 0 0) 46 W13.heap.size rfl
  have hb := (Below.refl W13.heap.size W13).alloc (Nat.le_refl _) (.cells #[.slice (some ⟨go0, 0, none⟩) 16 co0, .slice none 0 0, .slice (some ⟨go2, 0, none⟩) 16 co2, .slice none 0 0] 46)
  have hlt0 := hO.lt
  replace Ds := DigS.on Ds hb
  replace De1 := DigS.on De1 hb
  replace Do0 := DigS.on Do0 hb
  replace Do2 := DigS.on Do2 hb
  replace Dmi := DigS.on Dmi hb
  replace Du := DigS.on Du hb
  replace hO := Row4.on hO hb
  replace hB := Below.trans hB (hb.mono hB.size)
  clear hb
  obtain ⟨B, hBe⟩ : ∃ B, W13.heap.size = B := ⟨_, rfl⟩
  rw [hBe] at hT hlt0
  have hle : w.heap.size ≤ B := by omega
  go_wp2_with fail
  generalize World.alloc W13 _ = V0 at hT hO hB Ds De1 Do0 Do2 Dmi Du ⊢
  have q := refSmall_any 121665 (by omega) (by omega) V0
  have Q := Lib.hid q
  clear q
  go_wp2_with fail
  refine Q.out.mono ?_
  rintro e V1 ⟨v, rfl, D, hb⟩
  obtain ⟨gf, cf, rfl, Df⟩ := D.form
  clear D Q
  replace Ds := DigS.on Ds hb
  replace De1 := DigS.on De1 hb
  replace Do0 := DigS.on Do0 hb
  replace Do2 := DigS.on Do2 hb
  replace Dmi := DigS.on Dmi hb
  replace Du := DigS.on Du hb
  replace hO := Row4.on hO hb
  replace hT := Row4.on hT hb
  replace hB := Below.trans hB (hb.mono hB.size)
  clear hb
  obtain ⟨m1, rm1, em1⟩ : ∃ z, Rd z ∧ (121665 * e1) % Pr = z := ⟨_, Rd.mod _, rfl⟩
  have q := digMul Df De1
  rw [em1] at q
  have Q := Lib.hid q
  clear q
  go_wp2_with fail
  refine Q.out.mono ?_
  rintro e V2 ⟨v, rfl, D, hb⟩
  obtain ⟨gm1, cm1, rfl, Dm1⟩ := D.form
  clear D Q
  replace Ds := DigS.on Ds hb
  replace De1 := DigS.on De1 hb
  replace Do0 := DigS.on Do0 hb
  replace Do2 := DigS.on Do2 hb
  replace Dmi := DigS.on Dmi hb
  replace Du := DigS.on Du hb
  replace hO := Row4.on hO hb
  replace hT := Row4.on hT hb
  replace hB := Below.trans hB (hb.mono hB.size)
  clear hb
  clear Df
  obtain ⟨m2, rm2, em2⟩ : ∃ z, Rd z ∧ (s + m1) % Pr = z := ⟨_, Rd.mod _, rfl⟩
  have q := digAdd Ds Dm1
  rw [em2] at q
  have Q := Lib.hid q
  clear q
  go_wp2_with fail
  refine Q.out.mono ?_
  rintro e V3 ⟨v, rfl, D, hb⟩
  obtain ⟨gm2, cm2, rfl, Dm2⟩ := D.form
  clear D Q
  replace De1 := DigS.on De1 hb
  replace Do0 := DigS.on Do0 hb
  replace Do2 := DigS.on Do2 hb
  replace Dmi := DigS.on Dmi hb
  replace Du := DigS.on Du hb
  replace hO := Row4.on hO hb
  replace hT := Row4.on hT hb
  replace hB := Below.trans hB (hb.mono hB.size)
  clear hb
  clear Ds Dm1
  obtain ⟨o1, ro1, eo1⟩ : ∃ z, Rd z ∧ (e1 * m2) % Pr = z := ⟨_, Rd.mod _, rfl⟩
  have q := digMul De1 Dm2
  rw [eo1] at q
  have Q := Lib.hid q
  clear q
  go_wp2_with fail
  refine Q.out.mono ?_
  rintro e V4 ⟨v, rfl, D, hb⟩
  obtain ⟨go1, co1, rfl, Do1⟩ := D.form
  clear D Q
  replace Do0 := DigS.on Do0 hb
  replace Do2 := DigS.on Do2 hb
  replace Dmi := DigS.on Dmi hb
  replace Du := DigS.on Du hb
  replace hO := Row4.on hO hb
  replace hT := Row4.on hT hb
  replace hB := Below.trans hB (hb.mono hB.size)
  clear hb
  clear De1 Dm2
  have hlt4 := hT.lt
  obtain ⟨⟨t0, t1, t2, t3⟩, ⟨f0, f1, f2, f3⟩⟩ := id hT
  replace Do0 := DigS.far Do0 t0 1 (.slice (some ⟨go1, 0, none⟩) 16 co1)
  replace Do1 := DigS.far Do1 t0 1 (.slice (some ⟨go1, 0, none⟩) 16 co1)
  replace Do2 := DigS.far Do2 t0 1 (.slice (some ⟨go1, 0, none⟩) 16 co1)
  replace Dmi := DigS.far Dmi t0 1 (.slice (some ⟨go1, 0, none⟩) 16 co1)
  replace Du := DigS.far Du t0 1 (.slice (some ⟨go1, 0, none⟩) 16 co1)
  replace hO := hO.far (p := ⟨B, 1, none⟩) (show B ≠ w.heap.size + 1 by omega) (.slice (some ⟨go1, 0, none⟩) 16 co1)
  replace hT := hT.set1 (.slice (some ⟨go1, 0, none⟩) 16 co1)
  replace hB := hB.setCell (p := ⟨B, 1, none⟩) hle (.slice (some ⟨go1, 0, none⟩) 16 co1)
  go_wp2_with fail
  clear t0 t1 t2 t3 f0 f1 f2 f3
  generalize World.setCell V4 _ _ = V5 at hO hT hB Do0 Do1 Do2 Dmi Du ⊢
  obtain ⟨m3, rm3, em3⟩ : ∃ z, Rd z ∧ (mi * mi) % Pr = z := ⟨_, Rd.mod _, rfl⟩
  have q := digMul Dmi Dmi
  rw [em3] at q
  have Q := Lib.hid q
  clear q
  go_wp2_with fail
  refine Q.out.mono ?_
  rintro e V6 ⟨v, rfl, D, hb⟩
  obtain ⟨gm3, cm3, rfl, Dm3⟩ := D.form
  clear D Q
  replace Do0 := DigS.on Do0 hb
  replace Do1 := DigS.on Do1 hb
  replace Do2 := DigS.on Do2 hb
  replace Du := DigS.on Du hb
  replace hO := Row4.on hO hb
  replace hT := Row4.on hT hb
  replace hB := Below.trans hB (hb.mono hB.size)
  clear hb
  clear Dmi
  obtain ⟨o3, ro3, eo3⟩ : ∃ z, Rd z ∧ (u * m3) % Pr = z := ⟨_, Rd.mod _, rfl⟩
  have q := digMul Du Dm3
  rw [eo3] at q
  have Q := Lib.hid q
  clear q
  go_wp2_with fail
  refine Q.out.mono ?_
  rintro e V7 ⟨v, rfl, D, hb⟩
  obtain ⟨go3, co3, rfl, Do3⟩ := D.form
  clear D Q
  replace Do0 := DigS.on Do0 hb
  replace Do1 := DigS.on Do1 hb
  replace Do2 := DigS.on Do2 hb
  replace hO := Row4.on hO hb
  replace hT := Row4.on hT hb
  replace hB := Below.trans hB (hb.mono hB.size)
  clear hb
  clear Du Dm3
  have hlt7 := hT.lt
  obtain ⟨⟨t0, t1, t2, t3⟩, ⟨f0, f1, f2, f3⟩⟩ := id hT
  replace Do0 := DigS.far Do0 t0 3 (.slice (some ⟨go3, 0, none⟩) 16 co3)
  replace Do1 := DigS.far Do1 t0 3 (.slice (some ⟨go3, 0, none⟩) 16 co3)
  replace Do2 := DigS.far Do2 t0 3 (.slice (some ⟨go3, 0, none⟩) 16 co3)
  replace Do3 := DigS.far Do3 t0 3 (.slice (some ⟨go3, 0, none⟩) 16 co3)
  replace hO := hO.far (p := ⟨B, 3, none⟩) (show B ≠ w.heap.size + 1 by omega) (.slice (some ⟨go3, 0, none⟩) 16 co3)
  replace hT := hT.set3 (.slice (some ⟨go3, 0, none⟩) 16 co3)
  replace hB := hB.setCell (p := ⟨B, 3, none⟩) hle (.slice (some ⟨go3, 0, none⟩) 16 co3)
  go_upto_region 13 with fail
  clear t0 t1 t2 t3 f0 f1 f2 f3
  generalize World.setCell V7 _ _ = V8 at hO hT hB Do0 Do1 Do2 Do3 ⊢
  have hlt8 := hO.lt
  have hlt9 := hT.lt
  have hS := hO.set (.slice (some ⟨go0, 0, none⟩) 16 co0) (.slice (some ⟨go1, 0, none⟩) 16 co1) (.slice (some ⟨go2, 0, none⟩) 16 co2) (.slice (some ⟨go3, 0, none⟩) 16 co3)
  replace Do0 := DigS.far4 (p2 := some ⟨go0, 0, none⟩) (n2 := 16) (c2 := co0) Do0 hO (.slice (some ⟨go1, 0, none⟩) 16 co1) (.slice (some ⟨go2, 0, none⟩) 16 co2) (.slice (some ⟨go3, 0, none⟩) 16 co3)
  replace Do1 := DigS.far4 (p2 := some ⟨go0, 0, none⟩) (n2 := 16) (c2 := co0) Do1 hO (.slice (some ⟨go1, 0, none⟩) 16 co1) (.slice (some ⟨go2, 0, none⟩) 16 co2) (.slice (some ⟨go3, 0, none⟩) 16 co3)
  replace Do2 := DigS.far4 (p2 := some ⟨go0, 0, none⟩) (n2 := 16) (c2 := co0) Do2 hO (.slice (some ⟨go1, 0, none⟩) 16 co1) (.slice (some ⟨go2, 0, none⟩) 16 co2) (.slice (some ⟨go3, 0, none⟩) 16 co3)
  replace Do3 := DigS.far4 (p2 := some ⟨go0, 0, none⟩) (n2 := 16) (c2 := co0) Do3 hO (.slice (some ⟨go1, 0, none⟩) 16 co1) (.slice (some ⟨go2, 0, none⟩) 16 co2) (.slice (some ⟨go3, 0, none⟩) 16 co3)
  replace hB := below_set4 hB (B := w.heap.size + 1) (by omega) (.slice (some ⟨go0, 0, none⟩) 16 co0) (.slice (some ⟨go1, 0, none⟩) 16 co1) (.slice (some ⟨go2, 0, none⟩) 16 co2) (.slice (some ⟨go3, 0, none⟩) 16 co3)
  refine wp_region_lit ?_
  refine load_four rfl _ rfl B rfl hT ?_
  refine store_four rfl rfl _ _ rfl (w.heap.size + 1) rfl rfl hO ?_
  generalize World.setCell (World.setCell (World.setCell (World.setCell V8 _ _) _ _) _ _) _ _ = V9 at hS hB Do0 Do1 Do2 Do3 ⊢
  refine wpList_nil ?_
  have h0 : o0 = nX2 x2 z2 := by subst o0 t s b a; rfl
  have h1 : o1 = nZ2 x2 z2 := by subst o1 m2 m1 e1 t s b a; unfold nZ2; rw [Int.mul_comm (sE x2 z2) 121665]; rfl
  have h2 : o2 = nX3 x2 z2 x3 z3 := by subst o2 pl cb da c d b a; rfl
  have h3 : o3 = nZ3 u x2 z2 x3 z3 := by subst o3 m3 mi cb da c d b a; rfl
  rw [h0] at Do0
  rw [h1] at Do1
  rw [h2] at Do2
  rw [h3] at Do3
  obtain ⟨⟨s0, s1, s2, s3⟩, -⟩ := hS
  rename_i K hK
  refine hK _ _ ?_
  refine wp_ret ?_
  refine bodyPost_ret (v := .agg #[.slice (some ⟨go0, 0, none⟩) 16 co0, .slice (some ⟨go1, 0, none⟩) 16 co1, .slice (some ⟨go2, 0, none⟩) 16 co2, .slice (some ⟨go3, 0, none⟩) 16 co3]) (by simp [results, Tryz.results25, go_sem, s0, s1, s2, s3]) rfl ⟨_, _, _, _, _, _, _, _, rfl, Do0, Do1, Do2, Do3, hB⟩
end Go.Proofs.YtnfhfibbaeiglaaGreatDoor

/- The reference's clamped key. -/
namespace Go.Proofs.YtnfhfibbaeiglaaGreatDoor
set_option maxRecDepth 100000
open Go.RowKit Go.PlainAid
/-- the text that the reference puts together -/
theorem clampB_join (k : ByteArray) (hk : k.size = 32) : strOfNums [bt k 0 - bt k 0 % 8] ++ k.extract 1 31 ++ strOfNums [bt k 31 % 64 + 64] = clampB k := by
  have hx : (k.extract 1 31).size = 30 := by rw [ByteArray.size_extract, hk]; rfl
  have h1 : (strOfNums [bt k 0 - bt k 0 % 8]).size = 1 := by rw [strOfNums_size]; rfl
  have h2 : (strOfNums [bt k 31 % 64 + 64]).size = 1 := by rw [strOfNums_size]; rfl
  have a0 := bt_nonneg k 0; have a1 := bt_le k 0; have b0 := bt_nonneg k 31; have b1 := bt_le k 31
  have h3 : (strOfNums [bt k 0 - bt k 0 % 8] ++ k.extract 1 31).size = 31 := by rw [ByteArray.size_append, h1, hx]
  refine bytes_ext (by rw [ByteArray.size_append, h3, h2, clampB_size]) fun i hi => ?_
  rw [ByteArray.size_append, h3, h2] at hi
  rw [clampB_bt k i hi, bt_append _ _ i (by omega), h3]
  unfold clampAt
  by_cases hi0 : i = 0
  · subst hi0
    rw [if_pos (by omega), bt_append _ _ 0 (by omega), h1, if_pos (by omega), bt_str _ (fun v hv => by simp at hv; omega) 0 (by simp), if_pos rfl]
    rfl
  · rw [if_neg hi0]
    by_cases hi31 : i = 31
    · subst hi31
      rw [if_neg (by omega), if_pos rfl, bt_str _ (fun v hv => by simp at hv; omega) _ (by simp)]
      rfl
    · rw [if_neg hi31, if_pos (by omega), bt_append _ _ i (by omega), h1, if_neg (by omega), bt_extract _ _ _ _ (by omega) (by omega)]
      congr 1
      omega
theorem pointB_join (u : ByteArray) (hu : u.size = 32) : u.extract 0 31 ++ strOfNums [bt u 31 % 128] = pointB u := by
  have hx : (u.extract 0 31).size = 31 := by rw [ByteArray.size_extract, hu]; rfl
  have h2 : (strOfNums [bt u 31 % 128]).size = 1 := by rw [strOfNums_size]; rfl
  have b0 := bt_nonneg u 31; have b1 := bt_le u 31
  have hp : (pointB u).size = 32 := row32_size _
  refine bytes_ext (by rw [ByteArray.size_append, hx, h2, hp]) fun i hi => ?_
  rw [ByteArray.size_append, hx, h2] at hi
  rw [pointB_bt u i hi, bt_append _ _ i (by omega), hx]
  unfold pointAt
  by_cases hi31 : i = 31
  · subst hi31
    rw [if_neg (by omega), if_pos rfl, bt_str _ (fun v hv => by simp at hv; omega) _ (by simp)]
    rfl
  · rw [if_neg hi31, if_pos (by omega), bt_extract _ _ _ _ (by omega) (by omega), Nat.zero_add]

set_option maxHeartbeats 2000000 in
theorem refClamp_any (k : ByteArray) (hk : k.size = 32) (w : World) :
    Calls Tryz.prog 19 #[.string k] w fun e w' => e = .returned (.string (clampB k)) ∧ Below w.heap.size w w' := by
  have hget := get_bt k
  have a0 := bt_nonneg k 0; have a1 := bt_le k 0; have b0 := bt_nonneg k 31; have b1 := bt_le k 31
  obtain ⟨x, hx⟩ : ∃ x, bt k 0 - bt k 0 % 8 = x := ⟨_, rfl⟩
  obtain ⟨y, hy⟩ : ∃ y, bt k 31 % 64 + 64 = y := ⟨_, rfl⟩
  have hj := clampB_join k hk
  rw [hx, hy] at hj
  have hx0 : 0 ≤ x ∧ x ≤ 255 := by omega
  have hy0 : 0 ≤ y ∧ y ≤ 255 := by omega
  have wx : IntKind.u8.wrap x = x := by rw [IntKind.wrap_u8]; omega
  have wy : IntKind.u8.wrap y = y := by rw [IntKind.wrap_u8]; omega
  have hc1 : ∀ (W : World) (v : Int), (convert 43 9 (.slice (some ⟨W.heap.size, 0, none⟩) 1 1)).run Tryz.prog (W.alloc (.cells #[.int .u8 v] 5)).drew = .ok (.string (strOfNums [v])) (W.alloc (.cells #[.int .u8 v] 5)).drew := fun W v =>
    run_convert_bytes_arg (W.alloc _).drew 43 5 Tryz.underlying43 Tryz.underlying5 W.heap.size 0 1 1 [v] rfl (fun i hi => by obtain rfl : i = 0 := (by omega); simp) 9 Tryz.underlying9
  have hc2 : ∀ (W : World) (v v' : Int), (convert 43 9 (.slice (some ⟨W.heap.size, 0, none⟩) 1 1)).run Tryz.prog ((W.alloc (.cells #[.int .u8 v] 5)).alloc (.cells #[.int .u8 v'] 5)).drew = .ok (.string (strOfNums [v])) ((W.alloc (.cells #[.int .u8 v] 5)).alloc (.cells #[.int .u8 v'] 5)).drew := fun W v v' =>
    run_convert_bytes_arg ((W.alloc _).alloc _).drew 43 5 Tryz.underlying43 Tryz.underlying5 W.heap.size 0 1 1 [v] rfl (fun i hi => by obtain rfl : i = 0 := (by omega); simp) 9 Tryz.underlying9
  have hc3 : ∀ (W : World) (v v' : Int), (convert 43 9 (.slice (some ⟨W.heap.size + 1, 0, none⟩) 1 1)).run Tryz.prog ((W.alloc (.cells #[.int .u8 v] 5)).alloc (.cells #[.int .u8 v'] 5)).drew = .ok (.string (strOfNums [v'])) ((W.alloc (.cells #[.int .u8 v] 5)).alloc (.cells #[.int .u8 v'] 5)).drew := fun W v v' =>
    run_convert_bytes_arg ((W.alloc _).alloc _).drew 43 5 Tryz.underlying43 Tryz.underlying5 (W.heap.size + 1) 0 1 1 [v'] rfl (fun i hi => by obtain rfl : i = 0 := (by omega); simp) 9 Tryz.underlying9
  have hsx : ∀ v : Int, (strOfNums [v]).size = 1 := fun v => by rw [strOfNums_size]; rfl
  have hsm : (k.extract 1 31).size = 30 := by rw [ByteArray.size_extract, hk]; rfl
  go_enter Tryz.func19, Tryz.ntmps19
  go_wp2_with fail
  go_region
  all_goals go_wp2_with fail
  all_goals go_ret
  all_goals rw [← hj]
  all_goals exact ⟨rfl, by go_grown⟩
end Go.Proofs.YtnfhfibbaeiglaaGreatDoor
