/- The texts Mstep, Mclamp, Mmult, one behind the other. -/
import Derived.Test.YthjlhcmdpeinpaaGreatDoorRg1
import Derived.Deep.Cut
import Derived.IntWalk
import Derived.Deep.RegionHeld3
/- One step of the reference's ladder. -/
namespace Go.Proofs.YthjlhcmdpeinpaaGreatDoor
set_option maxRecDepth 100000
open Go.RowKit
set_option maxHeartbeats 4000000 in
theorem refStep_any {gx cx gz cz gp cp gq cq gu cu : Nat} {x2 z2 x3 z3 u : Int} (w : World) (Dx : DigS w gx cx x2) (Dz : DigS w gz cz z2) (Dp : DigS w gp cp x3) (Dq : DigS w gq cq z3) (Du : DigS w gu cu u)
    (rz : Rd z2) (rq : Rd z3) :
    Calls Tryz.prog 98 #[.agg #[.slice (some ⟨gx, 0, none⟩) 16 cx, .slice (some ⟨gz, 0, none⟩) 16 cz, .slice (some ⟨gp, 0, none⟩) 16 cp, .slice (some ⟨gq, 0, none⟩) 16 cq], .slice (some ⟨gu, 0, none⟩) 16 cu] w fun e w' =>
      ∃ ga ca gb cb gc cc gd cd, e = .returned (.agg #[.slice (some ⟨ga, 0, none⟩) 16 ca, .slice (some ⟨gb, 0, none⟩) 16 cb, .slice (some ⟨gc, 0, none⟩) 16 cc, .slice (some ⟨gd, 0, none⟩) 16 cd]) ∧
        DigS w' ga ca (nX2 x2 z2) ∧ DigS w' gb cb (nZ2 x2 z2) ∧ DigS w' gc cc (nX3 x2 z2 x3 z3) ∧ DigS w' gd cd (nZ3 u x2 z2 x3 z3) ∧ Below w.heap.size w w' := by
  go_enter Tryz.func98, Tryz.ntmps98
  go_wp2_with fail
  have hI := (Row4.fresh_at w (.slice (some ⟨gx, 0, none⟩) 16 cx) (.slice (some ⟨gz, 0, none⟩) 16 cz) (.slice (some ⟨gp, 0, none⟩) 16 cp) (.slice (some ⟨gq, 0, none⟩) 16 cq) 143 w.heap.size rfl).alloc (.cells #[.slice none 0 0, .slice none 0 0, .slice none 0 0, .slice none 0 0] 143)
  have hO := Row4.fresh_at (w.alloc (.cells #[.slice (some ⟨gx, 0, none⟩) 16 cx, .slice (some ⟨gz, 0, none⟩) 16 cz, .slice (some ⟨gp, 0, none⟩) 16 cp, .slice (some ⟨gq, 0, none⟩) 16 cq] 143)) (.slice none 0 0) (.slice none 0 0) (.slice none 0 0) (.slice none 0 0) 143 (w.heap.size + 1) (by simp)
  have hB : Below w.heap.size w ((w.alloc (.cells #[.slice (some ⟨gx, 0, none⟩) 16 cx, .slice (some ⟨gz, 0, none⟩) 16 cz, .slice (some ⟨gp, 0, none⟩) 16 cp, .slice (some ⟨gq, 0, none⟩) 16 cq] 143)).alloc (.cells #[.slice none 0 0, .slice none 0 0, .slice none 0 0, .slice none 0 0] 143)) := by go_grown
  have hb := hB
  replace Dx := DigS.on Dx hb
  replace Dz := DigS.on Dz hb
  replace Dp := DigS.on Dp hb
  replace Dq := DigS.on Dq hb
  replace Du := DigS.on Du hb
  clear hb
  generalize World.alloc (World.alloc w _) _ = W at hI hO hB Dx Dz Dp Dq Du ⊢
  obtain ⟨⟨i0, i1, i2, i3⟩, -⟩ := id hI
  obtain ⟨a, ra, ea⟩ : ∃ z, Rd z ∧ (x2 + z2) % Pr = z := ⟨_, Rd.mod _, rfl⟩
  have q := digAdd Dx Dz
  rw [ea] at q
  have Q := Lib.hid q
  clear q
  go_wp2_with fail
  refine Q.out.mono ?_
  rintro e W1 ⟨v, rfl, D, hb⟩
  obtain ⟨ga, ca, rfl, Da⟩ := D.form
  clear D Q
  replace Dx := DigS.on Dx hb
  replace Dz := DigS.on Dz hb
  replace Dp := DigS.on Dp hb
  replace Dq := DigS.on Dq hb
  replace Du := DigS.on Du hb
  replace hI := Row4.on hI hb
  replace hO := Row4.on hO hb
  replace hB := Below.trans hB (hb.mono hB.size)
  clear hb
  clear i0 i1 i2 i3
  obtain ⟨⟨i0, i1, i2, i3⟩, -⟩ := id hI
  obtain ⟨b, rb, eb⟩ : ∃ z, Rd z ∧ (x2 - z2) % Pr = z := ⟨_, Rd.mod _, rfl⟩
  have q := digSub Dx Dz rz.2
  rw [eb] at q
  have Q := Lib.hid q
  clear q
  go_wp2_with fail
  refine Q.out.mono ?_
  rintro e W2 ⟨v, rfl, D, hb⟩
  obtain ⟨gb, cb, rfl, Db⟩ := D.form
  clear D Q
  replace Da := DigS.on Da hb
  replace Dp := DigS.on Dp hb
  replace Dq := DigS.on Dq hb
  replace Du := DigS.on Du hb
  replace hI := Row4.on hI hb
  replace hO := Row4.on hO hb
  replace hB := Below.trans hB (hb.mono hB.size)
  clear hb
  clear Dx Dz
  clear i0 i1 i2 i3
  obtain ⟨⟨i0, i1, i2, i3⟩, -⟩ := id hI
  obtain ⟨s, rs, es⟩ : ∃ z, Rd z ∧ (a * a) % Pr = z := ⟨_, Rd.mod _, rfl⟩
  have q := digMul Da Da
  rw [es] at q
  have Q := Lib.hid q
  clear q
  go_wp2_with fail
  refine Q.out.mono ?_
  rintro e W3 ⟨v, rfl, D, hb⟩
  obtain ⟨gs, cs, rfl, Ds⟩ := D.form
  clear D Q
  replace Da := DigS.on Da hb
  replace Db := DigS.on Db hb
  replace Dp := DigS.on Dp hb
  replace Dq := DigS.on Dq hb
  replace Du := DigS.on Du hb
  replace hI := Row4.on hI hb
  replace hO := Row4.on hO hb
  replace hB := Below.trans hB (hb.mono hB.size)
  clear hb
  clear i0 i1 i2 i3
  obtain ⟨⟨i0, i1, i2, i3⟩, -⟩ := id hI
  obtain ⟨t, rt, et⟩ : ∃ z, Rd z ∧ (b * b) % Pr = z := ⟨_, Rd.mod _, rfl⟩
  have q := digMul Db Db
  rw [et] at q
  have Q := Lib.hid q
  clear q
  go_wp2_with fail
  refine Q.out.mono ?_
  rintro e W4 ⟨v, rfl, D, hb⟩
  obtain ⟨gt, ct, rfl, Dt⟩ := D.form
  clear D Q
  replace Da := DigS.on Da hb
  replace Db := DigS.on Db hb
  replace Ds := DigS.on Ds hb
  replace Dp := DigS.on Dp hb
  replace Dq := DigS.on Dq hb
  replace Du := DigS.on Du hb
  replace hI := Row4.on hI hb
  replace hO := Row4.on hO hb
  replace hB := Below.trans hB (hb.mono hB.size)
  clear hb
  clear i0 i1 i2 i3
  obtain ⟨⟨i0, i1, i2, i3⟩, -⟩ := id hI
  obtain ⟨e1, re1, ee1⟩ : ∃ z, Rd z ∧ (s - t) % Pr = z := ⟨_, Rd.mod _, rfl⟩
  have q := digSub Ds Dt rt.2
  rw [ee1] at q
  have Q := Lib.hid q
  clear q
  go_wp2_with fail
  refine Q.out.mono ?_
  rintro e W5 ⟨v, rfl, D, hb⟩
  obtain ⟨ge1, ce1, rfl, De1⟩ := D.form
  clear D Q
  replace Da := DigS.on Da hb
  replace Db := DigS.on Db hb
  replace Ds := DigS.on Ds hb
  replace Dt := DigS.on Dt hb
  replace Dp := DigS.on Dp hb
  replace Dq := DigS.on Dq hb
  replace Du := DigS.on Du hb
  replace hI := Row4.on hI hb
  replace hO := Row4.on hO hb
  replace hB := Below.trans hB (hb.mono hB.size)
  clear hb
  clear i0 i1 i2 i3
  obtain ⟨⟨i0, i1, i2, i3⟩, -⟩ := id hI
  obtain ⟨d, rd, ed⟩ : ∃ z, Rd z ∧ (x3 - z3) % Pr = z := ⟨_, Rd.mod _, rfl⟩
  have q := digSub Dp Dq rq.2
  rw [ed] at q
  have Q := Lib.hid q
  clear q
  go_wp2_with fail
  refine Q.out.mono ?_
  rintro e W6 ⟨v, rfl, D, hb⟩
  obtain ⟨gd, cd, rfl, Dd⟩ := D.form
  clear D Q
  replace Da := DigS.on Da hb
  replace Db := DigS.on Db hb
  replace Ds := DigS.on Ds hb
  replace Dt := DigS.on Dt hb
  replace De1 := DigS.on De1 hb
  replace Dp := DigS.on Dp hb
  replace Dq := DigS.on Dq hb
  replace Du := DigS.on Du hb
  replace hI := Row4.on hI hb
  replace hO := Row4.on hO hb
  replace hB := Below.trans hB (hb.mono hB.size)
  clear hb
  clear i0 i1 i2 i3
  obtain ⟨⟨i0, i1, i2, i3⟩, -⟩ := id hI
  obtain ⟨da, rda, eda⟩ : ∃ z, Rd z ∧ (d * a) % Pr = z := ⟨_, Rd.mod _, rfl⟩
  have q := digMul Dd Da
  rw [eda] at q
  have Q := Lib.hid q
  clear q
  go_wp2_with fail
  refine Q.out.mono ?_
  rintro e W7 ⟨v, rfl, D, hb⟩
  obtain ⟨gda, cda, rfl, Dda⟩ := D.form
  clear D Q
  replace Db := DigS.on Db hb
  replace Ds := DigS.on Ds hb
  replace Dt := DigS.on Dt hb
  replace De1 := DigS.on De1 hb
  replace Dp := DigS.on Dp hb
  replace Dq := DigS.on Dq hb
  replace Du := DigS.on Du hb
  replace hI := Row4.on hI hb
  replace hO := Row4.on hO hb
  replace hB := Below.trans hB (hb.mono hB.size)
  clear hb
  clear Da Dd
  clear i0 i1 i2 i3
  obtain ⟨⟨i0, i1, i2, i3⟩, -⟩ := id hI
  obtain ⟨c, rc, ec⟩ : ∃ z, Rd z ∧ (x3 + z3) % Pr = z := ⟨_, Rd.mod _, rfl⟩
  have q := digAdd Dp Dq
  rw [ec] at q
  have Q := Lib.hid q
  clear q
  go_wp2_with fail
  refine Q.out.mono ?_
  rintro e W8 ⟨v, rfl, D, hb⟩
  obtain ⟨gc, cc, rfl, Dc⟩ := D.form
  clear D Q
  replace Db := DigS.on Db hb
  replace Ds := DigS.on Ds hb
  replace Dt := DigS.on Dt hb
  replace De1 := DigS.on De1 hb
  replace Dda := DigS.on Dda hb
  replace Du := DigS.on Du hb
  replace hI := Row4.on hI hb
  replace hO := Row4.on hO hb
  replace hB := Below.trans hB (hb.mono hB.size)
  clear hb
  clear Dp Dq
  clear i0 i1 i2 i3
  obtain ⟨⟨i0, i1, i2, i3⟩, -⟩ := id hI
  obtain ⟨cb, rcb, ecb⟩ : ∃ z, Rd z ∧ (c * b) % Pr = z := ⟨_, Rd.mod _, rfl⟩
  have q := digMul Dc Db
  rw [ecb] at q
  have Q := Lib.hid q
  clear q
  go_wp2_with fail
  refine Q.out.mono ?_
  rintro e W9 ⟨v, rfl, D, hb⟩
  obtain ⟨gcb, ccb, rfl, Dcb⟩ := D.form
  clear D Q
  replace Ds := DigS.on Ds hb
  replace Dt := DigS.on Dt hb
  replace De1 := DigS.on De1 hb
  replace Dda := DigS.on Dda hb
  replace Du := DigS.on Du hb
  replace hO := Row4.on hO hb
  replace hB := Below.trans hB (hb.mono hB.size)
  clear hb
  clear Dc Db hI i0 i1 i2 i3
  obtain ⟨pl, rpl, epl⟩ : ∃ z, Rd z ∧ (da + cb) % Pr = z := ⟨_, Rd.mod _, rfl⟩
  have q := digAdd Dda Dcb
  rw [epl] at q
  have Q := Lib.hid q
  clear q
  go_wp2_with fail
  refine Q.out.mono ?_
  rintro e W10 ⟨v, rfl, D, hb⟩
  obtain ⟨gpl, cpl, rfl, Dpl⟩ := D.form
  clear D Q
  replace Ds := DigS.on Ds hb
  replace Dt := DigS.on Dt hb
  replace De1 := DigS.on De1 hb
  replace Dda := DigS.on Dda hb
  replace Dcb := DigS.on Dcb hb
  replace Du := DigS.on Du hb
  replace hO := Row4.on hO hb
  replace hB := Below.trans hB (hb.mono hB.size)
  clear hb
  obtain ⟨mi, rmi, emi⟩ : ∃ z, Rd z ∧ (da - cb) % Pr = z := ⟨_, Rd.mod _, rfl⟩
  have q := digSub Dda Dcb rcb.2
  rw [emi] at q
  have Q := Lib.hid q
  clear q
  go_wp2_with fail
  refine Q.out.mono ?_
  rintro e W11 ⟨v, rfl, D, hb⟩
  obtain ⟨gmi, cmi, rfl, Dmi⟩ := D.form
  clear D Q
  replace Ds := DigS.on Ds hb
  replace Dt := DigS.on Dt hb
  replace De1 := DigS.on De1 hb
  replace Dpl := DigS.on Dpl hb
  replace Du := DigS.on Du hb
  replace hO := Row4.on hO hb
  replace hB := Below.trans hB (hb.mono hB.size)
  clear hb
  clear Dda Dcb
  obtain ⟨o0, ro0, eo0⟩ : ∃ z, Rd z ∧ (s * t) % Pr = z := ⟨_, Rd.mod _, rfl⟩
  have q := digMul Ds Dt
  rw [eo0] at q
  have Q := Lib.hid q
  clear q
  go_wp2_with fail
  refine Q.out.mono ?_
  rintro e W12 ⟨v, rfl, D, hb⟩
  obtain ⟨go0, co0, rfl, Do0⟩ := D.form
  clear D Q
  replace Ds := DigS.on Ds hb
  replace De1 := DigS.on De1 hb
  replace Dpl := DigS.on Dpl hb
  replace Dmi := DigS.on Dmi hb
  replace Du := DigS.on Du hb
  replace hO := Row4.on hO hb
  replace hB := Below.trans hB (hb.mono hB.size)
  clear hb
  clear Dt
  obtain ⟨o2, ro2, eo2⟩ : ∃ z, Rd z ∧ (pl * pl) % Pr = z := ⟨_, Rd.mod _, rfl⟩
  have q := digMul Dpl Dpl
  rw [eo2] at q
  have Q := Lib.hid q
  clear q
  go_wp2_with fail
  refine Q.out.mono ?_
  rintro e W13 ⟨v, rfl, D, hb⟩
  obtain ⟨go2, co2, rfl, Do2⟩ := D.form
  clear D Q
  replace Ds := DigS.on Ds hb
  replace De1 := DigS.on De1 hb
  replace Do0 := DigS.on Do0 hb
  replace Dmi := DigS.on Dmi hb
  replace Du := DigS.on Du hb
  replace hO := Row4.on hO hb
  replace hB := Below.trans hB (hb.mono hB.size)
  clear hb
  clear Dpl
  have hT := Row4.fresh_at W13 (.slice (some ⟨go0, 0, none⟩) 16 co0) (.slice none 0 0) (.slice (some ⟨go2, 0, none⟩) 16 co2) (.slice none 0 0) 143 W13.heap.size rfl
  have hb := (Below.refl W13.heap.size W13).alloc (Nat.le_refl _) (.cells #[.slice (some ⟨go0, 0, none⟩) 16 co0, .slice none 0 0, .slice (some ⟨go2, 0, none⟩) 16 co2, .slice none 0 0] 143)
  have hlt0 := hO.lt
  replace Ds := DigS.on Ds hb
  replace De1 := DigS.on De1 hb
  replace Do0 := DigS.on Do0 hb
  replace Do2 := DigS.on Do2 hb
  replace Dmi := DigS.on Dmi hb
  replace Du := DigS.on Du hb
  replace hO := Row4.on hO hb
  replace hB := Below.trans hB (hb.mono hB.size)
  clear hb
  obtain ⟨B, hBe⟩ : ∃ B, W13.heap.size = B := ⟨_, rfl⟩
  rw [hBe] at hT hlt0
  have hle : w.heap.size ≤ B := by omega
  go_wp2_with fail
  generalize World.alloc W13 _ = V0 at hT hO hB Ds De1 Do0 Do2 Dmi Du ⊢
  have q := refSmall_any 121665 (by omega) (by omega) V0
  have Q := Lib.hid q
  clear q
  go_wp2_with fail
  refine Q.out.mono ?_
  rintro e V1 ⟨v, rfl, D, hb⟩
  obtain ⟨gf, cf, rfl, Df⟩ := D.form
  clear D Q
  replace Ds := DigS.on Ds hb
  replace De1 := DigS.on De1 hb
  replace Do0 := DigS.on Do0 hb
  replace Do2 := DigS.on Do2 hb
  replace Dmi := DigS.on Dmi hb
  replace Du := DigS.on Du hb
  replace hO := Row4.on hO hb
  replace hT := Row4.on hT hb
  replace hB := Below.trans hB (hb.mono hB.size)
  clear hb
  obtain ⟨m1, rm1, em1⟩ : ∃ z, Rd z ∧ (121665 * e1) % Pr = z := ⟨_, Rd.mod _, rfl⟩
  have q := digMul Df De1
  rw [em1] at q
  have Q := Lib.hid q
  clear q
  go_wp2_with fail
  refine Q.out.mono ?_
  rintro e V2 ⟨v, rfl, D, hb⟩
  obtain ⟨gm1, cm1, rfl, Dm1⟩ := D.form
  clear D Q
  replace Ds := DigS.on Ds hb
  replace De1 := DigS.on De1 hb
  replace Do0 := DigS.on Do0 hb
  replace Do2 := DigS.on Do2 hb
  replace Dmi := DigS.on Dmi hb
  replace Du := DigS.on Du hb
  replace hO := Row4.on hO hb
  replace hT := Row4.on hT hb
  replace hB := Below.trans hB (hb.mono hB.size)
  clear hb
  clear Df
  obtain ⟨m2, rm2, em2⟩ : ∃ z, Rd z ∧ (s + m1) % Pr = z := ⟨_, Rd.mod _, rfl⟩
  have q := digAdd Ds Dm1
  rw [em2] at q
  have Q := Lib.hid q
  clear q
  go_wp2_with fail
  refine Q.out.mono ?_
  rintro e V3 ⟨v, rfl, D, hb⟩
  obtain ⟨gm2, cm2, rfl, Dm2⟩ := D.form
  clear D Q
  replace De1 := DigS.on De1 hb
  replace Do0 := DigS.on Do0 hb
  replace Do2 := DigS.on Do2 hb
  replace Dmi := DigS.on Dmi hb
  replace Du := DigS.on Du hb
  replace hO := Row4.on hO hb
  replace hT := Row4.on hT hb
  replace hB := Below.trans hB (hb.mono hB.size)
  clear hb
  clear Ds Dm1
  obtain ⟨o1, ro1, eo1⟩ : ∃ z, Rd z ∧ (e1 * m2) % Pr = z := ⟨_, Rd.mod _, rfl⟩
  have q := digMul De1 Dm2
  rw [eo1] at q
  have Q := Lib.hid q
  clear q
  go_wp2_with fail
  refine Q.out.mono ?_
  rintro e V4 ⟨v, rfl, D, hb⟩
  obtain ⟨go1, co1, rfl, Do1⟩ := D.form
  clear D Q
  replace Do0 := DigS.on Do0 hb
  replace Do2 := DigS.on Do2 hb
  replace Dmi := DigS.on Dmi hb
  replace Du := DigS.on Du hb
  replace hO := Row4.on hO hb
  replace hT := Row4.on hT hb
  replace hB := Below.trans hB (hb.mono hB.size)
  clear hb
  clear De1 Dm2
  have hlt4 := hT.lt
  obtain ⟨⟨t0, t1, t2, t3⟩, ⟨f0, f1, f2, f3⟩⟩ := id hT
  replace Do0 := DigS.far Do0 t0 1 (.slice (some ⟨go1, 0, none⟩) 16 co1)
  replace Do1 := DigS.far Do1 t0 1 (.slice (some ⟨go1, 0, none⟩) 16 co1)
  replace Do2 := DigS.far Do2 t0 1 (.slice (some ⟨go1, 0, none⟩) 16 co1)
  replace Dmi := DigS.far Dmi t0 1 (.slice (some ⟨go1, 0, none⟩) 16 co1)
  replace Du := DigS.far Du t0 1 (.slice (some ⟨go1, 0, none⟩) 16 co1)
  replace hO := hO.far (p := ⟨B, 1, none⟩) (show B ≠ w.heap.size + 1 by omega) (.slice (some ⟨go1, 0, none⟩) 16 co1)
  replace hT := hT.set1 (.slice (some ⟨go1, 0, none⟩) 16 co1)
  replace hB := hB.setCell (p := ⟨B, 1, none⟩) hle (.slice (some ⟨go1, 0, none⟩) 16 co1)
  go_wp2_with fail
  clear t0 t1 t2 t3 f0 f1 f2 f3
  generalize World.setCell V4 _ _ = V5 at hO hT hB Do0 Do1 Do2 Dmi Du ⊢
  obtain ⟨m3, rm3, em3⟩ : ∃ z, Rd z ∧ (mi * mi) % Pr = z := ⟨_, Rd.mod _, rfl⟩
  have q := digMul Dmi Dmi
  rw [em3] at q
  have Q := Lib.hid q
  clear q
  go_wp2_with fail
  refine Q.out.mono ?_
  rintro e V6 ⟨v, rfl, D, hb⟩
  obtain ⟨gm3, cm3, rfl, Dm3⟩ := D.form
  clear D Q
  replace Do0 := DigS.on Do0 hb
  replace Do1 := DigS.on Do1 hb
  replace Do2 := DigS.on Do2 hb
  replace Du := DigS.on Du hb
  replace hO := Row4.on hO hb
  replace hT := Row4.on hT hb
  replace hB := Below.trans hB (hb.mono hB.size)
  clear hb
  clear Dmi
  obtain ⟨o3, ro3, eo3⟩ : ∃ z, Rd z ∧ (u * m3) % Pr = z := ⟨_, Rd.mod _, rfl⟩
  have q := digMul Du Dm3
  rw [eo3] at q
  have Q := Lib.hid q
  clear q
  go_wp2_with fail
  refine Q.out.mono ?_
  rintro e V7 ⟨v, rfl, D, hb⟩
  obtain ⟨go3, co3, rfl, Do3⟩ := D.form
  clear D Q
  replace Do0 := DigS.on Do0 hb
  replace Do1 := DigS.on Do1 hb
  replace Do2 := DigS.on Do2 hb
  replace hO := Row4.on hO hb
  replace hT := Row4.on hT hb
  replace hB := Below.trans hB (hb.mono hB.size)
  clear hb
  clear Du Dm3
  have hlt7 := hT.lt
  obtain ⟨⟨t0, t1, t2, t3⟩, ⟨f0, f1, f2, f3⟩⟩ := id hT
  replace Do0 := DigS.far Do0 t0 3 (.slice (some ⟨go3, 0, none⟩) 16 co3)
  replace Do1 := DigS.far Do1 t0 3 (.slice (some ⟨go3, 0, none⟩) 16 co3)
  replace Do2 := DigS.far Do2 t0 3 (.slice (some ⟨go3, 0, none⟩) 16 co3)
  replace Do3 := DigS.far Do3 t0 3 (.slice (some ⟨go3, 0, none⟩) 16 co3)
  replace hO := hO.far (p := ⟨B, 3, none⟩) (show B ≠ w.heap.size + 1 by omega) (.slice (some ⟨go3, 0, none⟩) 16 co3)
  replace hT := hT.set3 (.slice (some ⟨go3, 0, none⟩) 16 co3)
  replace hB := hB.setCell (p := ⟨B, 3, none⟩) hle (.slice (some ⟨go3, 0, none⟩) 16 co3)
  go_upto_region 13 with fail
  clear t0 t1 t2 t3 f0 f1 f2 f3
  generalize World.setCell V7 _ _ = V8 at hO hT hB Do0 Do1 Do2 Do3 ⊢
  have hlt8 := hO.lt
  have hlt9 := hT.lt
  have hS := hO.set (.slice (some ⟨go0, 0, none⟩) 16 co0) (.slice (some ⟨go1, 0, none⟩) 16 co1) (.slice (some ⟨go2, 0, none⟩) 16 co2) (.slice (some ⟨go3, 0, none⟩) 16 co3)
  replace Do0 := DigS.far4 (p2 := some ⟨go0, 0, none⟩) (n2 := 16) (c2 := co0) Do0 hO (.slice (some ⟨go1, 0, none⟩) 16 co1) (.slice (some ⟨go2, 0, none⟩) 16 co2) (.slice (some ⟨go3, 0, none⟩) 16 co3)
  replace Do1 := DigS.far4 (p2 := some ⟨go0, 0, none⟩) (n2 := 16) (c2 := co0) Do1 hO (.slice (some ⟨go1, 0, none⟩) 16 co1) (.slice (some ⟨go2, 0, none⟩) 16 co2) (.slice (some ⟨go3, 0, none⟩) 16 co3)
  replace Do2 := DigS.far4 (p2 := some ⟨go0, 0, none⟩) (n2 := 16) (c2 := co0) Do2 hO (.slice (some ⟨go1, 0, none⟩) 16 co1) (.slice (some ⟨go2, 0, none⟩) 16 co2) (.slice (some ⟨go3, 0, none⟩) 16 co3)
  replace Do3 := DigS.far4 (p2 := some ⟨go0, 0, none⟩) (n2 := 16) (c2 := co0) Do3 hO (.slice (some ⟨go1, 0, none⟩) 16 co1) (.slice (some ⟨go2, 0, none⟩) 16 co2) (.slice (some ⟨go3, 0, none⟩) 16 co3)
  replace hB := below_set4 hB (B := w.heap.size + 1) (by omega) (.slice (some ⟨go0, 0, none⟩) 16 co0) (.slice (some ⟨go1, 0, none⟩) 16 co1) (.slice (some ⟨go2, 0, none⟩) 16 co2) (.slice (some ⟨go3, 0, none⟩) 16 co3)
  refine wp_region_lit ?_
  refine load_four rfl _ rfl B rfl hT ?_
  refine store_four rfl rfl _ _ rfl (w.heap.size + 1) rfl rfl hO ?_
  generalize World.setCell (World.setCell (World.setCell (World.setCell V8 _ _) _ _) _ _) _ _ = V9 at hS hB Do0 Do1 Do2 Do3 ⊢
  refine wpList_nil ?_
  have h0 : o0 = nX2 x2 z2 := by subst o0 t s b a; rfl
  have h1 : o1 = nZ2 x2 z2 := by subst o1 m2 m1 e1 t s b a; unfold nZ2; rw [Int.mul_comm (sE x2 z2) 121665]; rfl
  have h2 : o2 = nX3 x2 z2 x3 z3 := by subst o2 pl cb da c d b a; rfl
  have h3 : o3 = nZ3 u x2 z2 x3 z3 := by subst o3 m3 mi cb da c d b a; rfl
  rw [h0] at Do0
  rw [h1] at Do1
  rw [h2] at Do2
  rw [h3] at Do3
  obtain ⟨⟨s0, s1, s2, s3⟩, -⟩ := hS
  rename_i K hK
  refine hK _ _ ?_
  refine wp_ret ?_
  refine bodyPost_ret (v := .agg #[.slice (some ⟨go0, 0, none⟩) 16 co0, .slice (some ⟨go1, 0, none⟩) 16 co1, .slice (some ⟨go2, 0, none⟩) 16 co2, .slice (some ⟨go3, 0, none⟩) 16 co3]) (by simp [results, Tryz.results98, go_sem, s0, s1, s2, s3]) rfl ⟨_, _, _, _, _, _, _, _, rfl, Do0, Do1, Do2, Do3, hB⟩
end Go.Proofs.YthjlhcmdpeinpaaGreatDoor

/- The reference's clamped key. -/
namespace Go.Proofs.YthjlhcmdpeinpaaGreatDoor
set_option maxRecDepth 100000
open Go.RowKit Go.PlainAid
/-- the text that the reference puts together -/
theorem clampB_join (k : ByteArray) (hk : k.size = 32) : strOfNums [bt k 0 - bt k 0 % 8] ++ k.extract 1 31 ++ strOfNums [bt k 31 % 64 + 64] = clampB k := by
  have hx : (k.extract 1 31).size = 30 := by rw [ByteArray.size_extract, hk]; rfl
  have h1 : (strOfNums [bt k 0 - bt k 0 % 8]).size = 1 := by rw [strOfNums_size]; rfl
  have h2 : (strOfNums [bt k 31 % 64 + 64]).size = 1 := by rw [strOfNums_size]; rfl
  have a0 := bt_nonneg k 0; have a1 := bt_le k 0; have b0 := bt_nonneg k 31; have b1 := bt_le k 31
  have h3 : (strOfNums [bt k 0 - bt k 0 % 8] ++ k.extract 1 31).size = 31 := by rw [ByteArray.size_append, h1, hx]
  refine bytes_ext (by rw [ByteArray.size_append, h3, h2, clampB_size]) fun i hi => ?_
  rw [ByteArray.size_append, h3, h2] at hi
  rw [clampB_bt k i hi, bt_append _ _ i (by omega), h3]
  unfold clampAt
  by_cases hi0 : i = 0
  · subst hi0
    rw [if_pos (by omega), bt_append _ _ 0 (by omega), h1, if_pos (by omega), bt_str _ (fun v hv => by simp at hv; omega) 0 (by simp), if_pos rfl]
    rfl
  · rw [if_neg hi0]
    by_cases hi31 : i = 31
    · subst hi31
      rw [if_neg (by omega), if_pos rfl, bt_str _ (fun v hv => by simp at hv; omega) _ (by simp)]
      rfl
    · rw [if_neg hi31, if_pos (by omega), bt_append _ _ i (by omega), h1, if_neg (by omega), bt_extract _ _ _ _ (by omega) (by omega)]
      congr 1
      omega
theorem pointB_join (u : ByteArray) (hu : u.size = 32) : u.extract 0 31 ++ strOfNums [bt u 31 % 128] = pointB u := by
  have hx : (u.extract 0 31).size = 31 := by rw [ByteArray.size_extract, hu]; rfl
  have h2 : (strOfNums [bt u 31 % 128]).size = 1 := by rw [strOfNums_size]; rfl
  have b0 := bt_nonneg u 31; have b1 := bt_le u 31
  have hp : (pointB u).size = 32 := row32_size _
  refine bytes_ext (by rw [ByteArray.size_append, hx, h2, hp]) fun i hi => ?_
  rw [ByteArray.size_append, hx, h2] at hi
  rw [pointB_bt u i hi, bt_append _ _ i (by omega), hx]
  unfold pointAt
  by_cases hi31 : i = 31
  · subst hi31
    rw [if_neg (by omega), if_pos rfl, bt_str _ (fun v hv => by simp at hv; omega) _ (by simp)]
    rfl
  · rw [if_neg hi31, if_pos (by omega), bt_extract _ _ _ _ (by omega) (by omega), Nat.zero_add]

set_option maxHeartbeats 2000000 in
theorem refClamp_any (k : ByteArray) (hk : k.size = 32) (w : World) :
    Calls Tryz.prog 93 #[.string k] w fun e w' => e = .returned (.string (clampB k)) ∧ Below w.heap.size w w' := by
  have hget := get_bt k
  have a0 := bt_nonneg k 0; have a1 := bt_le k 0; have b0 := bt_nonneg k 31; have b1 := bt_le k 31
  obtain ⟨x, hx⟩ : ∃ x, bt k 0 - bt k 0 % 8 = x := ⟨_, rfl⟩
  obtain ⟨y, hy⟩ : ∃ y, bt k 31 % 64 + 64 = y := ⟨_, rfl⟩
  have hj := clampB_join k hk
  rw [hx, hy] at hj
  have hx0 : 0 ≤ x ∧ x ≤ 255 := by omega
  have hy0 : 0 ≤ y ∧ y ≤ 255 := by omega
  have wx : IntKind.u8.wrap x = x := by rw [IntKind.wrap_u8]; omega
  have wy : IntKind.u8.wrap y = y := by rw [IntKind.wrap_u8]; omega
  have hc1 : ∀ (W : World) (v : Int), (convert 94 9 (.slice (some ⟨W.heap.size, 0, none⟩) 1 1)).run Tryz.prog (W.alloc (.cells #[.int .u8 v] 5)).drew = .ok (.string (strOfNums [v])) (W.alloc (.cells #[.int .u8 v] 5)).drew := fun W v =>
    run_convert_bytes_arg (W.alloc _).drew 94 5 Tryz.underlying94 Tryz.underlying5 W.heap.size 0 1 1 [v] rfl (fun i hi => by obtain rfl : i = 0 := (by omega); simp) 9 Tryz.underlying9
  have hc2 : ∀ (W : World) (v v' : Int), (convert 94 9 (.slice (some ⟨W.heap.size, 0, none⟩) 1 1)).run Tryz.prog ((W.alloc (.cells #[.int .u8 v] 5)).alloc (.cells #[.int .u8 v'] 5)).drew = .ok (.string (strOfNums [v])) ((W.alloc (.cells #[.int .u8 v] 5)).alloc (.cells #[.int .u8 v'] 5)).drew := fun W v v' =>
    run_convert_bytes_arg ((W.alloc _).alloc _).drew 94 5 Tryz.underlying94 Tryz.underlying5 W.heap.size 0 1 1 [v] rfl (fun i hi => by obtain rfl : i = 0 := (by omega); simp) 9 Tryz.underlying9
  have hc3 : ∀ (W : World) (v v' : Int), (convert 94 9 (.slice (some ⟨W.heap.size + 1, 0, none⟩) 1 1)).run Tryz.prog ((W.alloc (.cells #[.int .u8 v] 5)).alloc (.cells #[.int .u8 v'] 5)).drew = .ok (.string (strOfNums [v'])) ((W.alloc (.cells #[.int .u8 v] 5)).alloc (.cells #[.int .u8 v'] 5)).drew := fun W v v' =>
    run_convert_bytes_arg ((W.alloc _).alloc _).drew 94 5 Tryz.underlying94 Tryz.underlying5 (W.heap.size + 1) 0 1 1 [v'] rfl (fun i hi => by obtain rfl : i = 0 := (by omega); simp) 9 Tryz.underlying9
  have hsx : ∀ v : Int, (strOfNums [v]).size = 1 := fun v => by rw [strOfNums_size]; rfl
  have hsm : (k.extract 1 31).size = 30 := by rw [ByteArray.size_extract, hk]; rfl
  go_enter Tryz.func93, Tryz.ntmps93
  go_wp2_with fail
  go_region
  all_goals go_wp2_with fail
  all_goals go_ret
  all_goals rw [← hj]
  all_goals exact ⟨rfl, by go_grown⟩
end Go.Proofs.YthjlhcmdpeinpaaGreatDoor

/- The reference's product of a point and a key. -/
namespace Go.Proofs.YthjlhcmdpeinpaaGreatDoor
set_option maxRecDepth 100000
open Go.RowKit Go.PlainAid
/-- the struct of the four numbers, at block B -/
def PAt (w : World) (B : Nat) (l : Lad) : Prop := ∃ g0 c0 g1 c1 g2 c2 g3 c3 : Nat,
  Row4 w B (.slice (some ⟨g0, 0, none⟩) 16 c0) (.slice (some ⟨g1, 0, none⟩) 16 c1) (.slice (some ⟨g2, 0, none⟩) 16 c2) (.slice (some ⟨g3, 0, none⟩) 16 c3) ∧ DigS w g0 c0 l.x2 ∧ DigS w g1 c1 l.z2 ∧ DigS w g2 c2 l.x3 ∧ DigS w g3 c3 l.z3
def MultRel (w : World) (B gu cu : Nat) (u : Int) (c : ByteArray) (i : Value) (wr : World) : Prop :=
  ∃ k : Nat, k ≤ 255 ∧ i = .int .i64 (254 - (k : Int)) ∧ PAt wr B (Lad.run u (bitsUp c k)) ∧ DigS wr gu cu u ∧ Below w.heap.size w wr

set_option maxHeartbeats 4000000 in
theorem refMult_any (k u : ByteArray) (hk : k.size = 32) (hu : u.size = 32) (w : World) :
    Calls Tryz.prog 61 #[.string k, .string u] w fun e w' => e = .returned (.string (leStr (multN k u))) ∧ Below w.heap.size w w' := by
  have hget := get_bt u
  have b0 := bt_nonneg u 31; have b1 := bt_le u 31
  obtain ⟨x, hx⟩ : ∃ x, bt u 31 % 128 = x := ⟨_, rfl⟩
  have hj := pointB_join u hu
  rw [hx] at hj
  have HJ := Lib.hid hj
  clear hj
  have hx0 : 0 ≤ x ∧ x ≤ 255 := by omega
  have wx : IntKind.u8.wrap x = x := by rw [IntKind.wrap_u8]; omega
  have hwr : IntKind.u8.wrap ((IntKind.i64.wrap (bt u 31)).tmod 128) = x := by
    rw [IntWalk.i64_in _ (by omega), Int.tmod_eq_emod_of_nonneg b0, hx, wx]
  have hc1 : ∀ (W : World) (v : Int), (convert 94 9 (.slice (some ⟨W.heap.size, 0, none⟩) 1 1)).run Tryz.prog (W.alloc (.cells #[.int .u8 v] 5)).drew = .ok (.string (strOfNums [v])) (W.alloc (.cells #[.int .u8 v] 5)).drew := fun W v =>
    run_convert_bytes_arg (W.alloc _).drew 94 5 Tryz.underlying94 Tryz.underlying5 W.heap.size 0 1 1 [v] rfl (fun i hi => by obtain rfl : i = 0 := (by omega); simp) 9 Tryz.underlying9
  have hsx : ∀ v : Int, (strOfNums [v]).size = 1 := fun v => by rw [strOfNums_size]; rfl
  have hsm : (u.extract 0 31).size = 31 := by rw [ByteArray.size_extract, hu]; rfl
  have hsz : (u.extract 0 31 ++ strOfNums [x]).size = 32 := by rw [HJ.out]; exact row32_size _
  have HSZ := Lib.hid hsz
  clear hsz
  go_enter Tryz.func61, Tryz.ntmps61
  go_wp2_with fail
  refine (refClamp_any k hk _).mono ?_
  rintro e w1 ⟨rfl, hB1⟩
  have hs1 := hB1.size
  go_wp2_with fail
  go_region_with (first
    | (go_at_call 95; refine (digDigits _ HSZ.out _).mono ?_; rintro e w2 ⟨v2, rfl, D2, hb2⟩)
    | (go_at_call 94; refine (digLeft D2).mono ?_; rintro e w3 ⟨v3, rfl, D3, hb3⟩))
  all_goals
    have hB2 : Below w.heap.size w w2 := Below.trans (hB1.trans (by go_grown)) (hb2.mono (by simp; omega))
    have hB3 : Below w.heap.size w w3 := hB2.trans (hb3.mono hB2.size)
    rw [HJ.out] at D3
    obtain ⟨gu, cu, rfl, Du⟩ := D3.form
    clear D3 D2 hb2 hb3 hB2 hB1 hs1 hc1 hsx hsm hget wx
    have hB := hB3
    clear hB3
    have rU := Rd.mod (leNum (pointB u))
    have hmN : multN k u = ladOut (leNum (pointB u) % Pr) (bitsUp (clampB k) 255) := rfl
    generalize leNum (pointB u) % Pr = U at Du rU hmN
    go_wp2_with fail
    refine (refSmall_any 1 (by omega) (by omega) _).mono ?_
    rintro e w4 ⟨v, rfl, D, hb⟩
    obtain ⟨g0, c0, rfl, Da⟩ := D.form
    clear D
    replace Du := DigS.on Du hb
    have hB' := hB.trans (hb.mono hB.size)
    clear hB hb
    have hB := hB'
    clear hB'
    go_wp2_with fail
    refine (refSmall_any 0 (by omega) (by omega) _).mono ?_
    rintro e w5 ⟨v, rfl, D, hb⟩
    obtain ⟨g1, c1, rfl, Db⟩ := D.form
    clear D
    replace Du := DigS.on Du hb
    replace Da := DigS.on Da hb
    have hB' := hB.trans (hb.mono hB.size)
    clear hB hb
    have hB := hB'
    clear hB'
    go_wp2_with fail
    refine (refSmall_any 1 (by omega) (by omega) _).mono ?_
    rintro e w6 ⟨v, rfl, D, hb⟩
    obtain ⟨g3, c3, rfl, Dd⟩ := D.form
    clear D
    replace Du := DigS.on Du hb
    replace Da := DigS.on Da hb
    replace Db := DigS.on Db hb
    have hB' := hB.trans (hb.mono hB.size)
    clear hB hb
    have hB := hB'
    clear hB'
    have hT := Row4.fresh_at w6 (.slice (some ⟨g0, 0, none⟩) 16 c0) (.slice (some ⟨g1, 0, none⟩) 16 c1) (.slice (some ⟨gu, 0, none⟩) 16 cu) (.slice (some ⟨g3, 0, none⟩) 16 c3) 143 w6.heap.size rfl
    have hb := (Below.refl w6.heap.size w6).alloc (Nat.le_refl _) (.cells #[.slice (some ⟨g0, 0, none⟩) 16 c0, .slice (some ⟨g1, 0, none⟩) 16 c1, .slice (some ⟨gu, 0, none⟩) 16 cu, .slice (some ⟨g3, 0, none⟩) 16 c3] 143)
    replace Da := DigS.on Da hb
    replace Db := DigS.on Db hb
    replace Dd := DigS.on Dd hb
    replace Du := DigS.on Du hb
    have hle := hB.size
    have hB' := hB.trans (hb.mono hB.size)
    obtain ⟨B, hBe⟩ : ∃ B, w6.heap.size = B := ⟨_, rfl⟩
    rw [hBe] at hT hle
    have hrel0 : MultRel w B gu cu U (clampB k) (.int .i64 254) (w6.alloc (.cells #[.slice (some ⟨g0, 0, none⟩) 16 c0, .slice (some ⟨g1, 0, none⟩) 16 c1, .slice (some ⟨gu, 0, none⟩) 16 cu, .slice (some ⟨g3, 0, none⟩) 16 c3] 143)) :=
      ⟨0, by omega, rfl, ⟨g0, c0, g1, c1, gu, cu, g3, c3, hT, Da, Db, Du, Dd⟩, Du, hB'⟩
    have HR := Lib.hid hrel0
    clear hrel0 hT hb Da Db Dd Du hB hB'
    go_wp2_with fail
    go_loopw [8] (MultRel w B gu cu U (clampB k)) (fun i _ => (intOf i + 1).toNat)
    case atStart => exact HR.out
    case round =>
      clear HR
      obtain ⟨j, hj255, rfl, ⟨a0, d0, a1, d1, a2, d2, a3, d3, hrow, Dx, Dz, Dp, Dq⟩, Du, hB⟩ := hrel
      have hok := Lad.ok_run rU (bitsUp (clampB k) j)
      by_cases hlt : j < 255
      · obtain ⟨i, hi⟩ : ∃ i : Nat, 254 - j = i := ⟨_, rfl⟩
        have e1 : (254 - (j : Int)) = (i : Int) := by omega
        rw [e1]
        have hrun : Lad.run U (bitsUp (clampB k) (j + 1)) = (Lad.run U (bitsUp (clampB k) j)).round U (bitAt (clampB k) i) := by
          rw [bitsUp_succ, Lad.run_snoc, hi]
        have hwlt := hrow.lt
        generalize Lad.run U (bitsUp (clampB k) j) = L at *
        obtain ⟨x2, z2, x3, z3⟩ := L
        obtain ⟨rx, rz, rp, rq⟩ := hok
        change DigS wr a0 d0 x2 at Dx
        change DigS wr a1 d1 z2 at Dz
        change DigS wr a2 d2 x3 at Dp
        change DigS wr a3 d3 z3 at Dq
        change Rd z2 at rz
        change Rd z3 at rq
        have HB := Lib.hid (refBit_any (clampB k) (clampB_size k) i (by omega) wr)
        go_wp2_with fail
        refine HB.out.mono ?_
        rintro e w7 ⟨rfl, rfl⟩
        clear HB
        obtain ⟨⟨t0, t1, t2, t3⟩, -⟩ := id hrow
        cases hbit : bitAt (clampB k) i with
        | false =>
          rw [hbit] at hrun
          have HS := Lib.hid (refStep_any wr Dx Dz Dp Dq Du rz rq)
          clear Dx Dz Dp Dq
          go_wp2_with fail
          refine HS.out.mono ?_
          rintro e w8 ⟨b0', e0, b1', e1', b2', e2', b3', e3', rfl, N0, N1, N2, N3, hb⟩
          clear HS t0 t1 t2 t3
          replace hrow := Row4.on hrow hb
          replace Du := DigS.on Du hb
          replace hB := Below.trans hB (hb.mono hB.size)
          clear hb
          have hlt := hrow.lt
          have hS := hrow.set (.slice (some ⟨b0', 0, none⟩) 16 e0) (.slice (some ⟨b1', 0, none⟩) 16 e1') (.slice (some ⟨b2', 0, none⟩) 16 e2') (.slice (some ⟨b3', 0, none⟩) 16 e3')
          replace N0 := DigS.far4 (p2 := some ⟨b0', 0, none⟩) (n2 := 16) (c2 := e0) N0 hrow (.slice (some ⟨b1', 0, none⟩) 16 e1') (.slice (some ⟨b2', 0, none⟩) 16 e2') (.slice (some ⟨b3', 0, none⟩) 16 e3')
          replace N1 := DigS.far4 (p2 := some ⟨b0', 0, none⟩) (n2 := 16) (c2 := e0) N1 hrow (.slice (some ⟨b1', 0, none⟩) 16 e1') (.slice (some ⟨b2', 0, none⟩) 16 e2') (.slice (some ⟨b3', 0, none⟩) 16 e3')
          replace N2 := DigS.far4 (p2 := some ⟨b0', 0, none⟩) (n2 := 16) (c2 := e0) N2 hrow (.slice (some ⟨b1', 0, none⟩) 16 e1') (.slice (some ⟨b2', 0, none⟩) 16 e2') (.slice (some ⟨b3', 0, none⟩) 16 e3')
          replace N3 := DigS.far4 (p2 := some ⟨b0', 0, none⟩) (n2 := 16) (c2 := e0) N3 hrow (.slice (some ⟨b1', 0, none⟩) 16 e1') (.slice (some ⟨b2', 0, none⟩) 16 e2') (.slice (some ⟨b3', 0, none⟩) 16 e3')
          replace Du := DigS.far4 (p2 := some ⟨b0', 0, none⟩) (n2 := 16) (c2 := e0) Du hrow (.slice (some ⟨b1', 0, none⟩) 16 e1') (.slice (some ⟨b2', 0, none⟩) 16 e2') (.slice (some ⟨b3', 0, none⟩) 16 e3')
          replace hB := below_set4 hB (B := B) hle (.slice (some ⟨b0', 0, none⟩) 16 e0) (.slice (some ⟨b1', 0, none⟩) 16 e1') (.slice (some ⟨b2', 0, none⟩) 16 e2') (.slice (some ⟨b3', 0, none⟩) 16 e3')
          obtain ⟨⟨t0, t1, t2, t3⟩, ⟨f0, f1, f2, f3⟩⟩ := id hrow
          have HX := Lib.hid (show MultRel w B gu cu U (clampB k) (.int .i64 ((i : Int) - 1)) _ from ⟨j + 1, by omega, by rw [show (254 - ((j + 1 : Nat) : Int)) = (i : Int) - 1 by omega], ⟨_, _, _, _, _, _, _, _, hS, by rw [hrun]; exact N0, by rw [hrun]; exact N1, by rw [hrun]; exact N2, by rw [hrun]; exact N3⟩, Du, hB⟩)
          clear hS hrow hB Du N0 N1 N2 N3
          go_wp2_with fail
          go_roundw
          case rel => exact HX.out
          case measure => simp [intOf]
        | true =>
          rw [hbit] at hrun
          have HW := Lib.hid (refSwap_any a0 d0 a1 d1 a2 d2 a3 d3 wr)
          go_wp2_with fail
          refine HW.out.mono ?_
          rintro e w8 ⟨rfl, hb⟩
          clear HW t0 t1 t2 t3
          replace hrow := Row4.on hrow hb
          replace Du := DigS.on Du hb
          replace Dx := DigS.on Dx hb
          replace Dz := DigS.on Dz hb
          replace Dp := DigS.on Dp hb
          replace Dq := DigS.on Dq hb
          replace hB := Below.trans hB (hb.mono hB.size)
          clear hb
          have HS := Lib.hid (refStep_any w8 Dp Dq Dx Dz Du rq rz)
          clear Dx Dz Dp Dq
          go_wp2_with fail
          refine HS.out.mono ?_
          rintro e w9 ⟨b0', e0, b1', e1', b2', e2', b3', e3', rfl, N0, N1, N2, N3, hb⟩
          clear HS
          replace hrow := Row4.on hrow hb
          replace Du := DigS.on Du hb
          replace hB := Below.trans hB (hb.mono hB.size)
          clear hb
          have HW := Lib.hid (refSwap_any b0' e0 b1' e1' b2' e2' b3' e3' w9)
          go_wp2_with fail
          refine HW.out.mono ?_
          rintro e w10 ⟨rfl, hb⟩
          clear HW
          replace hrow := Row4.on hrow hb
          replace Du := DigS.on Du hb
          replace N0 := DigS.on N0 hb
          replace N1 := DigS.on N1 hb
          replace N2 := DigS.on N2 hb
          replace N3 := DigS.on N3 hb
          replace hB := Below.trans hB (hb.mono hB.size)
          clear hb
          have hlt := hrow.lt
          have hS := hrow.set (.slice (some ⟨b2', 0, none⟩) 16 e2') (.slice (some ⟨b3', 0, none⟩) 16 e3') (.slice (some ⟨b0', 0, none⟩) 16 e0) (.slice (some ⟨b1', 0, none⟩) 16 e1')
          replace N2 := DigS.far4 (p2 := some ⟨b2', 0, none⟩) (n2 := 16) (c2 := e2') N2 hrow (.slice (some ⟨b3', 0, none⟩) 16 e3') (.slice (some ⟨b0', 0, none⟩) 16 e0) (.slice (some ⟨b1', 0, none⟩) 16 e1')
          replace N3 := DigS.far4 (p2 := some ⟨b2', 0, none⟩) (n2 := 16) (c2 := e2') N3 hrow (.slice (some ⟨b3', 0, none⟩) 16 e3') (.slice (some ⟨b0', 0, none⟩) 16 e0) (.slice (some ⟨b1', 0, none⟩) 16 e1')
          replace N0 := DigS.far4 (p2 := some ⟨b2', 0, none⟩) (n2 := 16) (c2 := e2') N0 hrow (.slice (some ⟨b3', 0, none⟩) 16 e3') (.slice (some ⟨b0', 0, none⟩) 16 e0) (.slice (some ⟨b1', 0, none⟩) 16 e1')
          replace N1 := DigS.far4 (p2 := some ⟨b2', 0, none⟩) (n2 := 16) (c2 := e2') N1 hrow (.slice (some ⟨b3', 0, none⟩) 16 e3') (.slice (some ⟨b0', 0, none⟩) 16 e0) (.slice (some ⟨b1', 0, none⟩) 16 e1')
          replace Du := DigS.far4 (p2 := some ⟨b2', 0, none⟩) (n2 := 16) (c2 := e2') Du hrow (.slice (some ⟨b3', 0, none⟩) 16 e3') (.slice (some ⟨b0', 0, none⟩) 16 e0) (.slice (some ⟨b1', 0, none⟩) 16 e1')
          replace hB := below_set4 hB (B := B) hle (.slice (some ⟨b2', 0, none⟩) 16 e2') (.slice (some ⟨b3', 0, none⟩) 16 e3') (.slice (some ⟨b0', 0, none⟩) 16 e0) (.slice (some ⟨b1', 0, none⟩) 16 e1')
          obtain ⟨⟨t0, t1, t2, t3⟩, ⟨f0, f1, f2, f3⟩⟩ := id hrow
          have HX := Lib.hid (show MultRel w B gu cu U (clampB k) (.int .i64 ((i : Int) - 1)) _ from ⟨j + 1, by omega, by rw [show (254 - ((j + 1 : Nat) : Int)) = (i : Int) - 1 by omega], ⟨_, _, _, _, _, _, _, _, hS, by rw [hrun]; exact N2, by rw [hrun]; exact N3, by rw [hrun]; exact N0, by rw [hrun]; exact N1⟩, Du, hB⟩)
          clear hS hrow hB Du N2 N3 N0 N1
          go_wp2_with fail
          go_roundw
          case rel => exact HX.out
          case measure => simp [intOf]
      · obtain rfl : j = 255 := by omega
        have hmN' : multN k u = ((Lad.run U (bitsUp (clampB k) 255)).x2 * ((Lad.run U (bitsUp (clampB k) 255)).z2 ^ ExpN % Pr)) % Pr := hmN
        generalize Lad.run U (bitsUp (clampB k) 255) = L at *
        obtain ⟨x2, z2, x3, z3⟩ := L
        change DigS wr a0 d0 x2 at Dx
        change DigS wr a1 d1 z2 at Dz
        change multN k u = (x2 * (z2 ^ ExpN % Pr)) % Pr at hmN'
        clear hok rU hmN Dp Dq Du
        have hwlt := hrow.lt
        obtain ⟨⟨t0, t1, t2, t3⟩, -⟩ := id hrow
        go_wp2_with fail
        go_region_held3 (fun w' => w'.cell? ⟨B, 0, none⟩ = some (.slice (some ⟨a0, 0, none⟩) 16 d0) ∧ w'.cell? ⟨B, 1, none⟩ = some (.slice (some ⟨a1, 0, none⟩) 16 d1))
          (first | (with_reducible assumption) | go_keep | exact ⟨t0, t1⟩)
          (first
          | (go_at_call 100; refine (digInv (w := wr.drew) Dz).mono ?_; rintro e wA ⟨v, rfl, DA, hbA⟩; have hltA : B < wA.heap.size := Nat.lt_of_lt_of_le hwlt hbA.size; have DxA := DigS.on (w := wr.drew) Dx hbA; have hSA : wA.cell? ⟨B, 0, none⟩ = some (.slice (some ⟨a0, 0, none⟩) 16 d0) ∧ wA.cell? ⟨B, 1, none⟩ = some (.slice (some ⟨a1, 0, none⟩) 16 d1) := ⟨(hbA.cell (p := ⟨B, 0, none⟩) hwlt).trans t0, (hbA.cell (p := ⟨B, 1, none⟩) hwlt).trans t1⟩)
          | (go_at_call 99; refine (digMul DxA DA).mono ?_; rintro e wB ⟨v', rfl, DB, hbB⟩; have hltB : B < wB.heap.size := Nat.lt_of_lt_of_le hltA hbB.size; have hSB : wB.cell? ⟨B, 0, none⟩ = some (.slice (some ⟨a0, 0, none⟩) 16 d0) ∧ wB.cell? ⟨B, 1, none⟩ = some (.slice (some ⟨a1, 0, none⟩) 16 d1) := ⟨(hbB.cell (p := ⟨B, 0, none⟩) hltA).trans hSA.1, (hbB.cell (p := ⟨B, 1, none⟩) hltA).trans hSA.2⟩)
          | (go_at_call 72; refine (digText DB).mono ?_; rintro e wC ⟨rfl, hbC⟩; have hSC : wC.cell? ⟨B, 0, none⟩ = some (.slice (some ⟨a0, 0, none⟩) 16 d0) ∧ wC.cell? ⟨B, 1, none⟩ = some (.slice (some ⟨a1, 0, none⟩) 16 d1) := ⟨(hbC.cell (p := ⟨B, 0, none⟩) hltB).trans hSB.1, (hbC.cell (p := ⟨B, 1, none⟩) hltB).trans hSB.2⟩))
        all_goals
          have hBA : Below w.heap.size w wA := hB.drew.trans (hbA.mono hB.size)
          have hBB : Below w.heap.size w wB := hBA.trans (hbB.mono hBA.size)
          have hBC : Below w.heap.size w wC := hBB.trans (hbC.mono hBB.size)
          clear hB hBA hBB hbA hbB hbC hSA hSB hSC DxA DA DB Dx Dz t0 t1 t2 t3 hrow
          go_wp2_with fail
          go_ret
          rw [hmN']
          exact ⟨rfl, hBC⟩
end Go.Proofs.YthjlhcmdpeinpaaGreatDoor
