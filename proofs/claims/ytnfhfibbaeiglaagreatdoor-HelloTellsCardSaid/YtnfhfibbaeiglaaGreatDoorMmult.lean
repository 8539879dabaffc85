/- The reference's product of a point and a key. -/
import Derived.Test.YtnfhfibbaeiglaaGreatDoorARg2
import Derived.IntWalk
import Derived.Deep.RegionHeld3
namespace Go.Proofs.YtnfhfibbaeiglaaGreatDoor
set_option maxRecDepth 100000
open Go.RowKit Go.PlainAid
/-- the struct of the four numbers, at block B -/
def PAt (w : World) (B : Nat) (l : Lad) : Prop := ∃ g0 c0 g1 c1 g2 c2 g3 c3 : Nat,
  Row4 w B (.slice (some ⟨g0, 0, none⟩) 16 c0) (.slice (some ⟨g1, 0, none⟩) 16 c1) (.slice (some ⟨g2, 0, none⟩) 16 c2) (.slice (some ⟨g3, 0, none⟩) 16 c3) ∧ DigS w g0 c0 l.x2 ∧ DigS w g1 c1 l.z2 ∧ DigS w g2 c2 l.x3 ∧ DigS w g3 c3 l.z3
def MultRel (w : World) (B gu cu : Nat) (u : Int) (c : ByteArray) (i : Value) (wr : World) : Prop :=
  ∃ k : Nat, k ≤ 255 ∧ i = .int .i64 (254 - (k : Int)) ∧ PAt wr B (Lad.run u (bitsUp c k)) ∧ DigS wr gu cu u ∧ Below w.heap.size w wr

set_option maxHeartbeats 4000000 in
theorem refMult_any (k u : ByteArray) (hk : k.size = 32) (hu : u.size = 32) (w : World) :
    Calls Tryz.prog 14 #[.string k, .string u] w fun e w' => e = .returned (.string (leStr (multN k u))) ∧ Below w.heap.size w w' := by
  have hget := get_bt u
  have b0 := bt_nonneg u 31; have b1 := bt_le u 31
  obtain ⟨x, hx⟩ : ∃ x, bt u 31 % 128 = x := ⟨_, rfl⟩
  have hj := pointB_join u hu
  rw [hx] at hj
  have HJ := Lib.hid hj
  clear hj
  have hx0 : 0 ≤ x ∧ x ≤ 255 := by omega
  have wx : IntKind.u8.wrap x = x := by rw [IntKind.wrap_u8]; omega
  have hwr : IntKind.u8.wrap ((IntKind.i64.wrap (bt u 31)).tmod 128) = x := by
    rw [IntWalk.i64_in _ (by omega), Int.tmod_eq_emod_of_nonneg b0, hx, wx]
  have hc1 : ∀ (W : World) (v : Int), (convert 43 9 (.slice (some ⟨W.heap.size, 0, none⟩) 1 1)).run Tryz.prog (W.alloc (.cells #[.int .u8 v] 5)).drew = .ok (.string (strOfNums [v])) (W.alloc (.cells #[.int .u8 v] 5)).drew := fun W v =>
    run_convert_bytes_arg (W.alloc _).drew 43 5 Tryz.underlying43 Tryz.underlying5 W.heap.size 0 1 1 [v] rfl (fun i hi => by obtain rfl : i = 0 := (by omega); simp) 9 Tryz.underlying9
  have hsx : ∀ v : Int, (strOfNums [v]).size = 1 := fun v => by rw [strOfNums_size]; rfl
  have hsm : (u.extract 0 31).size = 31 := by rw [ByteArray.size_extract, hu]; rfl
  have hsz : (u.extract 0 31 ++ strOfNums [x]).size = 32 := by rw [HJ.out]; exact row32_size _
  have HSZ := Lib.hid hsz
  clear hsz
  go_enter Tryz.func14, Tryz.ntmps14
  go_wp2_with fail
  refine (refClamp_any k hk _).mono ?_
  rintro e w1 ⟨rfl, hB1⟩
  have hs1 := hB1.size
  go_wp2_with fail
  go_region_with (first
    | (go_at_call 21; refine (digDigits _ HSZ.out _).mono ?_; rintro e w2 ⟨v2, rfl, D2, hb2⟩)
    | (go_at_call 20; refine (digLeft D2).mono ?_; rintro e w3 ⟨v3, rfl, D3, hb3⟩))
  all_goals
    have hB2 : Below w.heap.size w w2 := Below.trans (hB1.trans (by go_grown)) (hb2.mono (by simp; omega))
    have hB3 : Below w.heap.size w w3 := hB2.trans (hb3.mono hB2.size)
    rw [HJ.out] at D3
    obtain ⟨gu, cu, rfl, Du⟩ := D3.form
    clear D3 D2 hb2 hb3 hB2 hB1 hs1 hc1 hsx hsm hget wx
    have hB := hB3
    clear hB3
    have rU := Rd.mod (leNum (pointB u))
    have hmN : multN k u = ladOut (leNum (pointB u) % Pr) (bitsUp (clampB k) 255) := rfl
    generalize leNum (pointB u) % Pr = U at Du rU hmN
    go_wp2_with fail
    refine (refSmall_any 1 (by omega) (by omega) _).mono ?_
    rintro e w4 ⟨v, rfl, D, hb⟩
    obtain ⟨g0, c0, rfl, Da⟩ := D.form
    clear D
    replace Du := DigS.on Du hb
    have hB' := hB.trans (hb.mono hB.size)
    clear hB hb
    have hB := hB'
    clear hB'
    go_wp2_with fail
    refine (refSmall_any 0 (by omega) (by omega) _).mono ?_
    rintro e w5 ⟨v, rfl, D, hb⟩
    obtain ⟨g1, c1, rfl, Db⟩ := D.form
    clear D
    replace Du := DigS.on Du hb
    replace Da := DigS.on Da hb
    have hB' := hB.trans (hb.mono hB.size)
    clear hB hb
    have hB := hB'
    clear hB'
    go_wp2_with fail
    refine (refSmall_any 1 (by omega) (by omega) _).mono ?_
    rintro e w6 ⟨v, rfl, D, hb⟩
    obtain ⟨g3, c3, rfl, Dd⟩ := D.form
    clear D
    replace Du := DigS.on Du hb
    replace Da := DigS.on Da hb
    replace Db := DigS.on Db hb
    have hB' := hB.trans (hb.mono hB.size)
    clear hB hb
    have hB := hB'
    clear hB'
    have hT := Row4.fresh_at w6 (.slice (some ⟨g0, 0, none⟩) 16 c0) (.slice (some ⟨g1, 0, none⟩) 16 c1) (.slice (some ⟨gu, 0, none⟩) 16 cu) (.slice (some ⟨g3, 0, none⟩) 16 c3) 46 w6.heap.size rfl
    have hb := (Below.refl w6.heap.size w6).alloc (Nat.le_refl _) (.cells #[.slice (some ⟨g0, 0, none⟩) 16 c0, .slice (some ⟨g1, 0, none⟩) 16 c1, .slice (some ⟨gu, 0, none⟩) 16 cu, .slice (some ⟨g3, 0, none⟩) 16 c3] 46)
    replace Da := DigS.on Da hb
    replace Db := DigS.on Db hb
    replace Dd := DigS.on Dd hb
    replace Du := DigS.on Du hb
    have hle := hB.size
    have hB' := hB.trans (hb.mono hB.size)
    obtain ⟨B, hBe⟩ : ∃ B, w6.heap.size = B := ⟨_, rfl⟩
    rw [hBe] at hT hle
    have hrel0 : MultRel w B gu cu U (clampB k) (.int .i64 254) (w6.alloc (.cells #[.slice (some ⟨g0, 0, none⟩) 16 c0, .slice (some ⟨g1, 0, none⟩) 16 c1, .slice (some ⟨gu, 0, none⟩) 16 cu, .slice (some ⟨g3, 0, none⟩) 16 c3] 46)) :=
      ⟨0, by omega, rfl, ⟨g0, c0, g1, c1, gu, cu, g3, c3, hT, Da, Db, Du, Dd⟩, Du, hB'⟩
    have HR := Lib.hid hrel0
    clear hrel0 hT hb Da Db Dd Du hB hB'
    go_wp2_with fail
    go_loopw [8] (MultRel w B gu cu U (clampB k)) (fun i _ => (intOf i + 1).toNat)
    case atStart => exact HR.out
    case round =>
      clear HR
      obtain ⟨j, hj255, rfl, ⟨a0, d0, a1, d1, a2, d2, a3, d3, hrow, Dx, Dz, Dp, Dq⟩, Du, hB⟩ := hrel
      have hok := Lad.ok_run rU (bitsUp (clampB k) j)
      by_cases hlt : j < 255
      · obtain ⟨i, hi⟩ : ∃ i : Nat, 254 - j = i := ⟨_, rfl⟩
        have e1 : (254 - (j : Int)) = (i : Int) := by omega
        rw [e1]
        have hrun : Lad.run U (bitsUp (clampB k) (j + 1)) = (Lad.run U (bitsUp (clampB k) j)).round U (bitAt (clampB k) i) := by
          rw [bitsUp_succ, Lad.run_snoc, hi]
        have hwlt := hrow.lt
        generalize Lad.run U (bitsUp (clampB k) j) = L at *
        obtain ⟨x2, z2, x3, z3⟩ := L
        obtain ⟨rx, rz, rp, rq⟩ := hok
        change DigS wr a0 d0 x2 at Dx
        change DigS wr a1 d1 z2 at Dz
        change DigS wr a2 d2 x3 at Dp
        change DigS wr a3 d3 z3 at Dq
        change Rd z2 at rz
        change Rd z3 at rq
        have HB := Lib.hid (refBit_any (clampB k) (clampB_size k) i (by omega) wr)
        go_wp2_with fail
        refine HB.out.mono ?_
        rintro e w7 ⟨rfl, rfl⟩
        clear HB
        obtain ⟨⟨t0, t1, t2, t3⟩, -⟩ := id hrow
        cases hbit : bitAt (clampB k) i with
        | false =>
          rw [hbit] at hrun
          have HS := Lib.hid (refStep_any wr Dx Dz Dp Dq Du rz rq)
          clear Dx Dz Dp Dq
          go_wp2_with fail
          refine HS.out.mono ?_
          rintro e w8 ⟨b0', e0, b1', e1', b2', e2', b3', e3', rfl, N0, N1, N2, N3, hb⟩
          clear HS t0 t1 t2 t3
          replace hrow := Row4.on hrow hb
          replace Du := DigS.on Du hb
          replace hB := Below.trans hB (hb.mono hB.size)
          clear hb
          have hlt := hrow.lt
          have hS := hrow.set (.slice (some ⟨b0', 0, none⟩) 16 e0) (.slice (some ⟨b1', 0, none⟩) 16 e1') (.slice (some ⟨b2', 0, none⟩) 16 e2') (.slice (some ⟨b3', 0, none⟩) 16 e3')
          replace N0 := DigS.far4 (p2 := some ⟨b0', 0, none⟩) (n2 := 16) (c2 := e0) N0 hrow (.slice (some ⟨b1', 0, none⟩) 16 e1') (.slice (some ⟨b2', 0, none⟩) 16 e2') (.slice (some ⟨b3', 0, none⟩) 16 e3')
          replace N1 := DigS.far4 (p2 := some ⟨b0', 0, none⟩) (n2 := 16) (c2 := e0) N1 hrow (.slice (some ⟨b1', 0, none⟩) 16 e1') (.slice (some ⟨b2', 0, none⟩) 16 e2') (.slice (some ⟨b3', 0, none⟩) 16 e3')
          replace N2 := DigS.far4 (p2 := some ⟨b0', 0, none⟩) (n2 := 16) (c2 := e0) N2 hrow (.slice (some ⟨b1', 0, none⟩) 16 e1') (.slice (some ⟨b2', 0, none⟩) 16 e2') (.slice (some ⟨b3', 0, none⟩) 16 e3')
          replace N3 := DigS.far4 (p2 := some ⟨b0', 0, none⟩) (n2 := 16) (c2 := e0) N3 hrow (.slice (some ⟨b1', 0, none⟩) 16 e1') (.slice (some ⟨b2', 0, none⟩) 16 e2') (.slice (some ⟨b3', 0, none⟩) 16 e3')
          replace Du := DigS.far4 (p2 := some ⟨b0', 0, none⟩) (n2 := 16) (c2 := e0) Du hrow (.slice (some ⟨b1', 0, none⟩) 16 e1') (.slice (some ⟨b2', 0, none⟩) 16 e2') (.slice (some ⟨b3', 0, none⟩) 16 e3')
          replace hB := below_set4 hB (B := B) hle (.slice (some ⟨b0', 0, none⟩) 16 e0) (.slice (some ⟨b1', 0, none⟩) 16 e1') (.slice (some ⟨b2', 0, none⟩) 16 e2') (.slice (some ⟨b3', 0, none⟩) 16 e3')
          obtain ⟨⟨t0, t1, t2, t3⟩, ⟨f0, f1, f2, f3⟩⟩ := id hrow
          have HX := Lib.hid (show MultRel w B gu cu U (clampB k) (.int .i64 ((i : Int) - 1)) _ from ⟨j + 1, by omega, by rw [show (254 - ((j + 1 : Nat) : Int)) = (i : Int) - 1 by omega], ⟨_, _, _, _, _, _, _, _, hS, by rw [hrun]; exact N0, by rw [hrun]; exact N1, by rw [hrun]; exact N2, by rw [hrun]; exact N3⟩, Du, hB⟩)
          clear hS hrow hB Du N0 N1 N2 N3
          go_wp2_with fail
          go_roundw
          case rel => exact HX.out
          case measure => simp [intOf]
        | true =>
          rw [hbit] at hrun
          have HW := Lib.hid (refSwap_any a0 d0 a1 d1 a2 d2 a3 d3 wr)
          go_wp2_with fail
          refine HW.out.mono ?_
          rintro e w8 ⟨rfl, hb⟩
          clear HW t0 t1 t2 t3
          replace hrow := Row4.on hrow hb
          replace Du := DigS.on Du hb
          replace Dx := DigS.on Dx hb
          replace Dz := DigS.on Dz hb
          replace Dp := DigS.on Dp hb
          replace Dq := DigS.on Dq hb
          replace hB := Below.trans hB (hb.mono hB.size)
          clear hb
          have HS := Lib.hid (refStep_any w8 Dp Dq Dx Dz Du rq rz)
          clear Dx Dz Dp Dq
          go_wp2_with fail
          refine HS.out.mono ?_
          rintro e w9 ⟨b0', e0, b1', e1', b2', e2', b3', e3', rfl, N0, N1, N2, N3, hb⟩
          clear HS
          replace hrow := Row4.on hrow hb
          replace Du := DigS.on Du hb
          replace hB := Below.trans hB (hb.mono hB.size)
          clear hb
          have HW := Lib.hid (refSwap_any b0' e0 b1' e1' b2' e2' b3' e3' w9)
          go_wp2_with fail
          refine HW.out.mono ?_
          rintro e w10 ⟨rfl, hb⟩
          clear HW
          replace hrow := Row4.on hrow hb
          replace Du := DigS.on Du hb
          replace N0 := DigS.on N0 hb
          replace N1 := DigS.on N1 hb
          replace N2 := DigS.on N2 hb
          replace N3 := DigS.on N3 hb
          replace hB := Below.trans hB (hb.mono hB.size)
          clear hb
          have hlt := hrow.lt
          have hS := hrow.set (.slice (some ⟨b2', 0, none⟩) 16 e2') (.slice (some ⟨b3', 0, none⟩) 16 e3') (.slice (some ⟨b0', 0, none⟩) 16 e0) (.slice (some ⟨b1', 0, none⟩) 16 e1')
          replace N2 := DigS.far4 (p2 := some ⟨b2', 0, none⟩) (n2 := 16) (c2 := e2') N2 hrow (.slice (some ⟨b3', 0, none⟩) 16 e3') (.slice (some ⟨b0', 0, none⟩) 16 e0) (.slice (some ⟨b1', 0, none⟩) 16 e1')
          replace N3 := DigS.far4 (p2 := some ⟨b2', 0, none⟩) (n2 := 16) (c2 := e2') N3 hrow (.slice (some ⟨b3', 0, none⟩) 16 e3') (.slice (some ⟨b0', 0, none⟩) 16 e0) (.slice (some ⟨b1', 0, none⟩) 16 e1')
          replace N0 := DigS.far4 (p2 := some ⟨b2', 0, none⟩) (n2 := 16) (c2 := e2') N0 hrow (.slice (some ⟨b3', 0, none⟩) 16 e3') (.slice (some ⟨b0', 0, none⟩) 16 e0) (.slice (some ⟨b1', 0, none⟩) 16 e1')
          replace N1 := DigS.far4 (p2 := some ⟨b2', 0, none⟩) (n2 := 16) (c2 := e2') N1 hrow (.slice (some ⟨b3', 0, none⟩) 16 e3') (.slice (some ⟨b0', 0, none⟩) 16 e0) (.slice (some ⟨b1', 0, none⟩) 16 e1')
          replace Du := DigS.far4 (p2 := some ⟨b2', 0, none⟩) (n2 := 16) (c2 := e2') Du hrow (.slice (some ⟨b3', 0, none⟩) 16 e3') (.slice (some ⟨b0', 0, none⟩) 16 e0) (.slice (some ⟨b1', 0, none⟩) 16 e1')
          replace hB := below_set4 hB (B := B) hle (.slice (some ⟨b2', 0, none⟩) 16 e2') (.slice (some ⟨b3', 0, none⟩) 16 e3') (.slice (some ⟨b0', 0, none⟩) 16 e0) (.slice (some ⟨b1', 0, none⟩) 16 e1')
          obtain ⟨⟨t0, t1, t2, t3⟩, ⟨f0, f1, f2, f3⟩⟩ := id hrow
          have HX := Lib.hid (show MultRel w B gu cu U (clampB k) (.int .i64 ((i : Int) - 1)) _ from ⟨j + 1, by omega, by rw [show (254 - ((j + 1 : Nat) : Int)) = (i : Int) - 1 by omega], ⟨_, _, _, _, _, _, _, _, hS, by rw [hrun]; exact N2, by rw [hrun]; exact N3, by rw [hrun]; exact N0, by rw [hrun]; exact N1⟩, Du, hB⟩)
          clear hS hrow hB Du N2 N3 N0 N1
          go_wp2_with fail
          go_roundw
          case rel => exact HX.out
          case measure => simp [intOf]
      · obtain rfl : j = 255 := by omega
        have hmN' : multN k u = ((Lad.run U (bitsUp (clampB k) 255)).x2 * ((Lad.run U (bitsUp (clampB k) 255)).z2 ^ ExpN % Pr)) % Pr := hmN
        generalize Lad.run U (bitsUp (clampB k) 255) = L at *
        obtain ⟨x2, z2, x3, z3⟩ := L
        change DigS wr a0 d0 x2 at Dx
        change DigS wr a1 d1 z2 at Dz
        change multN k u = (x2 * (z2 ^ ExpN % Pr)) % Pr at hmN'
        clear hok rU hmN Dp Dq Du
        have hwlt := hrow.lt
        obtain ⟨⟨t0, t1, t2, t3⟩, -⟩ := id hrow
        go_wp2_with fail
        go_region_held3 (fun w' => w'.cell? ⟨B, 0, none⟩ = some (.slice (some ⟨a0, 0, none⟩) 16 d0) ∧ w'.cell? ⟨B, 1, none⟩ = some (.slice (some ⟨a1, 0, none⟩) 16 d1))
          (first | (with_reducible assumption) | go_keep | exact ⟨t0, t1⟩)
          (first
          | (go_at_call 28; refine (digInv (w := wr.drew) Dz).mono ?_; rintro e wA ⟨v, rfl, DA, hbA⟩; have hltA : B < wA.heap.size := Nat.lt_of_lt_of_le hwlt hbA.size; have DxA := DigS.on (w := wr.drew) Dx hbA; have hSA : wA.cell? ⟨B, 0, none⟩ = some (.slice (some ⟨a0, 0, none⟩) 16 d0) ∧ wA.cell? ⟨B, 1, none⟩ = some (.slice (some ⟨a1, 0, none⟩) 16 d1) := ⟨(hbA.cell (p := ⟨B, 0, none⟩) hwlt).trans t0, (hbA.cell (p := ⟨B, 1, none⟩) hwlt).trans t1⟩)
          | (go_at_call 27; refine (digMul DxA DA).mono ?_; rintro e wB ⟨v', rfl, DB, hbB⟩; have hltB : B < wB.heap.size := Nat.lt_of_lt_of_le hltA hbB.size; have hSB : wB.cell? ⟨B, 0, none⟩ = some (.slice (some ⟨a0, 0, none⟩) 16 d0) ∧ wB.cell? ⟨B, 1, none⟩ = some (.slice (some ⟨a1, 0, none⟩) 16 d1) := ⟨(hbB.cell (p := ⟨B, 0, none⟩) hltA).trans hSA.1, (hbB.cell (p := ⟨B, 1, none⟩) hltA).trans hSA.2⟩)
          | (go_at_call 26; refine (digText DB).mono ?_; rintro e wC ⟨rfl, hbC⟩; have hSC : wC.cell? ⟨B, 0, none⟩ = some (.slice (some ⟨a0, 0, none⟩) 16 d0) ∧ wC.cell? ⟨B, 1, none⟩ = some (.slice (some ⟨a1, 0, none⟩) 16 d1) := ⟨(hbC.cell (p := ⟨B, 0, none⟩) hltB).trans hSB.1, (hbC.cell (p := ⟨B, 1, none⟩) hltB).trans hSB.2⟩))
        all_goals
          have hBA : Below w.heap.size w wA := hB.drew.trans (hbA.mono hB.size)
          have hBB : Below w.heap.size w wB := hBA.trans (hbB.mono hBA.size)
          have hBC : Below w.heap.size w wC := hBB.trans (hbC.mono hBB.size)
          clear hB hBA hBB hbA hbB hbC hSA hSB hSC DxA DA DB Dx Dz t0 t1 t2 t3 hrow
          go_wp2_with fail
          go_ret
          rw [hmN']
          exact ⟨rfl, hBC⟩
end Go.Proofs.YtnfhfibbaeiglaaGreatDoor