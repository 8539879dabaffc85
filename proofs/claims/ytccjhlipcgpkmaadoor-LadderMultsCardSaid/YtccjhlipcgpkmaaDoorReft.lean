/- The walk of the reference's difference of digits. -/
import Derived.Test.YtccjhlipcgpkmaaDoorRefs
namespace Go.Proofs.YtccjhlipcgpkmaaDoor
open Go.RowKit

set_option maxHeartbeats 1000000 in
theorem refSub_any (va vb : Value) (a b : List Int) (hla : a.length = 16) (hlb : b.length = 16) (hsa : Small a) (hsb : Small b) (hlt : valD b < Pr) (w : World) (hA : IntsAt w va a) (hB : IntsAt w vb b) :
    Calls Tryd.prog 20 #[va, vb] w (RefPost ((valD a - valD b) % Pr) w) := by
  obtain ⟨ga, ca, rfl, hga, hca⟩ := hA
  obtain ⟨gb, cb, rfl, hgb, hcb⟩ := hB
  have HCA := Lib.hid hca; have HCB := Lib.hid hcb; have HLA := Lib.hid hla; have HLB := Lib.hid hlb; have HSA := Lib.hid hsa; have HSB := Lib.hid hsb; have HLT := Lib.hid hlt
  clear hca hcb hsa hsb hlt
  rw [hla, hlb]
  clear hla hlb
  go_enter Tryd.func20, Tryd.ntmps20
  go_wp2_with fail
  refine (refPrime_any _).mono ?_
  rintro e w1 ⟨pv, rfl, hP, hB1⟩
  obtain ⟨pb, pc, rfl, hpb, hpc⟩ := hP.at (by decide)
  have HP := Lib.hid hpc; have HB1 := Lib.hid hB1
  have hsz1 := hB1.size
  clear hpc hP hB1
  rw [prime_length]
  go_wp2_with fail
  go_loopw [6, 7, 14] (SubRel w1 a b) (fun _ _ i _ => 16 - (intOf i).toNat)
  case atStart => exact ⟨0, _, _, [], 0, by omega, rfl, rfl, rfl, ⟨rfl, fun _ h => by simp at h, by omega, by simp [valD], fun h => by omega⟩, Ints.empty w1 _ (Nat.le_refl _), by go_grown⟩
  case round =>
    obtain ⟨k, g, cap, out, borrow, hk, rfl, rfl, rfl, hinv, hI, hBl⟩ := hrel
    have hsz := hBl.size
    have HI := Lib.hid hI; have HV := Lib.hid hinv
    obtain ⟨o0, o1⟩ := hinv.2.2.1
    clear hI hinv
    by_cases hlt : k < 16
    · have h1 : (k : Int) < 16 := by omega
      have hka : k < a.length := by rw [HLA.out]; exact hlt
      have hkb : k < b.length := by rw [HLB.out]; exact hlt
      have hkp : k < primeDigits.length := by rw [prime_length]; exact hlt
      have hda := HSA.out _ (List.getElem_mem hka)
      have hdb := HSB.out _ (List.getElem_mem hkb)
      have hdp := prime_small_digits _ (List.getElem_mem hkp)
      have c1 : wr.cell? ⟨ga, k, none⟩ = some (.int .i64 a[k]) := by
        rw [hBl.cell (p := ⟨ga, k, none⟩) (show ga < w1.heap.size by omega), HB1.out.cell (p := ⟨ga, k, none⟩) hga]; exact at_cell HCA.out k hka
      have c2 : wr.cell? ⟨gb, k, none⟩ = some (.int .i64 b[k]) := by
        rw [hBl.cell (p := ⟨gb, k, none⟩) (show gb < w1.heap.size by omega), HB1.out.cell (p := ⟨gb, k, none⟩) hgb]; exact at_cell HCB.out k hkb
      have c3 : wr.cell? ⟨pb, k, none⟩ = some (.int .i64 primeDigits[k]) := by
        rw [hBl.cell (p := ⟨pb, k, none⟩) hpb]; exact at_cell HP.out k hkp
      have hst := fun d r hr hd hn => sub_step (d := d) (r := r) hka hkb hkp HSA.out HSB.out HV.out hr hd hn
      have HST := Lib.hid hst
      clear hst
      generalize a[k] = x at *
      generalize b[k] = z at *
      generalize primeDigits[k] = y at *
      obtain ⟨x0, x1⟩ := hda
      obtain ⟨z0, z1⟩ := hdb
      obtain ⟨y0, y1⟩ := hdp
      have l1 : ga < wr.heap.size := by omega
      have l2 : gb < wr.heap.size := by omega
      have l3 : pb < wr.heap.size := by omega
      have w1' : IntKind.i64.wrap (x + y) = x + y := IntWalk.i64_in _ (by omega)
      have w2' : IntKind.i64.wrap (x + y - z) = x + y - z := IntWalk.i64_in _ (by omega)
      have w3' : IntKind.i64.wrap (x + y - z - borrow) = x + y - z - borrow := IntWalk.i64_in _ (by omega)
      have w4' : IntKind.i64.wrap (x + y - z - borrow + 65536) = x + y - z - borrow + 65536 := IntWalk.i64_in _ (by omega)
      have HOL := Lib.hid HV.out.1
      by_cases hneg : x + y - z - borrow < 0
      · have t1 : x + y - z - borrow + 65536 < 65536 := by omega
        go_wp2_with fail
        go_quiet (fail)
        go_wp2_with (at_builtin; refine append_int rfl _ _ rfl w1.heap.size _ out (x + y - z - borrow + 65536) wr.heap.size rfl ?c0 rfl ?c1 ?c2 ?c3 ?_)
        case c0 => exact Ints.alloc (w := wr.drewN _) HI.out _
        case c1 => exact World.cell?_alloc_new (wr.drewN _) _ _ 0
        case c2 => rw [HOL.out]; omega
        case c3 => simp; omega
        intro g' cap' w' hI' hg'
        have hB' := Ints.below_grown (wr := wr.drewN _) HI.out (below_quiet hBl _) hsz hg'
        clear hg' hBl
        have HI' := Lib.hid hI'
        clear hI'
        have HS2 := Lib.hid (HST.out (x + y - z - borrow + 65536) 1 (by omega) (by omega) (by omega))
        go_wp2_with fail
        refine ⟨⟨k + 1, g', cap', _, _, by omega, by simp, rfl, by rw [HOL.out], HS2.out, HI'.out, hB'⟩, by simp [intOf]; omega⟩
      · have t1 : ¬ x + y - z - borrow + 65536 < 65536 := by omega
        have t2 : 65536 ≤ x + y - z - borrow + 65536 := by omega
        go_wp2_with fail
        go_quiet (fail)
        go_wp2_with (at_builtin; refine append_int rfl _ _ rfl w1.heap.size _ out (x + y - z - borrow) wr.heap.size rfl ?d0 rfl ?d1 ?d2 ?d3 ?_)
        case d0 => exact Ints.alloc (w := wr.drewN _) HI.out _
        case d1 => exact World.cell?_alloc_new (wr.drewN _) _ _ 0
        case d2 => rw [HOL.out]; omega
        case d3 => simp; omega
        intro g' cap' w' hI' hg'
        have hB' := Ints.below_grown (wr := wr.drewN _) HI.out (below_quiet hBl _) hsz hg'
        clear hg' hBl
        have HI' := Lib.hid hI'
        clear hI'
        have HS2 := Lib.hid (HST.out (x + y - z - borrow) 0 (by omega) (by omega) (by omega))
        go_wp2_with fail
        refine ⟨⟨k + 1, g', cap', _, _, by omega, by simp, rfl, by rw [HOL.out], HS2.out, HI'.out, hB'⟩, by simp [intOf]; omega⟩
    · obtain rfl : k = 16 := by omega
      have hol : out.length = 16 := HV.out.1
      have hleft := left_ref_any _ out hol (fun d hd => by have := HV.out.2.1 d hd; omega) wr (by have := HI.out.at (by rw [hol]; omega); exact this)
      have hval := sub_done HLA.out HLB.out HLT.out HV.out
      rw [hval] at hleft
      have HLF := Lib.hid hleft
      clear hleft hval hol
      go_wp2_with fail
      refine HLF.out.mono ?_
      rintro e w2 ⟨v2, out2, rfl, l2, s2, e2, i2, b2⟩
      go_wp2_with fail
      go_ret
      exact ⟨v2, out2, rfl, l2, s2, e2, World.ownsRow.mono i2 (Nat.le_trans hsz1 hsz), (HB1.out.trans (hBl.mono hsz1)).trans (b2.mono (Nat.le_trans hsz1 hsz))⟩
end Go.Proofs.YtccjhlipcgpkmaaDoor
