/- ChainRuns: any chain behind any steps, and their keys, are as the document says, or refused. -/
import Derived.Test.YtolobdeilfgmnaaDoorVh
import Derived.Test.YtolobdeilfgmnaaDoorVde
import Derived.Test.YtolobdeilfgmnaaDoorVg
import Derived.Test.YtolobdeilfgmnaaDoorEkeys
namespace Go.Proofs.YtolobdeilfgmnaaDoor
open Go.RowKit
set_option maxRecDepth 100000

set_option maxHeartbeats 16000000 in
theorem chainRuns_any (c : ByteArray) (i : Int) (hc : c.size ≤ maxLen) (hi : -9223372036854775808 ≤ i ∧ i ≤ 9223372036854775807) (w : World) (hF : FirstAt w) (hK : KeysAt w) :
    Calls Tryd.prog 4 #[.string c, .int .i64 i] w fun e w' => e = .returned (.bool true) ∧ Below w.heap.size w w' := by
  have hc1 := cut10_any c hc
  obtain ⟨s, es⟩ : ∃ s, cutS c 40 = s := ⟨_, rfl⟩
  rw [es] at hc1
  have HC1 := Lib.hid hc1
  have HF := Lib.hid hF; have HK := Lib.hid hK; have HB := Lib.hid (Below.refl w.heap.size w)
  clear hc1 es hc hF hK
  go_enter Tryd.func4, Tryd.ntmps4
  go_wp2_with fail
  refine (HC1.out _).mono ?_
  rintro e w1 ⟨rfl, rfl⟩
  clear HC1
  by_cases hm : 12 < i ∧ i ≤ 64
  · obtain ⟨l0, l1⟩ := hm
    obtain ⟨n, en⟩ : ∃ n : Nat, 8 + i % 5 = (n : Int) := ⟨(8 + i % 5).toNat, by omega⟩
    have hn : n ≤ 12 := by omega
    have n3 : i.tmod 5 = i % 5 := Int.tmod_eq_emod_of_nonneg (by omega)
    have n4 : IntKind.i64.wrap (i % 5) = i % 5 := IntWalk.i64_in _ (by omega)
    have n5 : IntKind.i64.wrap (n : Int) = (n : Int) := IntWalk.i64_in _ (by omega)
    by_cases hc : s.size = 32
    case pos =>
      have bn : ((s.size : Int) != 32) = false := by rw [hc]; rfl
      have hR := Run_good s hc n (by omega)
      have hQ := fun kv => refrunC_any kv s hc n (by omega)
      have hL := runK_length s n
      generalize runC s n = C at hR hQ
      generalize runK s n = L at hR hQ hL
      have b0 : decide ((n : Int) < 0) = false := by simp
      have b1 : decide (64 < (n : Int)) = false := by simp; omega
      have HR := Lib.hid hR; have HQ := Lib.hid hQ; have HL := Lib.hid (And.intro hL (show n ≤ 64 by omega))
      clear hR hQ hL hc
      go_wp2_with fail
      refine (HR.out _ HF.out HK.out).mono ?_
      rintro e w2 ⟨v, rfl, ho, hb⟩
      obtain ⟨a, cp, rfl, hrd⟩ := ho.rd
      have HF := Lib.hid (HF.out.on hb); have HK := Lib.hid (HK.out.on hb); have HB := Lib.hid (HB.out.trans (hb.mono HB.out.size))
      have HRD := Lib.hid hrd
      clear ho hb hrd HR
      go_wp2_with fail
      refine (numbers_all _).mono ?_
      rintro e w3 ⟨kv, rfl, hKA, hb⟩
      have HF := Lib.hid (HF.out.on hb); have HK := Lib.hid (HK.out.on hb); have HB := Lib.hid (HB.out.trans (hb.mono HB.out.size))
      have HRD := Lib.hid (HRD.out.on hb); have HKA := Lib.hid hKA
      clear hb hKA
      go_wp2_with fail
      refine (HQ.out kv _ HKA.out).mono ?_
      rintro e w4 ⟨a2, cp2, rfl, hrd2, hb⟩
      have HF := Lib.hid (HF.out.on hb); have HK := Lib.hid (HK.out.on hb); have HB := Lib.hid (HB.out.trans (hb.mono HB.out.size))
      have HRD := Lib.hid (HRD.out.on hb); have HRD2 := Lib.hid hrd2
      clear hb hrd2 HQ HKA
      go_upto_region 8 with fail
      have hb : Below w4.heap.size w4 (w4.alloc (.cells #[.string C, .slice a2 L.length cp2] 41)) := by go_grown
      have hx : (w4.alloc (.cells #[.string C, .slice a2 L.length cp2] 41)).heap[w4.heap.size]? = some (.cells #[.string C, .slice a2 L.length cp2] 41) := heap_alloc_new _ _
      obtain ⟨R, eR⟩ : ∃ R, w4.heap.size = R := ⟨_, rfl⟩
      generalize World.alloc w4 _ = V at hb hx ⊢
      have HF := Lib.hid (HF.out.on hb); have HK := Lib.hid (HK.out.on hb); have HB := Lib.hid (HB.out.trans (hb.mono HB.out.size))
      have HRD := Lib.hid (HRD.out.on hb); have HRD2 := Lib.hid (HRD2.out.on hb)
      rw [eR] at hx
      rw [eR]
      have HX := Lib.hid hx
      clear hb hx eR
      go_wp2_with fail
      refine (alive10_any _ HF.out HK.out).mono ?_
      rintro e w6 ⟨rfl, hb⟩
      have hx : w6.heap[R]? = some (.cells #[.string C, .slice a2 L.length cp2] 41) := (hb.block R (Array.getElem?_eq_some_iff.1 HX.out).1).trans HX.out
      have x0 : w6.cell? ⟨R, 0, none⟩ = some (.string C) := by rw [cell_of_row _ _ _ _ _ _ hx]; rfl
      have x1 : w6.cell? ⟨R, 1, none⟩ = some (.slice a2 L.length cp2) := by rw [cell_of_row _ _ _ _ _ _ hx]; rfl
      have HF := Lib.hid (HF.out.on hb); have HK := Lib.hid (HK.out.on hb); have HB := Lib.hid (HB.out.trans (hb.mono HB.out.size))
      have HT := Lib.hid (texts_eq a a2 cp cp2 L (by have := HL.out; omega) w6 (HRD.out.on hb).ss (HRD2.out.on hb).ss)
      clear hb hx HX HRD HRD2
      go_wp2_with fail
      refine HT.out.mono ?_
      rintro e w7 ⟨rfl, hb⟩
      have HB := Lib.hid (HB.out.trans (hb.mono HB.out.size))
      clear hb HT
      go_wp2_with fail
      go_ret
      exact ⟨by first | rfl | simp, HB.out⟩
    case neg =>
      have bn : ((s.size : Int) != 32) = true := by rw [bne, Bool.not_eq_true']; rw [Bool.eq_false_iff]; intro h; rw [beq_iff_eq] at h; omega
      have hR := Run_bad s (n : Int) (fun h => hc h.1)
      have HR := Lib.hid hR
      clear hR hc
      go_wp2_with fail
      refine (HR.out _).mono ?_
      rintro e w2 ⟨rfl, hb⟩
      have HF := Lib.hid (HF.out.on hb); have HK := Lib.hid (HK.out.on hb); have HB := Lib.hid (HB.out.trans (hb.mono HB.out.size))
      clear hb HR
      go_wp2_with fail
      refine (alive10_any _ HF.out HK.out).mono ?_
      rintro e w3 ⟨rfl, hb⟩
      have HB := Lib.hid (HB.out.trans (hb.mono HB.out.size))
      clear hb
      go_wp2_with fail
      go_ret
      exact ⟨by first | rfl | simp, HB.out⟩
  · by_cases h0 : i < 0
    · have l0 : ¬ 12 < i := by omega
      by_cases hc : s.size = 32
      case pos =>
        have bn : ((s.size : Int) != 32) = false := by rw [hc]; rfl
        have hR := Run_bad s i (fun h => by omega)
        have HR := Lib.hid hR
        clear hR hc
        clear hm
        go_wp2_with fail
        refine (HR.out _).mono ?_
        rintro e w2 ⟨rfl, hb⟩
        have HF := Lib.hid (HF.out.on hb); have HK := Lib.hid (HK.out.on hb); have HB := Lib.hid (HB.out.trans (hb.mono HB.out.size))
        clear hb HR
        go_wp2_with fail
        refine (alive10_any _ HF.out HK.out).mono ?_
        rintro e w3 ⟨rfl, hb⟩
        have HB := Lib.hid (HB.out.trans (hb.mono HB.out.size))
        clear hb
        go_wp2_with fail
        go_ret
        exact ⟨by first | rfl | simp, HB.out⟩
      case neg =>
        have bn : ((s.size : Int) != 32) = true := by rw [bne, Bool.not_eq_true']; rw [Bool.eq_false_iff]; intro h; rw [beq_iff_eq] at h; omega
        have hR := Run_bad s i (fun h => hc h.1)
        have HR := Lib.hid hR
        clear hR hc
        clear hm
        go_wp2_with fail
        refine (HR.out _).mono ?_
        rintro e w2 ⟨rfl, hb⟩
        have HF := Lib.hid (HF.out.on hb); have HK := Lib.hid (HK.out.on hb); have HB := Lib.hid (HB.out.trans (hb.mono HB.out.size))
        clear hb HR
        go_wp2_with fail
        refine (alive10_any _ HF.out HK.out).mono ?_
        rintro e w3 ⟨rfl, hb⟩
        have HB := Lib.hid (HB.out.trans (hb.mono HB.out.size))
        clear hb
        go_wp2_with fail
        go_ret
        exact ⟨by first | rfl | simp, HB.out⟩
    · by_cases h1 : 64 < i
      · have l0 : 12 < i := by omega
        have l1 : ¬ i ≤ 64 := by omega
        by_cases hc : s.size = 32
        case pos =>
          have bn : ((s.size : Int) != 32) = false := by rw [hc]; rfl
          have hR := Run_bad s i (fun h => by omega)
          have HR := Lib.hid hR
          clear hR hc
          clear hm
          go_wp2_with fail
          refine (HR.out _).mono ?_
          rintro e w2 ⟨rfl, hb⟩
          have HF := Lib.hid (HF.out.on hb); have HK := Lib.hid (HK.out.on hb); have HB := Lib.hid (HB.out.trans (hb.mono HB.out.size))
          clear hb HR
          go_wp2_with fail
          refine (alive10_any _ HF.out HK.out).mono ?_
          rintro e w3 ⟨rfl, hb⟩
          have HB := Lib.hid (HB.out.trans (hb.mono HB.out.size))
          clear hb
          go_wp2_with fail
          go_ret
          exact ⟨by first | rfl | simp, HB.out⟩
        case neg =>
          have bn : ((s.size : Int) != 32) = true := by rw [bne, Bool.not_eq_true']; rw [Bool.eq_false_iff]; intro h; rw [beq_iff_eq] at h; omega
          have hR := Run_bad s i (fun h => hc h.1)
          have HR := Lib.hid hR
          clear hR hc
          clear hm
          go_wp2_with fail
          refine (HR.out _).mono ?_
          rintro e w2 ⟨rfl, hb⟩
          have HF := Lib.hid (HF.out.on hb); have HK := Lib.hid (HK.out.on hb); have HB := Lib.hid (HB.out.trans (hb.mono HB.out.size))
          clear hb HR
          go_wp2_with fail
          refine (alive10_any _ HF.out HK.out).mono ?_
          rintro e w3 ⟨rfl, hb⟩
          have HB := Lib.hid (HB.out.trans (hb.mono HB.out.size))
          clear hb
          go_wp2_with fail
          go_ret
          exact ⟨by first | rfl | simp, HB.out⟩
      · obtain ⟨n, rfl⟩ : ∃ n : Nat, i = (n : Int) := ⟨i.toNat, by omega⟩
        have hn : n ≤ 12 := by omega
        have l0 : ¬ 12 < (n : Int) := by omega
        by_cases hc : s.size = 32
        case pos =>
          have bn : ((s.size : Int) != 32) = false := by rw [hc]; rfl
          have hR := Run_good s hc n (by omega)
          have hQ := fun kv => refrunC_any kv s hc n (by omega)
          have hL := runK_length s n
          generalize runC s n = C at hR hQ
          generalize runK s n = L at hR hQ hL
          have b0 : decide ((n : Int) < 0) = false := by simp
          have b1 : decide (64 < (n : Int)) = false := by simp; omega
          have HR := Lib.hid hR; have HQ := Lib.hid hQ; have HL := Lib.hid (And.intro hL (show n ≤ 64 by omega))
          clear hR hQ hL hc
          clear hm h0 h1
          go_wp2_with fail
          refine (HR.out _ HF.out HK.out).mono ?_
          rintro e w2 ⟨v, rfl, ho, hb⟩
          obtain ⟨a, cp, rfl, hrd⟩ := ho.rd
          have HF := Lib.hid (HF.out.on hb); have HK := Lib.hid (HK.out.on hb); have HB := Lib.hid (HB.out.trans (hb.mono HB.out.size))
          have HRD := Lib.hid hrd
          clear ho hb hrd HR
          go_wp2_with fail
          refine (numbers_all _).mono ?_
          rintro e w3 ⟨kv, rfl, hKA, hb⟩
          have HF := Lib.hid (HF.out.on hb); have HK := Lib.hid (HK.out.on hb); have HB := Lib.hid (HB.out.trans (hb.mono HB.out.size))
          have HRD := Lib.hid (HRD.out.on hb); have HKA := Lib.hid hKA
          clear hb hKA
          go_wp2_with fail
          refine (HQ.out kv _ HKA.out).mono ?_
          rintro e w4 ⟨a2, cp2, rfl, hrd2, hb⟩
          have HF := Lib.hid (HF.out.on hb); have HK := Lib.hid (HK.out.on hb); have HB := Lib.hid (HB.out.trans (hb.mono HB.out.size))
          have HRD := Lib.hid (HRD.out.on hb); have HRD2 := Lib.hid hrd2
          clear hb hrd2 HQ HKA
          go_upto_region 8 with fail
          have hb : Below w4.heap.size w4 (w4.alloc (.cells #[.string C, .slice a2 L.length cp2] 41)) := by go_grown
          have hx : (w4.alloc (.cells #[.string C, .slice a2 L.length cp2] 41)).heap[w4.heap.size]? = some (.cells #[.string C, .slice a2 L.length cp2] 41) := heap_alloc_new _ _
          obtain ⟨R, eR⟩ : ∃ R, w4.heap.size = R := ⟨_, rfl⟩
          generalize World.alloc w4 _ = V at hb hx ⊢
          have HF := Lib.hid (HF.out.on hb); have HK := Lib.hid (HK.out.on hb); have HB := Lib.hid (HB.out.trans (hb.mono HB.out.size))
          have HRD := Lib.hid (HRD.out.on hb); have HRD2 := Lib.hid (HRD2.out.on hb)
          rw [eR] at hx
          rw [eR]
          have HX := Lib.hid hx
          clear hb hx eR
          go_wp2_with fail
          refine (alive10_any _ HF.out HK.out).mono ?_
          rintro e w6 ⟨rfl, hb⟩
          have hx : w6.heap[R]? = some (.cells #[.string C, .slice a2 L.length cp2] 41) := (hb.block R (Array.getElem?_eq_some_iff.1 HX.out).1).trans HX.out
          have x0 : w6.cell? ⟨R, 0, none⟩ = some (.string C) := by rw [cell_of_row _ _ _ _ _ _ hx]; rfl
          have x1 : w6.cell? ⟨R, 1, none⟩ = some (.slice a2 L.length cp2) := by rw [cell_of_row _ _ _ _ _ _ hx]; rfl
          have HF := Lib.hid (HF.out.on hb); have HK := Lib.hid (HK.out.on hb); have HB := Lib.hid (HB.out.trans (hb.mono HB.out.size))
          have HT := Lib.hid (texts_eq a a2 cp cp2 L (by have := HL.out; omega) w6 (HRD.out.on hb).ss (HRD2.out.on hb).ss)
          clear hb hx HX HRD HRD2
          go_wp2_with fail
          refine HT.out.mono ?_
          rintro e w7 ⟨rfl, hb⟩
          have HB := Lib.hid (HB.out.trans (hb.mono HB.out.size))
          clear hb HT
          go_wp2_with fail
          go_ret
          exact ⟨by first | rfl | simp, HB.out⟩
        case neg =>
          have bn : ((s.size : Int) != 32) = true := by rw [bne, Bool.not_eq_true']; rw [Bool.eq_false_iff]; intro h; rw [beq_iff_eq] at h; omega
          have hR := Run_bad s (n : Int) (fun h => hc h.1)
          have HR := Lib.hid hR
          clear hR hc
          clear hm h0 h1
          go_wp2_with fail
          refine (HR.out _).mono ?_
          rintro e w2 ⟨rfl, hb⟩
          have HF := Lib.hid (HF.out.on hb); have HK := Lib.hid (HK.out.on hb); have HB := Lib.hid (HB.out.trans (hb.mono HB.out.size))
          clear hb HR
          go_wp2_with fail
          refine (alive10_any _ HF.out HK.out).mono ?_
          rintro e w3 ⟨rfl, hb⟩
          have HB := Lib.hid (HB.out.trans (hb.mono HB.out.size))
          clear hb
          go_wp2_with fail
          go_ret
          exact ⟨by first | rfl | simp, HB.out⟩
end Go.Proofs.YtolobdeilfgmnaaDoor
