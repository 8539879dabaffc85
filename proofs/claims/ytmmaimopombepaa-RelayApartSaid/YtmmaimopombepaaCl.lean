/- relay: Pull; law 16: few. -/
import Derived.Test.YtmmaimopombepaaCi
import Derived.Test.YtmmaimopombepaaCk
namespace Go.Proofs.Ytmmaimopombepaa
open Go.RowKit
set_option maxRecDepth 100000

def pullE (r : Rl) (u : Nat) : Int := if ¬ rightR r then 1 else if mailsR r.bx u = [] then 5 else 0
def pullK (r : Rl) (u : Nat) : List Ml := if ¬ rightR r then [] else (mailsR r.bx u).take 5
theorem pullK_le (r : Rl) (u : Nat) : (pullK r u).length ≤ 5 := by
  unfold pullK
  by_cases h : rightR r
  · rw [if_neg (fun g => g h), List.length_take]; omega
  · rw [if_pos h]; simp
set_option maxHeartbeats 8000000 in
theorem pull_any (a : Option Addr) (c : Nat) (L : List BxM) (now next : Nat) (hn : now < 18446744073709551616) (hf : FewB L) (u : Nat) (w : World) (h : SB w a c L) :
    Calls Try.prog 43 #[.agg #[.slice a L.length c, .int .u64 (now : Int), .int .u64 (next : Int)], .int .u64 (u : Int)] w fun e w' => ∃ (a' : Option Addr) (c' : Nat), e = .returned (.tuple #[.slice a' (pullK ⟨bxs L, now, next⟩ u).length c', .int .i64 (pullE ⟨bxs L, now, next⟩ u)]) ∧ PM w' a' c' (pullK ⟨bxs L, now, next⟩ u) ∧ Below w.heap.size w w' := by
  obtain ⟨W0, eW0⟩ : ∃ W0, w.alloc (.cells #[.slice a L.length c, .int .u64 (now : Int), .int .u64 (next : Int)] 56) = W0 := ⟨_, rfl⟩
  have b0 : Below w.heap.size w W0 := by rw [← eW0]; exact (Below.refl _ w).alloc (Nat.le_refl _) _
  obtain ⟨R, eR⟩ : ∃ R, w.heap.size = R := ⟨_, rfl⟩
  have kR : BlkV W0 R 56 [.slice a L.length c, .int .u64 (now : Int), .int .u64 (next : Int)] := by rw [← eW0, ← eR]; exact BlkV.fresh w _ _ _ rfl _ rfl
  have d0 := kR.cell 0 _ rfl
  have d1 := kR.cell 1 _ rfl
  have d2 := kR.cell 2 _ rfl
  have HR := Lib.hid (rightRl_any a c L now next hn hf.2 W0 (h.on b0))
  have HK := Lib.hid (And.intro (show Below R w W0 by rw [← eR]; exact b0) (And.intro kR (And.intro (h.on b0) hf)))
  have HRW := Lib.hid (show R ≤ W0.heap.size by rw [← eR]; exact b0.size)
  obtain ⟨E, eE⟩ : ∃ E, pullE ⟨bxs L, now, next⟩ u = E := ⟨_, rfl⟩
  obtain ⟨P, eP⟩ : ∃ P, pullK ⟨bxs L, now, next⟩ u = P := ⟨_, rfl⟩
  have HE := Lib.hid (And.intro eE eP)
  rw [eE, eP]
  clear b0 kR h hf eE eP
  go_enter Try.func43, Try.ntmps43
  go_upto_region 1 with fail
  clear eW0
  by_cases hr : rightR ⟨bxs L, now, next⟩
  case neg =>
    rw [decide_eq_false hr] at HR
    have HN := Lib.hid (show E = 1 ∧ P = [] from ⟨by rw [← HE.out.1]; exact if_pos hr, by rw [← HE.out.2]; exact if_pos hr⟩)
    clear hr
    go_wp2_with fail
    refine HR.out.mono ?_
    rintro e w1 ⟨rfl, hb1⟩
    have HB := Lib.hid (HK.out.1.trans (hb1.mono HRW.out))
    clear hb1 HR
    go_wp2_with fail
    refine bodyPost_ret (v := .tuple #[.slice none 0 0, .int .i64 1]) (by simp [results, Try.results43, go_sem]) rfl ?_
    rw [HN.out.1, HN.out.2]
    exact ⟨none, 0, rfl, PM.empty _, by first | exact HB.out | (rw [eR]; exact HB.out)⟩
  rw [decide_eq_true hr] at HR
  have HMo := Lib.hid (fun W hW => mailsOf_any a c L now next HK.out.2.2.2 hr.2.2.2.2 u W hW)
  have HE2 := Lib.hid (show E = (if mailsR (bxs L) u = [] then 5 else 0) ∧ P = (mailsR (bxs L) u).take 5 from ⟨by rw [← HE.out.1]; exact if_neg (fun g => g hr), by rw [← HE.out.2]; exact if_neg (fun g => g hr)⟩)
  have hml := mailsR_le HK.out.2.2.2.2 u
  obtain ⟨F, eF⟩ : ∃ F, mailsR (bxs L) u = F := ⟨_, rfl⟩
  simp only [eF] at HMo HE2 hml
  clear HE hr eF
  go_wp2_with fail
  refine HR.out.mono ?_
  rintro e w1 ⟨rfl, hb1⟩
  have k1 := HK.out.2.1.on hb1
  have e0 := k1.cell 0 _ rfl
  have e1 := k1.cell 1 _ rfl
  have e2 := k1.cell 2 _ rfl
  have HM1 := Lib.hid (HMo.out w1 (HK.out.2.2.1.on hb1))
  have HB := Lib.hid (And.intro (HK.out.1.trans (hb1.mono HRW.out)) (Nat.le_trans HRW.out hb1.size))
  clear hb1 HR k1 d0 d1 d2 HMo
  go_wp2_with fail
  refine HM1.out.mono ?_
  rintro e w2 ⟨a2, c2, rfl, ho2, hb2⟩
  have HO := Lib.hid (And.intro ho2 (HB.out.1.trans (hb2.mono HB.out.2)))
  clear ho2 hb2 HM1 e0 e1 e2
  by_cases hF : F = []
  · subst hF
    have HN := Lib.hid (show E = 5 ∧ P = [] from ⟨HE2.out.1.trans (if_pos rfl), HE2.out.2⟩)
    go_wp2_with fail
    refine bodyPost_ret (v := .tuple #[.slice none 0 0, .int .i64 5]) (by simp [results, Try.results43, go_sem]) rfl ?_
    rw [HN.out.1, HN.out.2]
    exact ⟨none, 0, rfl, PM.empty _, by first | exact HO.out.2 | (rw [eR]; exact HO.out.2)⟩
  · have HN := Lib.hid (show E = 0 ∧ P = F.take 5 from ⟨HE2.out.1.trans (if_neg hF), HE2.out.2⟩)
    obtain ⟨hpm, -⟩ := OwnE.pm HO.out.1
    have hFp : 0 < F.length := List.length_pos_iff.2 hF
    obtain ⟨len, elen⟩ : ∃ len, F.length = len := ⟨_, rfl⟩
    obtain ⟨k, ek⟩ : ∃ k, (F.take 5).length = k := ⟨_, rfl⟩
    have ek2 := ek
    rw [List.length_take] at ek2
    have hcap : len ≤ c2 := by rw [← elen]; exact hpm.cap
    have hk : min (len : Int) 5 = (k : Int) := by omega
    have hkc : (k : Int) ≤ (c2 : Int) := by omega
    have hz : ((len : Int) == 0) = false := by simp; omega
    have hz2 : ¬ (len : Int) = 0 := by omega
    have hlz : (len : Int) ≤ 1000 := by omega
    have hC := fun W hW => cloneM_any a2 c2 (F.take 5) (by rw [ek]; omega) W hW
    rw [ek] at hC
    have HC := Lib.hid (hC w2 (hpm.take 5))
    have HA2 := Lib.hid (show a2 ≠ none from fun e => by have := (hpm.nil e).2; exact hF this)
    rw [elen]
    clear hF hpm hFp hcap hC
    cases a2 with
    | none => exact absurd rfl HA2.out
    | some ad =>
      go_wp2_with fail
      refine HC.out.mono ?_
      rintro e w3 ⟨v, rfl, ho3, hb3⟩
      obtain ⟨a3, c3, rfl, g1, g2, g3, -⟩ := ho3.sl
      have HZ := Lib.hid (And.intro (show PM w3 a3 c3 (F.take 5) from ⟨g2, g1, g3⟩) (And.intro hb3 ek))
      clear ho3 hb3 g1 g2 g3
      rw [HZ.out.2.2]
      go_wp2_with fail
      refine bodyPost_ret (v := .tuple #[.slice a3 k c3, .int .i64 0]) (by simp [results, Try.results43, go_sem]) rfl ?_
      rw [HN.out.1, HN.out.2, HZ.out.2.2]
      have hbb := HO.out.2.trans (HZ.out.2.1.mono (by have := HO.out.2.size; omega))
      exact ⟨a3, c3, rfl, HZ.out.1, by first | exact hbb | (rw [eR]; exact hbb)⟩
end Go.Proofs.Ytmmaimopombepaa
