/- The package frame's Get. -/
import Derived.Test.YtollaaooinoafaaDoorTk
namespace Go.Proofs.YtollaaooinoafaaDoor
open Go.RowKit Go.Sort
set_option maxRecDepth 100000
def GetRel (w : World) (RB : Nat) (s : List UInt8) (i : Value) (wr : World) : Prop :=
  ∃ k : Nat, k ≤ 3 ∧ i = .int .i64 (k : Int) ∧ (∀ j, j < k → preB s j = false) ∧ BlkV wr RB 25 zeroL ∧ Below w.heap.size w wr
theorem getF_at (s : List UInt8) (k : Nat) (hk : k < 3) (h0 : ∀ j, j < k → preB s j = false) (h : preB s k = true) : getF s = getK k s := by
  rw [getF_pre]
  match k, hk with
  | 0, _ => rw [if_pos h]
  | 1, _ => rw [if_neg (by rw [h0 0 (by omega)]; decide), if_pos h]
  | 2, _ => rw [if_neg (by rw [h0 0 (by omega)]; decide), if_neg (by rw [h0 1 (by omega)]; decide), if_pos h]
theorem getF_no (s : List UInt8) (h0 : ∀ j, j < 3 → preB s j = false) : getF s = none := by
  rw [getF_pre, if_neg (by rw [h0 0 (by omega)]; decide), if_neg (by rw [h0 1 (by omega)]; decide), if_neg (by rw [h0 2 (by omega)]; decide)]
set_option maxHeartbeats 4000000 in
theorem fGet_any (s : ByteArray) (hs : s.size ≤ maxLen) (w : World) (hF : FmtAt w) :
    Calls Tryd.prog 16 #[.string s] w fun e w' => ∃ (a : Option Addr) (c : Nat), e = .returned (.tuple #[frV (gotF (getF (bl s))) a c, .int .i64 (gotE (getF (bl s)))]) ∧ (gotF (getF (bl s))).keys.length ≤ c ∧ SSl w' a (gotF (getF (bl s))).keys ∧ Below w.heap.size w w' := by
  obtain ⟨W0, eW0⟩ : ∃ W0, w.alloc (.cells zeroL.toArray 25) = W0 := ⟨_, rfl⟩
  have hB0 : Below w.heap.size w W0 := by rw [← eW0]; exact (Below.refl _ _).alloc (Nat.le_refl _) _
  have hR0 : BlkV W0 w.heap.size 25 zeroL := by rw [← eW0]; exact BlkV.fresh _ _ _ _ rfl _ rfl
  obtain ⟨ans, eans⟩ : ∃ ans, getF (bl s) = ans := ⟨_, rfl⟩
  rw [eans]
  obtain ⟨RB, eRB⟩ : ∃ RB, w.heap.size = RB := ⟨_, rfl⟩
  rw [eRB] at hR0
  have HEW := Lib.hid eW0; have HB0 := Lib.hid hB0; have HR0 := Lib.hid hR0; have HANS := Lib.hid eans; have HF := Lib.hid hF; have HS := Lib.hid hs; have HRB := Lib.hid eRB
  clear eW0 hB0 hR0 eans hF hs eRB
  go_enter Tryd.func16, Tryd.ntmps16
  go_upto_region 1 with fail
  change Code.wp Tryd.prog _ _ _ (w.alloc (.cells zeroL.toArray 25))
  rw [HEW.out, HRB.out]
  clear HEW
  go_upto_region 2 with fail
  go_loopw [5] (GetRel w RB (bl s)) (fun i _ => 3 - (intOf i).toNat)
  case atStart => exact ⟨0, Nat.zero_le _, rfl, fun j hj => absurd hj (Nat.not_lt_zero _), HR0.out, HB0.out⟩
  case round =>
    clear HR0 HB0
    obtain ⟨k, hk, rfl, hno, hR, hB⟩ := hrel
    by_cases hlt : k < 3
    · have h1 : (k : Int) < 3 := by omega
      have hnum := fun W => Number_any k (by omega) W
      have hpre := fun W => hasPrefix_any s (strL (numB k)) W
      rw [show preS s (strL (numB k)) = preB (bl s) k from preS_num s k] at hpre
      obtain ⟨N, eN⟩ : ∃ N, strL (numB k) = N := ⟨_, rfl⟩
      rw [eN] at hnum hpre
      have hwk : IntKind.u64.wrap (k : Int) = (k : Int) := by rw [IntKind.wrap_u64]; omega
      have hat := getF_at (bl s) k hlt hno
      have HNUM := Lib.hid hnum; have HPRE := Lib.hid hpre; have HR := Lib.hid hR; have HB := Lib.hid hB; have HNO := Lib.hid (And.intro hno hat)
      clear hnum hpre hR hB hno hat eN
      go_wp2_with fail
      refine (HNUM.out _).mono ?_
      rintro e w1 ⟨rfl, hb⟩
      have HB1 := Lib.hid (HB.out.trans (hb.mono HB.out.size)); have HR1 := Lib.hid (HR.out.on hb)
      clear hb HB HR HNUM
      go_wp2_with fail
      refine (HPRE.out _).mono ?_
      rintro e w2 ⟨rfl, rfl⟩
      clear HPRE hwk
      cases hp : preB (bl s) k
      · have hno2 : ∀ j, j < k + 1 → preB (bl s) j = false := fun j hj => by
          rcases Nat.lt_or_ge j k with h | h
          · exact HNO.out.1 j h
          · obtain rfl : j = k := by omega
            exact hp
        have HNO2 := Lib.hid hno2
        clear hno2 HNO hp
        go_wp2_with fail
        exact ⟨⟨k + 1, by omega, by simp, HNO2.out, HR1.out, HB1.out⟩, by simp [intOf]; omega⟩
      · have hans := HNO.out.2 hp
        rw [HANS.out] at hans
        have hgo := getOf_any k hlt s HS.out w1 (HF.out.on HB1.out)
        rw [← hans] at hgo
        have HGO := Lib.hid hgo
        clear hgo HNO hp hans
        go_upto_region 5 with fail
        refine wp_region_lit ?_
        iterate 2 (refine wpList_step (fun K hK => ?_); go_simp; refine hK _ _ ?_; clear hK K)
        refine wpList_step (fun K hK => ?_)
        go_simp
        refine HGO.out.mono ?_
        rintro e w3 ⟨a3, c3, rfl, hc3, hb3, hp3, hb⟩
        refine hK _ _ ?_
        clear hK K
        have hne : ∀ b off : Nat, a3 = some ⟨b, off, none⟩ → b ≠ RB := fun b off e => by have := hb3 b off e; have := HR1.out.lt; omega
        have hB3 := HB1.out.trans (hb.mono HB1.out.size)
        have hR3 := HR1.out.on hb
        have hS3 := hR3.stored (frL (gotF ans) a3 c3) rfl
        have hBF := below_setCells (show w.heap.size ≤ RB by rw [HRB.out]; exact Nat.le_refl _) (frL (gotF ans) a3 c3) 0 _ hB3
        have hP3 := hp3.farB RB 0 (frL (gotF ans) a3 c3) hne
        have HR3 := Lib.hid hR3; have HH := Lib.hid (And.intro hS3 (And.intro hBF (And.intro hP3 hc3)))
        clear hb hb3 hp3 hc3 hne hB3 hR3 hS3 hBF hP3 HB1 HR1 HGO
        iterate 2 (refine wpList_step (fun K hK => ?_); go_simp; refine hK _ _ ?_; clear hK K)
        refine store_v rfl rfl _ _ _ rfl RB rfl (l' := frL (gotF ans) a3 c3) rfl HR3.out rfl (frL_one _ a3 c3) (by kernel_rfl) ?_
        obtain ⟨hS3, hBF, hP3, hc3⟩ := HH.out
        generalize World.setCells w3 _ _ _ = W at hS3 hBF hP3 ⊢
        have HS3 := Lib.hid hS3; have HBF := Lib.hid hBF; have HP3 := Lib.hid (And.intro hP3 hc3)
        clear hS3 hBF hP3 hc3 HR3 HH
        go_wp2_with fail
        refine bodyPost_ret (results_v2 (p := 2) (q := 3) (T := 25) (by kernel_rfl) _ _ RB rfl HS3.out Tryd.underlying25 rfl (by kernel_rfl) _ rfl) rfl ?_
        exact ⟨a3, c3, rfl, HP3.out.2, HP3.out.1, HBF.out⟩
    · obtain rfl : k = 3 := by omega
      have hn : ¬ ((3 : Nat) : Int) < 3 := by omega
      have hans := getF_no (bl s) hno
      rw [HANS.out] at hans
      subst hans
      have hS3 := hR.stored zeroL rfl
      have hBF := below_setCells (show w.heap.size ≤ RB by rw [HRB.out]; exact Nat.le_refl _) zeroL 0 _ hB
      have HR := Lib.hid hR; have HH := Lib.hid (And.intro hS3 hBF)
      clear hR hB hS3 hBF hno
      go_upto_region 7 with fail
      refine wp_region_lit ?_
      iterate 1 (refine wpList_step (fun K hK => ?_); go_simp; refine hK _ _ ?_; clear hK K)
      refine store_v rfl rfl _ _ _ rfl RB rfl (l' := zeroL) rfl HR.out rfl zeroL_one (by kernel_rfl) ?_
      obtain ⟨hS3, hBF⟩ := HH.out
      generalize World.setCells wr _ _ _ = W at hS3 hBF ⊢
      have HS3 := Lib.hid hS3; have HBF := Lib.hid hBF
      clear hS3 hBF HR HH
      go_wp2_with fail
      refine bodyPost_ret (results_v2 (p := 2) (q := 3) (T := 25) (by kernel_rfl) _ _ RB rfl HS3.out Tryd.underlying25 rfl (by kernel_rfl) _ rfl) rfl ?_
      exact ⟨none, 0, rfl, Nat.le_refl _, fun h => absurd h (Nat.lt_irrefl 0), HBF.out⟩
end Go.Proofs.YtollaaooinoafaaDoor