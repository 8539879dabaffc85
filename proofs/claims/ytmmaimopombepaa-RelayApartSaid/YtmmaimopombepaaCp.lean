/- slices.Grow and slices.Concat at api.Box. -/
import Derived.Test.YtmmaimopombepaaAh
import Derived.Test.YtmmaimopombepaaCi
import Derived.Lib.AppendZeros
import Derived.Laws.AppendOwnNone
namespace Go.Proofs.Ytmmaimopombepaa
open Go.RowKit Go.Sort
set_option maxRecDepth 100000

theorem growB_any (n : Nat) (hn : n ≤ 100000) (w : World) :
    Calls Try.prog 95 #[.slice none 0 0, .int .i64 (n : Int)] w fun e w' => ∃ v, e = .returned v ∧ OwnE eBx 101 w' w.heap.size v [] ∧ Below w.heap.size w w' := by
  by_cases h0 : n = 0
  · subst h0
    go_enter Try.func95, Try.ntmps95
    go_wp2_with fail
    go_ret
    exact ⟨_, rfl, OwnE.nil _ _ _ _, Below.refl _ _⟩
  · obtain ⟨i0, hi, hz0, hz1, hz2⟩ := info_parts infoBx
    have hrun := fun ty => Lib.run_append_nil_zeros (P := Try.prog) w 54 3 ty 101 i0 (Value.agg #[.int .u64 0, .slice none 0 0]) .i64 .i64 Try.underlying54 Try.underlying3 hi hz0 n (by omega) (by omega) (by omega) (by rw [hz2]; omega)
    obtain ⟨C, eC⟩ : ∃ C, grownCap w n 0 101 = C := ⟨_, rfl⟩
    have hCn : n ≤ C := by rw [← eC]; exact grownCap_ge _ _ _ _
    have hCm : C ≤ maxLen := by rw [← eC]; exact grownCap_le_maxLen _ _ _ _ (by unfold maxLen; omega)
    rw [eC] at hrun
    obtain ⟨Z, eZ⟩ : ∃ Z : Array Value, Builtin.zeroCells (Value.agg #[.int .u64 0, .slice none 0 0]).cells n ++ Builtin.zeroCells (Value.agg #[.int .u64 0, .slice none 0 0]).cells (C - n) = Z := ⟨_, rfl⟩
    have hZ : Z.size = C * eBx.z := by
      rw [← eZ, Array.size_append, size_zeroCells, size_zeroCells]
      show n * 2 + (C - n) * 2 = C * 2
      omega
    rw [eZ] at hrun
    have h1 : (0 : Int) < (n : Int) := by omega
    have h2 : ¬ (n : Int) < 0 := by omega
    have HR := Lib.hid hrun
    have HZ := Lib.hid (And.intro hZ (And.intro hCn hCm))
    clear hi hz0 hz1 hz2 eC hCn hCm eZ hZ hrun
    go_enter Try.func95, Try.ntmps95
    go_wp2_with (at_builtin; refine Lib.wpList_append_run _ rfl _ _ 54 3 rfl _ _ rfl rfl _ _ (HR.out _) ?_)
    go_ret
    refine ⟨_, rfl, ⟨by simp [Enc.row_nil], .inr ⟨w.heap.size, C, Z, rfl, Nat.le_refl _, heap_alloc_new w _, Nat.zero_le _, HZ.out.2.2, HZ.out.1, by simp [Enc.row_nil]⟩⟩, ?_⟩
    exact ((Below.refl _ w).alloc (Nat.le_refl _) _).drew
set_option maxHeartbeats 4000000 in
theorem concatB_any (R : List (Rw BxM)) (hR : R.length ≤ 100) (hs : (joinR R).length ≤ 10000) (A : Nat) (w : World) (h : RwsAt eBx w A R) :
    Calls Try.prog 70 #[.slice (some ⟨A, 0, none⟩) R.length R.length] w fun e w' => ∃ v, e = .returned v ∧ OwnE eBx 101 w' w.heap.size v (joinR R) ∧ Below w.heap.size w w' := by
  have H := Lib.hid h
  have HL := Lib.hid hs
  have q : (R.length : Int) ≤ 100 := by omega
  have HG := Lib.hid (fun W => growB_any (joinR R).length (by omega) W)
  clear h hs hR
  go_enter Try.func70, Try.ntmps70
  go_wp2_with fail
  go_loopw [3, 11] (SumRel w R) (fun _ i _ => R.length - (Lib.intOf i).toNat)
  case atStart => exact ⟨0, _, rfl, rfl, Nat.zero_le _, rfl, rfl⟩
  case round =>
    obtain ⟨k, wr, rfl, rfl, h1, rfl, rfl⟩ := hrel
    by_cases hk : k < R.length
    · have hkz : (k : Int) < (R.length : Int) := by omega
      have c0 := H.out.cells k hk
      have hst := joinR_step R k hk
      obtain ⟨r, er⟩ : ∃ r, R[k] = r := ⟨_, rfl⟩
      rw [er] at c0 hst
      unfold rwV at c0
      obtain ⟨x, ex⟩ : ∃ x, (joinR (R.take k)).length = x := ⟨_, rfl⟩
      have hx1 : x + r.l.length ≤ 10000 := by
        have h2 := joinR_le R (k + 1)
        rw [hst, List.length_append] at h2
        have := HL.out
        omega
      have hx : (x : Int) + (r.l.length : Int) ≤ 10000 := by omega
      have hx0 : ¬ (x : Int) + (r.l.length : Int) < 0 := by omega
      have HS := Lib.hid (And.intro hst ex)
      rw [ex]
      clear hst ex er hx1
      go_wp2_with fail
      exact ⟨⟨k + 1, _, rfl, by go_num, by omega, by rw [HS.out.1, List.length_append, HS.out.2]; go_num, rfl⟩, by simp [Lib.intOf]; omega⟩
    · have hkz : ¬ (k : Int) < (R.length : Int) := by omega
      obtain rfl : k = R.length := by omega
      rw [List.take_length]
      obtain ⟨x, ex⟩ : ∃ x, (joinR R).length = x := ⟨_, rfl⟩
      rw [ex] at HG ⊢
      have HX := Lib.hid ex
      clear ex
      go_wp2_with fail
      refine (HG.out _).mono ?_
      rintro e w1 ⟨v, rfl, ho, hb⟩
      have HO := Lib.hid (And.intro ho hb)
      clear ho hb HG
      go_wp2_with fail
      go_loopw [6, 27] (CatRel eBx 101 w R) (fun _ i _ => R.length - (Lib.intOf i).toNat)
      case atStart => exact ⟨0, _, rfl, rfl, Nat.zero_le _, HO.out.1, HO.out.2⟩
      case round =>
        clear HO
        obtain ⟨k, wr, rfl, rfl, h1, ho, hb⟩ := hrel
        by_cases hk : k < R.length
        · have hkz : (k : Int) < (R.length : Int) := by omega
          have hw := H.out.on hb
          have c0 := hw.cells k hk
          have hrw := hw.rows _ (List.getElem_mem hk)
          have hst := joinR_step R k hk
          obtain ⟨r, er⟩ : ∃ r, R[k] = r := ⟨_, rfl⟩
          rw [er] at c0 hst hrw
          unfold rwV at c0
          have hle : (joinR (R.take k)).length + r.l.length ≤ 10000 := by
            have h2 := joinR_le R (k + 1)
            rw [hst, List.length_append] at h2
            have := HL.out
            omega
          have HS := Lib.hid (And.intro hst (And.intro hrw (And.intro ho (And.intro hb hle))))
          clear hw hrw hst er ho hb hle
          go_wp2_with (at_builtin; refine append_E eBx 54 101 _ 32 Try.underlying54 infoBx rfl rfl _ _ rfl w.heap.size _ _ r.a r.l.length r.c r.l rfl rfl rfl HS.out.2.2.1 HS.out.2.1.at_ HS.out.2.1.nil (by have := HS.out.2.2.2.2; unfold maxLen; omega) (by have := HS.out.2.2.2.2; omega) HS.out.2.2.2.1.size ?_; intro v' w3 ho3 hg3; have HO3 := Lib.hid ho3; have HB3 := Lib.hid (OwnE.below HS.out.2.2.1 HS.out.2.2.2.1 HS.out.2.2.2.1.size hg3); clear ho3 hg3)
          exact ⟨⟨k + 1, _, rfl, by go_num, by omega, by rw [HS.out.1]; exact HO3.out, HB3.out⟩, by simp [Lib.intOf]; omega⟩
        · have hkz : ¬ (k : Int) < (R.length : Int) := by omega
          obtain rfl : k = R.length := by omega
          rw [List.take_length] at ho
          have HO := Lib.hid (And.intro ho hb)
          clear ho hb
          go_wp2_with fail
          go_ret
          exact ⟨_, rfl, HO.out.1, HO.out.2⟩
end Go.Proofs.Ytmmaimopombepaa
