/- The reference's Right: whether a session may be. -/
import Derived.Test.YthjlhcmdpeinpaaGreatDoorBRg1
namespace Go.Proofs.YthjlhcmdpeinpaaGreatDoor
open Go.RowKit Go.Sort
set_option maxRecDepth 100000
theorem not_key {x : ByteArray} {k : Bool} (h : decide (x.size = 32) = k) : ((x.size : Int) != 32) = !k := by
  subst h
  by_cases e : x.size = 32
  · rw [decide_eq_true e, e]; rfl
  · rw [decide_eq_false e, bne, Bool.not_false, Bool.not_eq_true', beq_eq_false_iff_ne]; omega
set_option maxHeartbeats 8000000 in
theorem rRight_any (s : Se) (a : Option Addr) (c : Nat) (b : Option Addr) (d : Nat) (hk : s.kept.length ≤ 1000) (hkc : s.kept.length ≤ c) (hu : s.used.length ≤ 1000) (w : World) (h : SeAt w s a b) :
    Calls Tryz.prog 11 #[seV s a c b d] w fun e w' => e = .returned (.bool (decide (rightS s))) ∧ Below w.heap.size w w' := by
  have hB0 : Below w.heap.size w (w.alloc (.cells (seL s a c b d).toArray 26)) := (Below.refl _ _).alloc (Nat.le_refl _) _
  have hx := seBox w s a c b d 26
  have hR := rightR_any a c s.kept hk hkc _ (h.kept.on hB0)
  have hU := h.used.on hB0
  have h1 := openY_any s.peer; have h3 := openY_any s.send; have h4 := openY_any s.recv
  have s1 := str_nilY s.peer; have s3 := str_nilY s.send; have s4 := str_nilY s.recv
  obtain ⟨k0, e0⟩ : ∃ k, decide (s.own.size = 32) = k := ⟨_, rfl⟩
  obtain ⟨k2, e2⟩ : ∃ k, decide (s.root.size = 32) = k := ⟨_, rfl⟩
  obtain ⟨n1, f1⟩ : ∃ k, decide (s.peer.size = 0 ∨ s.peer.size = 32) = k := ⟨_, rfl⟩
  obtain ⟨n3, f3⟩ : ∃ k, decide (s.send.size = 0 ∨ s.send.size = 32) = k := ⟨_, rfl⟩
  obtain ⟨n4, f4⟩ : ∃ k, decide (s.recv.size = 0 ∨ s.recv.size = 32) = k := ⟨_, rfl⟩
  obtain ⟨p1, g1⟩ : ∃ k, decide (s.peer.size = 0) = k := ⟨_, rfl⟩
  obtain ⟨q3, g3⟩ : ∃ k, decide (s.send.size = 0) = k := ⟨_, rfl⟩
  obtain ⟨q4, g4⟩ : ∃ k, decide (s.recv.size = 0) = k := ⟨_, rfl⟩
  obtain ⟨ka, ea⟩ : ∃ k, decide (allKeys s.used) = k := ⟨_, rfl⟩
  obtain ⟨kr, er⟩ : ∃ k, decide (rightK s.kept) = k := ⟨_, rfl⟩
  rw [right_bools e0 e2 f1 f3 f4 g1 g3 g4 ea er]
  rw [f1] at h1; rw [f3] at h3; rw [f4] at h4; rw [g1] at s1; rw [g3] at s3; rw [g4] at s4; rw [er] at hR
  have m0 := not_key e0; have m2 := not_key e2
  have HA := Lib.hid ea
  clear e0 e2 f1 f3 f4 g1 g3 g4 ea er
  obtain ⟨ow, pe, ro, se, re, st, gt, pv, kt, us⟩ := s
  unfold seV
  simp only [seL] at hB0 hx hR hU hk hkc hu h1 h3 h4 s1 s3 s4 m0 m2 HA ⊢
  have HB := Lib.hid hB0; have HX := Lib.hid hx; have HR := Lib.hid hR; have HU := Lib.hid hU; have HN1 := Lib.hid h1; have HN3 := Lib.hid h3; have HN4 := Lib.hid h4; have HL := Lib.hid hu
  clear hB0 hx hR hU h hk hkc hu h1 h3 h4
  go_enter Tryz.func11, Tryz.ntmps11
  go_upto_region 1 with fail
  obtain ⟨B, eB⟩ : ∃ B, w.heap.size = B := ⟨_, rfl⟩
  rw [eB] at HX ⊢
  clear eB
  generalize World.alloc w _ = V at HB HX HR HU ⊢
  have d0 : V.cell? ⟨B, 0, none⟩ = some (.string ow) := by rw [cell_of_row _ _ _ _ _ _ HX.out]; rfl
  have d1 : V.cell? ⟨B, 1, none⟩ = some (.string pe) := by rw [cell_of_row _ _ _ _ _ _ HX.out]; rfl
  have d2 : V.cell? ⟨B, 2, none⟩ = some (.string ro) := by rw [cell_of_row _ _ _ _ _ _ HX.out]; rfl
  have d3 : V.cell? ⟨B, 3, none⟩ = some (.string se) := by rw [cell_of_row _ _ _ _ _ _ HX.out]; rfl
  have d4 : V.cell? ⟨B, 4, none⟩ = some (.string re) := by rw [cell_of_row _ _ _ _ _ _ HX.out]; rfl
  have d5 : V.cell? ⟨B, 5, none⟩ = some (.int .u64 (st : Int)) := by rw [cell_of_row _ _ _ _ _ _ HX.out]; rfl
  have d6 : V.cell? ⟨B, 6, none⟩ = some (.int .u64 (gt : Int)) := by rw [cell_of_row _ _ _ _ _ _ HX.out]; rfl
  have d7 : V.cell? ⟨B, 7, none⟩ = some (.int .u64 (pv : Int)) := by rw [cell_of_row _ _ _ _ _ _ HX.out]; rfl
  have d8 : V.cell? ⟨B, 8, none⟩ = some (.slice a kt.length c) := by rw [cell_of_row _ _ _ _ _ _ HX.out]; rfl
  have d9 : V.cell? ⟨B, 9, none⟩ = some (.slice b us.length d) := by rw [cell_of_row _ _ _ _ _ _ HX.out]; rfl
  by_cases hkk : k0 = true ∧ k2 = true ∧ n1 = true ∧ n3 = true ∧ n4 = true
  case neg =>
    have HKK := Lib.hid hkk
    clear hkk s1 s3 s4 HA
    go_wp2_with (first | (go_at_call_of 29 (Value.string pe); refine (HN1.out _).mono ?_; rintro e w1 ⟨rfl, rfl⟩) | (go_at_call_of 29 (Value.string se); refine (HN3.out _).mono ?_; rintro e w1 ⟨rfl, rfl⟩))
    all_goals try
      obtain rfl : n4 = false := by
        have := HKK.out
        cases n4
        · rfl
        · simp_all
      clear HKK
      refine (HN4.out _).mono ?_
      rintro e w1 ⟨rfl, rfl⟩
      go_wp2_with fail
    all_goals
      clear d0 d1 d2 d3 d4 d5 d6 d7 d8 d9
      go_ret
      refine ⟨ret_bool ?_, HB.out⟩
      simp_all
  case pos =>
    obtain ⟨rfl, rfl, rfl, rfl, rfl⟩ := hkk
    rw [Bool.not_true] at m0 m2
    by_cases x4 : us.length ≤ 40
    case neg =>
      have x5 : (40 : Int) < (us.length : Int) := by omega
      have HY := Lib.hid (decide_eq_false x4)
      clear x4 s1 s3 s4
      go_wp2_with (first | (go_at_call_of 29 (Value.string pe); refine (HN1.out _).mono ?_; rintro e w1 ⟨rfl, rfl⟩) | (go_at_call_of 29 (Value.string se); refine (HN3.out _).mono ?_; rintro e w1 ⟨rfl, rfl⟩) | (go_at_call_of 29 (Value.string re); refine (HN4.out _).mono ?_; rintro e w1 ⟨rfl, rfl⟩))
      go_ret
      exact ⟨ret_bool (by rw [HY.out]; simp), HB.out⟩
    case pos =>
      have x5 : decide ((40 : Int) < (us.length : Int)) = false := decide_eq_false (by omega)
      have HY := Lib.hid (decide_eq_true x4)
      clear x4
      go_wp2_with (first | (go_at_call_of 29 (Value.string pe); refine (HN1.out _).mono ?_; rintro e w1 ⟨rfl, rfl⟩) | (go_at_call_of 29 (Value.string se); refine (HN3.out _).mono ?_; rintro e w1 ⟨rfl, rfl⟩) | (go_at_call_of 29 (Value.string re); refine (HN4.out _).mono ?_; rintro e w1 ⟨rfl, rfl⟩))
      clear d0 d2 m0 m2 x5
      go_loopw [42] (KeysRelY V us) (fun i _ => us.length - (intOf i).toNat)
      case atStart => exact ⟨0, Nat.zero_le _, rfl, fun j hj => absurd hj (Nat.not_lt_zero j), rfl⟩
      case round =>
        obtain ⟨k, hk, rfl, hall, rfl⟩ := hrel
        by_cases hlt : k < us.length
        · have h1 : (k : Int) < (us.length : Int) := by omega
          have h1k : (k : Int) < 1000 := by have := HL.out; omega
          obtain ⟨g, off, rfl, hbl, hc⟩ := HU.out (by omega)
          have hcell := hc k hlt
          have hst := keys_stepY hall
          have hstop := keys_stop hlt
          obtain ⟨x, ex⟩ : ∃ x, us.getD k ⟨#[]⟩ = x := ⟨_, rfl⟩
          rw [ex] at hcell hst hstop
          by_cases hx : x.size = 32
          · have hne : ((x.size : Int) != 32) = false := by rw [hx]; rfl
            have HST := Lib.hid (hst hx)
            clear hc hst hstop ex hall hx
            go_wp2_with fail
            exact ⟨⟨k + 1, by omega, by simp, HST.out, rfl⟩, by simp [intOf]; omega⟩
          · have hne : ((x.size : Int) != 32) = true := by rw [bne, Bool.not_eq_true', beq_eq_false_iff_ne]; omega
            have HST := Lib.hid (HA.out.symm.trans (hstop hx))
            clear hc hst hstop ex hall hx HA
            go_wp2_with fail
            go_ret
            exact ⟨ret_bool (by rw [HST.out]; simp), HB.out⟩
        · obtain rfl : k = us.length := by omega
          have hn : ¬ (us.length : Int) < (us.length : Int) := by omega
          obtain rfl : ka = true := by rw [← HA.out]; exact decide_eq_true (show allKeys us from hall)
          clear hall HA hlt hk HU HN1 HN3 HN4
          by_cases hE : (p1 == (q3 && q4)) = true
          case neg =>
            cases p1 <;> cases q3 <;> cases q4
            all_goals first | (exfalso; exact hE rfl) | clear hE
            all_goals
              go_wp2_with fail
              go_ret
              exact ⟨ret_bool (by simp), HB.out⟩
          case pos =>
            have HE := Lib.hid hE
            cases p1 <;> cases q3 <;> cases q4
            all_goals first | (exfalso; revert hE; decide) | clear hE
            all_goals
              clear HE
              go_wp2_with fail
              refine HR.out.mono ?_
              rintro e w1 ⟨rfl, hb⟩
              have hx1 := (hb.block B (Array.getElem?_eq_some_iff.1 HX.out).1).trans HX.out
              have u5 : w1.cell? ⟨B, 5, none⟩ = some (.int .u64 (st : Int)) := by rw [cell_of_row _ _ _ _ _ _ hx1]; rfl
              have u6 : w1.cell? ⟨B, 6, none⟩ = some (.int .u64 (gt : Int)) := by rw [cell_of_row _ _ _ _ _ _ hx1]; rfl
              have u7 : w1.cell? ⟨B, 7, none⟩ = some (.int .u64 (pv : Int)) := by rw [cell_of_row _ _ _ _ _ _ hx1]; rfl
              have HB1 := Lib.hid (HB.out.trans (hb.mono HB.out.size))
              clear hb hx1 d1 d3 d4 d5 d6 d7 d8 d9 s1 s3 s4 hn
              cases kr
              · go_wp2_with fail
                go_ret
                exact ⟨ret_bool (by simp), HB1.out⟩
              by_cases x1 : st < 4294967296
              case neg =>
                have y1 : decide ((st : Int) < 4294967296) = false := decide_eq_false (by omega)
                have HY1 := Lib.hid (decide_eq_false x1)
                clear x1
                go_wp2_with fail
                go_ret
                exact ⟨ret_bool (by rw [HY1.out]; simp), HB1.out⟩
              by_cases x2 : gt < 4294967296
              case neg =>
                have y1 : (st : Int) < 4294967296 := by omega
                have y2 : decide ((gt : Int) < 4294967296) = false := decide_eq_false (by omega)
                have HY1 := Lib.hid (decide_eq_false x2)
                clear x1 x2
                go_wp2_with fail
                go_ret
                exact ⟨ret_bool (by rw [HY1.out]; simp), HB1.out⟩
              have y1 : (st : Int) < 4294967296 := by omega
              have y2 : (gt : Int) < 4294967296 := by omega
              have y3 : decide ((pv : Int) < 4294967296) = decide (pv < 4294967296) := by rw [decide_eq_decide]; omega
              have HY1 := Lib.hid (And.intro (decide_eq_true x1) (decide_eq_true x2))
              obtain ⟨q, hq⟩ : ∃ q, decide (pv < 4294967296) = q := ⟨_, rfl⟩
              rw [hq] at y3
              have HQ := Lib.hid hq
              clear x1 x2 hq
              go_wp2_with fail
              go_ret
              exact ⟨ret_bool (by rw [HY1.out.1, HY1.out.2, HY.out, HQ.out]; simp), HB1.out⟩
end Go.Proofs.YthjlhcmdpeinpaaGreatDoor