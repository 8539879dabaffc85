/- The texts Refn, Leafb, Math, Prod, Fold, one behind the other. -/
import Derived.Test.YthjlhcmdpeinpaaGreatDoorGg3
import Derived.Test.YthjlhcmdpeinpaaGreatDoorGg1
import Derived.Deep.RegionHeld3
/- The contract of the reference's product of digits. -/
namespace Go.Proofs.YthjlhcmdpeinpaaGreatDoor
set_option maxRecDepth 100000
open Go.RowKit
def mulOut (a b : List Int) (k : Nat) : List Int := (List.range k).map (mulDig (fun j => a.getD j 0) (fun j => b.getD j 0))
theorem mulOut_length (a b : List Int) (k : Nat) : (mulOut a b k).length = k := by simp [mulOut]
theorem mulOut_succ (a b : List Int) (k : Nat) : mulOut a b (k + 1) = mulOut a b k ++ [mulDig (fun j => a.getD j 0) (fun j => b.getD j 0) k] := by simp [mulOut, List.range_succ]
theorem getD_small {a : List Int} (h : Small a) (j : Nat) : 0 ≤ a.getD j 0 ∧ a.getD j 0 < 65536 := by
  rw [List.getD_eq_getElem?_getD]
  rcases Nat.lt_or_ge j a.length with hj | hj
  · rw [List.getElem?_eq_getElem hj]; exact h _ (List.getElem_mem hj)
  · rw [List.getElem?_eq_none hj]; simp
def MulOuter (w : World) (a b : List Int) (v i : Value) (wr : World) : Prop := ∃ k g cap : Nat, k ≤ 16 ∧ i = .int .i64 k ∧ v = .slice (some ⟨g, 0, none⟩) k cap ∧ Ints wr w.heap.size v (mulOut a b k) ∧ Below w.heap.size w wr
def MulInner (wo : World) (a b : List Int) (i : Nat) (n j : Value) (wr : World) : Prop := ∃ k q : Nat, k ≤ 16 ∧ j = .int .i64 k ∧ n = .int .i64 (sumNR (mulTerm (fun j => a.getD j 0) (fun j => b.getD j 0) i) k) ∧ wr = wo.drewN q

set_option maxHeartbeats 1000000 in
theorem refMul_any (va vb : Value) (a b : List Int) (hla : a.length = 16) (hlb : b.length = 16) (hsa : Small a) (hsb : Small b) (w : World) (hA : LIntsAt w va a) (hB : LIntsAt w vb b) :
    Calls Tryz.prog 99 #[va, vb] w (RefPost ((valD a * valD b) % Pr) w) := by
  obtain ⟨ga, ca, rfl, hga, hca⟩ := hA
  obtain ⟨gb, cb, rfl, hgb, hcb⟩ := hB
  have HCA := Lib.hid hca; have HCB := Lib.hid hcb; have HLA := Lib.hid hla; have HLB := Lib.hid hlb; have HSA := Lib.hid hsa; have HSB := Lib.hid hsb
  clear hca hcb hsa hsb
  rw [hla, hlb]
  clear hla hlb
  go_enter Tryz.func99, Tryz.ntmps99
  go_wp2_with fail
  go_loopw [5, 6] (MulOuter w a b) (fun _ i _ => 16 - (intOf i).toNat)
  case atStart => exact ⟨0, _, _, by omega, rfl, rfl, Ints.empty w _ (Nat.le_refl _), by go_grown⟩
  case round =>
    obtain ⟨k, g, cap, hk, rfl, rfl, hI, hBl⟩ := hrel
    have hsz := hBl.size
    have HI := Lib.hid hI
    clear hI
    by_cases hlt : k < 16
    · have h1 : (k : Int) < 16 := by omega
      go_wp2_with fail
      obtain ⟨wo, rfl⟩ : ∃ wo : World, wo = wr := ⟨_, rfl⟩
      go_loopw [7, 8] (MulInner wo a b k) (fun _ j _ => 16 - (intOf j).toNat)
      case atStart => exact ⟨0, 0, by omega, rfl, rfl, rfl⟩
      case round =>
        obtain ⟨j, q, hj, rfl, rfl, rfl⟩ := hrel
        have hs0 := sumN_bound _ _ (mulTerm_bound _ _ (getD_small HSA.out) (getD_small HSB.out) k) j
        by_cases hjl : j < 16
        · have hj1 : (j : Int) < 16 := by omega
          have hda := getD_small HSA.out j
          have hca : wo.cell? ⟨ga, j, none⟩ = some (.int .i64 (a.getD j 0)) := by
            rw [hBl.cell (p := ⟨ga, j, none⟩) hga]; exact HCA.out j (by rw [HLA.out]; exact hjl)
          by_cases hle : j ≤ k
          · have hle' : (j : Int) ≤ (k : Int) := by omega
            have hdb := getD_small HSB.out (k - j)
            have hcb : wo.cell? ⟨gb, k - j, none⟩ = some (.int .i64 (b.getD (k - j) 0)) := by
                rw [hBl.cell (p := ⟨gb, k - j, none⟩) hgb]; exact HCB.out (k - j) (by rw [HLB.out]; omega)
            have ht : sumNR (mulTerm (fun j => a.getD j 0) (fun j => b.getD j 0) k) (j + 1) = sumNR (mulTerm (fun j => a.getD j 0) (fun j => b.getD j 0) k) j + a.getD j 0 * b.getD (k - j) 0 := by
              show _ + mulTerm _ _ k j = _
              unfold mulTerm; rw [if_pos hle]
            have hs1 := sumN_bound _ _ (mulTerm_bound _ _ (getD_small HSA.out) (getD_small HSB.out) k) (j + 1)
            rw [ht] at hs1
            have HTT := Lib.hid ht
            clear ht
            generalize sumNR (mulTerm (fun j => a.getD j 0) (fun j => b.getD j 0) k) j = S at *
            generalize a.getD j 0 = x at *
            generalize b.getD (k - j) 0 = y at *
            have hxy : 0 ≤ x * y := Int.mul_nonneg hda.1 hdb.1
            have w1 : IntKind.i64.wrap (x * y) = x * y := IntWalk.i64_in _ (by omega)
            have w2 : IntKind.i64.wrap (S + x * y) = S + x * y := IntWalk.i64_in _ (by omega)
            have e1 : IntKind.i64.wrap ((k : Int) - (j : Int)) = (k : Int) - (j : Int) := IntWalk.i64_in _ (by omega)
            have e2 : ((k : Int) - (j : Int)).toNat = k - j := by omega
            have e3 : (0 : Int) ≤ (k : Int) - (j : Int) := by omega
            have e4 : (k : Int) - (j : Int) < 16 := by omega
            clear hs0 hs1
            go_wp2_with fail
            go_quiet (fail)
            go_wp2_with fail
            exact ⟨⟨j + 1, _, by omega, by simp, by rw [HTT.out], rfl⟩, by simp [intOf]; omega⟩
          · have hle' : (k : Int) < (j : Int) := by omega
            have hle2 : ¬ (j : Int) ≤ (k : Int) := by omega
            have hdb := getD_small HSB.out (16 + k - j)
            have hcb : wo.cell? ⟨gb, 16 + k - j, none⟩ = some (.int .i64 (b.getD (16 + k - j) 0)) := by
              rw [hBl.cell (p := ⟨gb, 16 + k - j, none⟩) hgb]; exact HCB.out (16 + k - j) (by rw [HLB.out]; omega)
            have ht : sumNR (mulTerm (fun j => a.getD j 0) (fun j => b.getD j 0) k) (j + 1) = sumNR (mulTerm (fun j => a.getD j 0) (fun j => b.getD j 0) k) j + 38 * a.getD j 0 * b.getD (16 + k - j) 0 := by
              show _ + mulTerm _ _ k j = _
              unfold mulTerm; rw [if_neg hle]
            have hs1 := sumN_bound _ _ (mulTerm_bound _ _ (getD_small HSA.out) (getD_small HSB.out) k) (j + 1)
            rw [ht] at hs1
            have HTT := Lib.hid ht
            clear ht
            generalize sumNR (mulTerm (fun j => a.getD j 0) (fun j => b.getD j 0) k) j = S at *
            generalize a.getD j 0 = x at *
            generalize b.getD (16 + k - j) 0 = y at *
            have hxy : 0 ≤ 38 * x * y := Int.mul_nonneg (by omega) hdb.1
            have w0 : IntKind.i64.wrap (38 * x) = 38 * x := IntWalk.i64_in _ (by omega)
            have w1 : IntKind.i64.wrap (38 * x * y) = 38 * x * y := IntWalk.i64_in _ (by omega)
            have w2 : IntKind.i64.wrap (S + 38 * x * y) = S + 38 * x * y := IntWalk.i64_in _ (by omega)
            have e0 : IntKind.i64.wrap (16 + (k : Int)) = 16 + (k : Int) := IntWalk.i64_in _ (by omega)
            have e1 : IntKind.i64.wrap (16 + (k : Int) - (j : Int)) = 16 + (k : Int) - (j : Int) := IntWalk.i64_in _ (by omega)
            have e2 : (16 + (k : Int) - (j : Int)).toNat = 16 + k - j := by omega
            have e3 : (0 : Int) ≤ 16 + (k : Int) - (j : Int) := by omega
            have e4 : 16 + (k : Int) - (j : Int) < 16 := by omega
            clear hs0 hs1
            go_wp2_with fail
            go_quiet (fail)
            go_wp2_with fail
            exact ⟨⟨j + 1, _, by omega, by simp, by rw [HTT.out], rfl⟩, by simp [intOf]; omega⟩
        · obtain rfl : j = 16 := by omega
          have hsum : sumNR (mulTerm (fun j => a.getD j 0) (fun j => b.getD j 0) k) 16 = mulDig (fun j => a.getD j 0) (fun j => b.getD j 0) k := rfl
          rw [hsum]
          have HMS := Lib.hid (mulOut_succ a b k)
          generalize mulDig (fun j => a.getD j 0) (fun j => b.getD j 0) k = D at *
          have HML := Lib.hid (mulOut_length a b k)
          obtain ⟨L, hL⟩ : ∃ L, L = mulOut a b k := ⟨_, rfl⟩
          rw [← hL] at HI HML HMS
          clear hL hs0 hsum
          go_wp2_with (at_builtin; refine append_int rfl _ _ rfl w.heap.size _ L D wo.heap.size rfl ?c0 rfl ?c1 ?c2 ?c3 ?_)
          case c0 => exact Ints.alloc (w := wo.drewN _) HI.out _
          case c1 => exact World.cell?_alloc_new (wo.drewN _) _ _ 0
          case c2 => rw [HML.out]; omega
          case c3 => simp; omega
          intro g' cap' w' hI' hg'
          have hB' := Ints.below_grown (wr := wo.drewN _) HI.out (below_quiet hBl _) hsz hg'
          clear hg' hBl
          have HI' := Lib.hid hI'
          clear hI'
          go_wp2_with fail
          refine ⟨⟨k + 1, g', cap', by omega, by simp, by rw [HML.out], ?_, hB'⟩, by simp [intOf]; omega⟩
          rw [HMS.out]
          exact HI'.out
    · obtain rfl : k = 16 := by omega
      have hleft := left_ref_any _ _ (mulOut_length a b 16) (fun d hd => by
        obtain ⟨i, hi, rfl⟩ := List.mem_map.1 hd
        have := sumN_bound _ _ (mulTerm_bound _ _ (getD_small HSA.out) (getD_small HSB.out) i) 16
        unfold mulDig
        omega) wr (HI.out.at (by rw [mulOut_length]; omega))
      have hval : valD (mulOut a b 16) % Pr = (valD a * valD b) % Pr := mul_mod a b HLA.out HLB.out
      rw [hval] at hleft
      have HLF := Lib.hid hleft
      clear hleft hval
      go_wp2_with fail
      refine HLF.out.mono ?_
      rintro e w2 ⟨v2, out, rfl, l2, s2, e2, i2, b2⟩
      go_wp2_with fail
      go_ret
      exact ⟨v2, out, rfl, l2, s2, e2, World.ownsRow.mono i2 hsz, hBl.trans (b2.mono hsz)⟩
end Go.Proofs.YthjlhcmdpeinpaaGreatDoor

/- The contracts of package limb: choose, multiplyAdd. -/
namespace Go.Proofs.YthjlhcmdpeinpaaGreatDoor
set_option maxRecDepth 100000
open Go.RowKit
set_option maxHeartbeats 1000000 in
theorem choose_one (va vb : Value) (x y : Int) (hva : Num va x) (hvb : Num vb y) (w : World) :
    Calls Tryz.prog 216 #[.int .u64 1, va, vb] w (NumPost (· = x) w) := by
  obtain ⟨a0, a1, a2, a3, rfl, ha⟩ := hva
  obtain ⟨b0, b1, b2, b3, rfl, hb⟩ := hvb
  have p0 := pick_one a0 b0 ha.1 hb.1
  have p1 := pick_one a1 b1 ha.2.1 hb.2.1
  have p2 := pick_one a2 b2 ha.2.2.1 hb.2.2.1
  have p3 := pick_one a3 b3 ha.2.2.2.1 hb.2.2.2.1
  go_enter Tryz.func216, Tryz.ntmps216
  go_wp2
  refine wp_loop_rounds 5 ?_
  rw [rounds_succ]; go_wp2; go_region; go_wp2
  rw [rounds_succ]; go_wp2; go_region; go_wp2
  rw [rounds_succ]; go_wp2; go_region; go_wp2
  rw [rounds_succ]; go_wp2; go_region; go_wp2
  rw [rounds_succ]; go_wp2
  refine bodyPost_ret (v := .agg #[.int .u64 a0, .int .u64 a1, .int .u64 a2, .int .u64 a3]) (by simp [results, Tryz.results216, go_sem]) rfl ⟨a0, a1, a2, a3, x, rfl, ha, rfl, ?_⟩
  go_grown
set_option maxHeartbeats 1000000 in
theorem choose_two (va vb : Value) (x y : Int) (hva : Num va x) (hvb : Num vb y) (w : World) :
    Calls Tryz.prog 216 #[.int .u64 0, va, vb] w (NumPost (· = y) w) := by
  obtain ⟨a0, a1, a2, a3, rfl, ha⟩ := hva
  obtain ⟨b0, b1, b2, b3, rfl, hb⟩ := hvb
  have p0 := pick_two a0 b0 ha.1 hb.1
  have p1 := pick_two a1 b1 ha.2.1 hb.2.1
  have p2 := pick_two a2 b2 ha.2.2.1 hb.2.2.1
  have p3 := pick_two a3 b3 ha.2.2.2.1 hb.2.2.2.1
  go_enter Tryz.func216, Tryz.ntmps216
  go_wp2
  refine wp_loop_rounds 5 ?_
  rw [rounds_succ]; go_wp2; go_region; go_wp2
  rw [rounds_succ]; go_wp2; go_region; go_wp2
  rw [rounds_succ]; go_wp2; go_region; go_wp2
  rw [rounds_succ]; go_wp2; go_region; go_wp2
  rw [rounds_succ]; go_wp2
  refine bodyPost_ret (v := .agg #[.int .u64 b0, .int .u64 b1, .int .u64 b2, .int .u64 b3]) (by simp [results, Tryz.results216, go_sem]) rfl ⟨b0, b1, b2, b3, y, rfl, hb, rfl, ?_⟩
  go_grown
set_option maxHeartbeats 1000000 in
theorem mul64_any (x y : Int) (hx : U x) (hy : U y) (w : World) :
    Calls Tryz.prog 238 #[.int .u64 x, .int .u64 y] w fun e w' => e = .returned (.tuple #[.int .u64 (x * y / 18446744073709551616), .int .u64 (x * y % 18446744073709551616)]) ∧ w = w' := by
  have hm := mul64_arith x y hx.1 hx.2 hy.1 hy.2
  have HM := Lib.hid hm
  clear hm
  go_enter Tryz.func238, Tryz.ntmps238
  go_wp2
  simp only [and_low32 x hx.1 hx.2, and_low32 y hy.1 hy.2, IntKind.wrap_u64]
  rw [and_low32 _ (by omega) (by omega), HM.out]
  go_ret2
  exact ⟨rfl, rfl⟩

set_option maxHeartbeats 1000000 in
theorem mad_ex (x y a b : Int) (hx : U x) (hy : U y) (ha : U a) (hb : U b) : ∃ l h, MulTo x y a b l h ∧ ∀ w : World,
    Calls Tryz.prog 236 #[.int .u64 x, .int .u64 y, .int .u64 a, .int .u64 b] w fun e w' => e = .returned (.tuple #[.int .u64 l, .int .u64 h]) ∧ w = w' := by
  have hxy : 0 ≤ x * y ∧ x * y ≤ 340282366920938463426481119284349108225 := by
    refine ⟨Int.mul_nonneg hx.1 hy.1, ?_⟩
    have := Int.mul_le_mul (show x ≤ 18446744073709551615 by have := hx.2; omega) (show y ≤ 18446744073709551615 by have := hy.2; omega) hy.1 (by omega : (0 : Int) ≤ 18446744073709551615)
    simpa using this
  have hl : U (x * y % 18446744073709551616) := by unfold U; omega
  obtain ⟨s1, c1, e1, r1⟩ := add64_ex (x * y % 18446744073709551616) a 0 hl ha (by omega)
  obtain ⟨s2, c2, e2, r2⟩ := add64_ex s1 b 0 e1.1 hb (by omega)
  have hh : x * y / 18446744073709551616 + c1 + c2 < 18446744073709551616 := by
    have g1 := e1.2.2; have g2 := e2.2.2; have u1 := e1.1; have u2 := e2.1; unfold U at *; omega
  have hh0 : 0 ≤ x * y / 18446744073709551616 := by omega
  refine ⟨s2, x * y / 18446744073709551616 + c1 + c2, ⟨e2.1, ?_, ?_⟩, fun w => ?_⟩
  · have g1 := e1.2.1; have g2 := e2.2.1; unfold U; omega
  · have g1 := e1.2.2; have g2 := e2.2.2; omega
  have w1 : IntKind.u64.wrap (x * y / 18446744073709551616 + c1) = x * y / 18446744073709551616 + c1 := by
    have g1 := e1.2.1; have g2 := e2.2.1; rw [IntKind.wrap_u64]; omega
  have w2 : IntKind.u64.wrap (x * y / 18446744073709551616 + c1 + c2) = x * y / 18446744073709551616 + c1 + c2 := by
    have g1 := e1.2.1; have g2 := e2.2.1; rw [IntKind.wrap_u64]; omega
  have m := mul64_any x y hx hy w
  clear e1 e2 hh hh0 hxy hl
  generalize x * y / 18446744073709551616 = hi at *
  generalize x * y % 18446744073709551616 = lo at *
  have M := Lib.hid m
  clear m
  go_enter Tryz.func236, Tryz.ntmps236
  go_wp2_with (go_at_call 238; refine (M.out).mono ?_; rintro e w' ⟨rfl, rfl⟩)
  go_ret2
  exact ⟨rfl, rfl⟩
end Go.Proofs.YthjlhcmdpeinpaaGreatDoor

/- Plain mathematics of a product of four words by four, done word by word into eight words; and of its folding. Nothing of the program stands here. -/
namespace Go.Proofs.YthjlhcmdpeinpaaGreatDoor
set_option maxRecDepth 100000
open Go.RowKit
/-- 2^64 -/
def R : Int := 18446744073709551616
/-- eight words, as a function of their place, and what they tell -/
def V8 (o : Nat → Int) : Int := o 0 + R ^ 1 * o 1 + R ^ 2 * o 2 + R ^ 3 * o 3 + R ^ 4 * o 4 + R ^ 5 * o 5 + R ^ 6 * o 6 + R ^ 7 * o 7
def upd (o : Nat → Int) (m : Nat) (v : Int) : Nat → Int := fun x => if x = m then v else o x
theorem upd_same (o : Nat → Int) (m : Nat) (v : Int) : upd o m v m = v := by simp [upd]
theorem upd_other (o : Nat → Int) {m x : Nat} (v : Int) (h : x ≠ m) : upd o m v x = o x := by simp [upd, h]
theorem V8_upd (o : Nat → Int) (m : Nat) (hm : m < 8) (v : Int) : V8 (upd o m v) = V8 o + (v - o m) * R ^ m := by
  have key : ∀ x y z : Int, x * y + (z - y) * x = x * z := fun x y z => by grind
  have : m = 0 ∨ m = 1 ∨ m = 2 ∨ m = 3 ∨ m = 4 ∨ m = 5 ∨ m = 6 ∨ m = 7 := by omega
  rcases this with rfl | rfl | rfl | rfl | rfl | rfl | rfl | rfl <;> simp only [V8, upd] <;> simp <;> grind

/-- the first k of four words -/
def part4 (b : Nat → Int) : Nat → Int
  | 0 => 0
  | k + 1 => part4 b k + b k * R ^ k

/-- what an inner loop keeps: row i, behind k steps -/
def RowInv (o0 : Nat → Int) (x : Int) (b : Nat → Int) (i k : Nat) (o : Nat → Int) (c : Int) : Prop :=
  (∀ m, m < 8 → U (o m)) ∧ U c ∧ V8 o + c * R ^ (i + k) = V8 o0 + x * part4 b k * R ^ i ∧ ∀ m, i + 4 ≤ m → o m = o0 m

theorem rowInv_start (o0 : Nat → Int) (x : Int) (b : Nat → Int) (i : Nat) (h : ∀ m, m < 8 → U (o0 m)) : RowInv o0 x b i 0 o0 0 :=
  ⟨h, by unfold U; omega, by simp [part4], fun _ _ => rfl⟩

theorem rowInv_step {o0 : Nat → Int} {x : Int} {b : Nat → Int} {i k : Nat} {o : Nat → Int} {c l h : Int} (hr : RowInv o0 x b i k o c) (hk : k < 4) (hi : i < 4)
    (m : MulTo x (b k) (o (i + k)) c l h) : RowInv o0 x b i (k + 1) (upd o (i + k) l) h := by
  obtain ⟨r1, r2, r3, r4⟩ := hr
  obtain ⟨m1, m2, m3⟩ := m
  refine ⟨fun q hq => ?_, m2, ?_, fun q hq => ?_⟩
  · by_cases e : q = i + k
    · subst e; rw [upd_same]; exact m1
    · rw [upd_other _ _ e]; exact r1 q hq
  · rw [V8_upd _ _ (by omega)]
    have m3' : x * b k + o (i + k) + c = l + h * R := m3
    have e1 : R ^ (i + (k + 1)) = R ^ (i + k) * R := by rw [← Nat.add_assoc, Int.pow_succ]
    have e2 : R ^ (i + k) = R ^ i * R ^ k := Int.pow_add _ _ _
    rw [e1]
    simp only [part4]
    rw [e2] at r3 ⊢
    generalize R ^ i = p at *
    generalize R ^ k = q at *
    generalize V8 o = v at *
    generalize V8 o0 = v0 at *
    generalize part4 b k = s at *
    grind
  · rw [upd_other _ _ (by omega)]; exact r4 q hq

/-- what the outer loop keeps: behind i rows -/
def ColInv (a : Nat → Int) (y : Int) (i : Nat) (o : Nat → Int) : Prop :=
  (∀ m, m < 8 → U (o m)) ∧ V8 o = part4 a i * y ∧ ∀ m, i + 4 ≤ m → o m = 0

theorem colInv_start (a : Nat → Int) (y : Int) : ColInv a y 0 (fun _ => 0) :=
  ⟨fun _ _ => by show U 0; unfold U; omega, by simp [V8, part4], fun _ _ => rfl⟩

theorem colInv_step {a b : Nat → Int} {y : Int} {i : Nat} {o0 o : Nat → Int} {c : Int} (h : ColInv a y i o0) (hi : i < 4) (hy : part4 b 4 = y)
    (hr : RowInv o0 (a i) b i 4 o c) : ColInv a y (i + 1) (upd o (i + 4) c) := by
  obtain ⟨r1, r2, r3, r4⟩ := hr
  obtain ⟨h1, h2, h3⟩ := h
  refine ⟨fun q hq => ?_, ?_, fun q hq => ?_⟩
  · by_cases e : q = i + 4
    · subst e; rw [upd_same]; exact r2
    · rw [upd_other _ _ e]; exact r1 q hq
  · rw [V8_upd _ _ (by omega), r4 _ (Nat.le_refl _), h3 _ (Nat.le_refl _)]
    simp only [part4]
    rw [h2, hy] at r3
    generalize R ^ (i + 4) = p at *
    generalize R ^ i = q at *
    generalize V8 o = v at *
    generalize part4 a i = s at *
    grind
  · rw [upd_other _ _ (by omega), r4 q (by omega)]; exact h3 q (by omega)

/-- four words as a function of their place -/
def four (a b c d : Int) : Nat → Int
  | 0 => a
  | 1 => b
  | 2 => c
  | 3 => d
  | _ => 0
theorem part4_four (a b c d : Int) : part4 (four a b c d) 4 = val4 a b c d := by
  simp only [part4, four, val4, R]; omega
theorem four_U {a b c d x : Int} (h : Is4 a b c d x) (m : Nat) (hm : m < 4) : U (four a b c d m) := by
  obtain ⟨h0, h1, h2, h3, -⟩ := h
  have : m = 0 ∨ m = 1 ∨ m = 2 ∨ m = 3 := by omega
  rcases this with rfl | rfl | rfl | rfl <;> assumption

/-- eight words that tell x -/
def Is8 (a b c d e f g h x : Int) : Prop := (U a ∧ U b ∧ U c ∧ U d) ∧ (U e ∧ U f ∧ U g ∧ U h) ∧ val4 a b c d + val4 e f g h * W256 = x
theorem is8_of_col {a : Nat → Int} {y : Int} {o : Nat → Int} (h : ColInv a y 4 o) : Is8 (o 0) (o 1) (o 2) (o 3) (o 4) (o 5) (o 6) (o 7) (part4 a 4 * y) := by
  obtain ⟨h1, h2, -⟩ := h
  refine ⟨⟨h1 0 (by omega), h1 1 (by omega), h1 2 (by omega), h1 3 (by omega)⟩, ⟨h1 4 (by omega), h1 5 (by omega), h1 6 (by omega), h1 7 (by omega)⟩, ?_⟩
  rw [← h2]
  simp only [V8, val4, W256, R]
  omega
end Go.Proofs.YthjlhcmdpeinpaaGreatDoor

/- The contract of package limb's product: eight words that tell the product. -/
namespace Go.Proofs.YthjlhcmdpeinpaaGreatDoor
set_option maxRecDepth 100000
open Go.RowKit
def WidePost (p : Int) (w : World) (e : Ending) (w' : World) : Prop :=
  ∃ s0 s1 s2 s3 s4 s5 s6 s7, e = .returned (.agg #[.int .u64 s0, .int .u64 s1, .int .u64 s2, .int .u64 s3, .int .u64 s4, .int .u64 s5, .int .u64 s6, .int .u64 s7]) ∧ Is8 s0 s1 s2 s3 s4 s5 s6 s7 p ∧ Below w.heap.size w w'

/-- words that lie in a block -/
def RowAt (w : World) (B n : Nat) (a : Nat → Int) : Prop := ∀ m, m < n → w.cell? ⟨B, m, none⟩ = some (.int .u64 (a m)) ∧ w.frozen? ⟨B, m, none⟩ = false

theorem RowAt.drew {w : World} {B n : Nat} {a : Nat → Int} (h : RowAt w B n a) : RowAt w.drew B n a := h
theorem RowAt.store {w : World} {B n : Nat} {a : Nat → Int} (h : RowAt w B n a) {m : Nat} (hm : m < n) (v : Int) : RowAt (w.setCell ⟨B, m, none⟩ (.int .u64 v)) B n (upd a m v) := by
  intro q hq
  obtain ⟨h1, h2⟩ := h q hq
  refine ⟨?_, by simp [h2]⟩
  by_cases e : q = m
  · subst e; rw [upd_same, World.cell?_setCell_same _ _ _ h1]
  · rw [upd_other _ _ e, World.cell?_setCell_other]
    · exact h1
    · intro e2; cases e2; exact e rfl
theorem RowAt.far {w : World} {B n : Nat} {a : Nat → Int} (h : RowAt w B n a) {p : Addr} (hp : p.block ≠ B) (v : Value) : RowAt (w.setCell p v) B n a := by
  intro q hq
  obtain ⟨h1, h2⟩ := h q hq
  refine ⟨?_, by simp [h2]⟩
  rw [World.cell?_setCell_other]
  · exact h1
  · intro e; subst e; simp at hp

/-- what holds at the heads of the two loops -/
def Outer (w : World) (a b : Nat → Int) (y : Int) (v : Value) (wr : World) : Prop :=
  ∃ (i : Nat) (o : Nat → Int), i ≤ 4 ∧ v = .int .i64 i ∧ ColInv a y i o ∧ RowAt wr w.heap.size 4 a ∧ RowAt wr (w.heap.size + 1) 4 b ∧ RowAt wr (w.heap.size + 1 + 1 + 1) 8 o ∧ (∀ m, m < 8 → wr.cell? ⟨w.heap.size + 1 + 1, m, none⟩ = some (.int .u64 0) ∧ wr.frozen? ⟨w.heap.size + 1 + 1, m, none⟩ = false) ∧ Below w.heap.size w wr
def Inner (w : World) (a b : Nat → Int) (i : Nat) (o0 : Nat → Int) (c v : Value) (wr : World) : Prop :=
  ∃ (k : Nat) (o : Nat → Int) (cc : Int), k ≤ 4 ∧ v = .int .i64 k ∧ c = .int .u64 cc ∧ RowInv o0 (a i) b i k o cc ∧ RowAt wr w.heap.size 4 a ∧ RowAt wr (w.heap.size + 1) 4 b ∧ RowAt wr (w.heap.size + 1 + 1 + 1) 8 o ∧ (∀ m, m < 8 → wr.cell? ⟨w.heap.size + 1 + 1, m, none⟩ = some (.int .u64 0) ∧ wr.frozen? ⟨w.heap.size + 1 + 1, m, none⟩ = false) ∧ Below w.heap.size w wr

theorem inner_step {w wr : World} {a b : Nat → Int} {i k : Nat} {o0 q : Nat → Int} {cc l h : Int} (hk : k < 4) (hi : i < 4) (hr : RowInv o0 (a i) b i k q cc) (hm : MulTo (a i) (b k) (q (i + k)) cc l h)
    (hA : RowAt wr w.heap.size 4 a) (hB : RowAt wr (w.heap.size + 1) 4 b) (hO : RowAt wr (w.heap.size + 1 + 1 + 1) 8 q)
    (hz : ∀ m, m < 8 → wr.cell? ⟨w.heap.size + 1 + 1, m, none⟩ = some (.int .u64 0) ∧ wr.frozen? ⟨w.heap.size + 1 + 1, m, none⟩ = false) (hb : Below w.heap.size w wr) :
    Inner w a b i o0 (.int .u64 h) (.int .i64 ((k : Int) + 1)) (wr.setCell ⟨w.heap.size + 1 + 1 + 1, i + k, none⟩ (.int .u64 l)).drew := by
  refine ⟨k + 1, upd q (i + k) l, h, by omega, by simp, rfl, rowInv_step hr hk hi hm, (hA.far (show w.heap.size + 1 + 1 + 1 ≠ w.heap.size by omega) _).drew, (hB.far (show w.heap.size + 1 + 1 + 1 ≠ w.heap.size + 1 by omega) _).drew, (hO.store (by omega) l).drew, ?_, (hb.setCell (by simp; omega) _).drew⟩
  intro m hm
  obtain ⟨z1, z2⟩ := hz m hm
  refine ⟨?_, by simpa using z2⟩
  rw [World.cell?_drew, World.cell?_setCell_other]
  · exact z1
  · intro e; simp at e

theorem outer_step {w wr : World} {a b : Nat → Int} {y : Int} {i : Nat} {o0 q : Nat → Int} {cc : Int} (hi : i < 4) (hy : part4 b 4 = y) (hc : ColInv a y i o0) (hr : RowInv o0 (a i) b i 4 q cc)
    (hA : RowAt wr w.heap.size 4 a) (hB : RowAt wr (w.heap.size + 1) 4 b) (hO : RowAt wr (w.heap.size + 1 + 1 + 1) 8 q)
    (hz : ∀ m, m < 8 → wr.cell? ⟨w.heap.size + 1 + 1, m, none⟩ = some (.int .u64 0) ∧ wr.frozen? ⟨w.heap.size + 1 + 1, m, none⟩ = false) (hb : Below w.heap.size w wr) :
    Outer w a b y (.int .i64 ((i : Int) + 1)) (wr.setCell ⟨w.heap.size + 1 + 1 + 1, i + 4, none⟩ (.int .u64 cc)) := by
  refine ⟨i + 1, upd q (i + 4) cc, by omega, by simp, colInv_step hc hi hy hr, hA.far (show w.heap.size + 1 + 1 + 1 ≠ w.heap.size by omega) _, hB.far (show w.heap.size + 1 + 1 + 1 ≠ w.heap.size + 1 by omega) _, hO.store (by omega) cc, ?_, hb.setCell (by simp; omega) _⟩
  intro m hm
  obtain ⟨z1, z2⟩ := hz m hm
  refine ⟨?_, by simpa using z2⟩
  rw [World.cell?_setCell_other]
  · exact z1
  · intro e; simp at e

set_option maxHeartbeats 4000000 in
theorem lproduct_any (va vb : Value) (x y : Int) (hva : Num va x) (hvb : Num vb y) (w : World) :
    Calls Tryz.prog 227 #[va, vb] w (WidePost (x * y) w) := by
  obtain ⟨a0, a1, a2, a3, rfl, ha⟩ := hva
  obtain ⟨b0, b1, b2, b3, rfl, hb⟩ := hvb
  go_enter Tryz.func227, Tryz.ntmps227
  go_wp2
  go_loopw [9] (Outer w (four a0 a1 a2 a3) (four b0 b1 b2 b3) y) (fun i _ => 4 - (intOf i).toNat)
  case atStart =>
    refine ⟨0, fun _ => 0, by omega, rfl, colInv_start _ _, ?_, ?_, ?_, ?_, ?_⟩
    · intro m hm
      have : m = 0 ∨ m = 1 ∨ m = 2 ∨ m = 3 := by omega
      rcases this with rfl | rfl | rfl | rfl <;> (simp (disch := (first | (simp only [World.size_alloc]; done) | (simp only [World.size_alloc]; omega))) only [four, World.cell?_alloc_at, World.cell?_alloc_past, World.frozen?_alloc_at, World.frozen?_alloc_past]; simp)
    · intro m hm
      have : m = 0 ∨ m = 1 ∨ m = 2 ∨ m = 3 := by omega
      rcases this with rfl | rfl | rfl | rfl <;> (simp (disch := (first | (simp only [World.size_alloc]; done) | (simp only [World.size_alloc]; omega))) only [four, World.cell?_alloc_at, World.cell?_alloc_past, World.frozen?_alloc_at, World.frozen?_alloc_past]; simp)
    · intro m hm
      have : m = 0 ∨ m = 1 ∨ m = 2 ∨ m = 3 ∨ m = 4 ∨ m = 5 ∨ m = 6 ∨ m = 7 := by omega
      rcases this with rfl | rfl | rfl | rfl | rfl | rfl | rfl | rfl <;> (simp (disch := (first | (simp only [World.size_alloc]; done) | (simp only [World.size_alloc]; omega))) only [World.cell?_alloc_at, World.frozen?_alloc_at]; simp)
    · intro m hm
      have : m = 0 ∨ m = 1 ∨ m = 2 ∨ m = 3 ∨ m = 4 ∨ m = 5 ∨ m = 6 ∨ m = 7 := by omega
      rcases this with rfl | rfl | rfl | rfl | rfl | rfl | rfl | rfl <;> (simp (disch := (first | (simp only [World.size_alloc]; done) | (simp only [World.size_alloc]; omega))) only [World.cell?_alloc_at, World.cell?_alloc_past, World.frozen?_alloc_at, World.frozen?_alloc_past]; simp)
    · go_grown
  case round =>
    obtain ⟨i, o, hi, rfl, hc, hA, hB, hO, hz, hbl⟩ := hrel
    by_cases hlt : i < 4
    · have hlt' : (i : Int) < 4 := by omega
      go_wp2
      have HC := Lib.hid hc; clear hc
      obtain ⟨wo, rfl⟩ : ∃ wo : World, wo = wr := ⟨_, rfl⟩
      go_loopw [7, 12] (Inner w (four a0 a1 a2 a3) (four b0 b1 b2 b3) i o) (fun _ k _ => 4 - (intOf k).toNat)
      case atStart => exact ⟨0, o, 0, by omega, rfl, rfl, rowInv_start _ _ _ _ HC.out.1, hA, hB, hO, hz, hbl⟩
      case round =>
        clear hA hB hO hz hbl
        obtain ⟨k, q, cc, hk, rfl, rfl, hr, hA, hB, hO, hz, hbl⟩ := hrel
        have HA := Lib.hid hA; have HB := Lib.hid hB; have HO := Lib.hid hO; have HZ := Lib.hid hz; have HR := Lib.hid hr
        clear hA hB hO hz hr
        by_cases hkl : k < 4
        · have hkl' : (k : Int) < 4 := by omega
          obtain ⟨l, h, hm, m⟩ := mad_ex (four a0 a1 a2 a3 i) (four b0 b1 b2 b3 k) (q (i + k)) cc (four_U ha i hlt) (four_U hb k hkl) (HR.out.1 _ (by omega)) HR.out.2.1
          have M := Lib.hid m; have HM := Lib.hid hm
          clear m hm
          have cA := (HA.out i hlt).1
          have cB := (HB.out k hkl).1
          have cO := (HO.out (i + k) (by omega)).1
          have fO := (HO.out (i + k) (by omega)).2
          have e1 : IntKind.i64.wrap ((i : Int) + (k : Int)) = (i : Int) + (k : Int) := IntWalk.i64_in _ (by omega)
          have e2 : ((i : Int) + (k : Int)).toNat = i + k := by omega
          have e3 : (0 : Int) ≤ (i : Int) + (k : Int) := by omega
          have e4 : (i : Int) + (k : Int) < 8 := by omega
          go_wp2
          go_region_with (go_at_call 236; refine (M.out _).mono ?_; rintro e w' ⟨rfl, rfl⟩)
          all_goals go_wp2
          all_goals exact ⟨inner_step hkl hlt HR.out HM.out HA.out HB.out HO.out HZ.out hbl, by simp [intOf]; omega⟩
        · obtain rfl : k = 4 := by omega
          have e1 : IntKind.i64.wrap ((i : Int) + 4) = (i : Int) + 4 := IntWalk.i64_in _ (by omega)
          have e2 : ((i : Int) + 4).toNat = i + 4 := by omega
          have e3 : (0 : Int) ≤ (i : Int) + 4 := by omega
          have e4 : (i : Int) + 4 < 8 := by omega
          have cO := (HO.out (i + 4) (by omega)).1
          have fO := (HO.out (i + 4) (by omega)).2
          go_wp2
          exact ⟨outer_step hlt ((part4_four _ _ _ _).trans hb.2.2.2.2) HC.out HR.out HA.out HB.out HO.out HZ.out hbl, by simp [intOf]; omega⟩
    · obtain rfl : i = 4 := by omega
      have h0 := (hO 0 (by omega)).1; have h1 := (hO 1 (by omega)).1; have h2 := (hO 2 (by omega)).1; have h3 := (hO 3 (by omega)).1
      have h4 := (hO 4 (by omega)).1; have h5 := (hO 5 (by omega)).1; have h6 := (hO 6 (by omega)).1; have h7 := (hO 7 (by omega)).1
      have z0 := hz 0 (by omega); have z1 := hz 1 (by omega); have z2 := hz 2 (by omega); have z3 := hz 3 (by omega)
      have z4 := hz 4 (by omega); have z5 := hz 5 (by omega); have z6 := hz 6 (by omega); have z7 := hz 7 (by omega)
      have hfin : Is8 (o 0) (o 1) (o 2) (o 3) (o 4) (o 5) (o 6) (o 7) (x * y) := by
        have := is8_of_col hc
        rwa [part4_four, ha.2.2.2.2] at this
      obtain ⟨y0, f0⟩ := z0; obtain ⟨y1, f1⟩ := z1; obtain ⟨y2, f2⟩ := z2; obtain ⟨y3, f3⟩ := z3
      obtain ⟨y4, f4⟩ := z4; obtain ⟨y5, f5⟩ := z5; obtain ⟨y6, f6⟩ := z6; obtain ⟨y7, f7⟩ := z7
      clear hz hO hA hB hc
      go_wp2
      refine bodyPost_ret (v := .agg #[.int .u64 (o 0), .int .u64 (o 1), .int .u64 (o 2), .int .u64 (o 3), .int .u64 (o 4), .int .u64 (o 5), .int .u64 (o 6), .int .u64 (o 7)]) (by simp [results, Tryz.results227, go_sem, y0, y1, y2, y3, y4, y5, y6, y7]) rfl ⟨_, _, _, _, _, _, _, _, rfl, hfin, ?_⟩
      go_grown
end Go.Proofs.YthjlhcmdpeinpaaGreatDoor

/- The contracts of package limb: fold, times, left, plus, minus. -/
namespace Go.Proofs.YthjlhcmdpeinpaaGreatDoor
set_option maxRecDepth 100000
open Go.RowKit
theorem fold_math {w0 w1 w2 w3 w4 w5 w6 w7 n0 n1 n2 n3 c1 c2 c3 c4 p : Int} (h : Is8 w0 w1 w2 w3 w4 w5 w6 w7 p)
    (m0 : MulTo w4 38 w0 0 n0 c1) (m1 : MulTo w5 38 w1 c1 n1 c2) (m2 : MulTo w6 38 w2 c2 n2 c3) (m3 : MulTo w7 38 w3 c3 n3 c4) :
    Is4 n0 n1 n2 n3 (val4 n0 n1 n2 n3) ∧ 0 ≤ c4 ∧ c4 ≤ 38 ∧ (∀ z k1 z2 k2 : Int, (0 ≤ z ∧ z < W256) → (0 ≤ z2 ∧ z2 < W256) → (0 ≤ k1 ∧ k1 ≤ 1) → (0 ≤ k2 ∧ k2 ≤ 1) → z + k1 * W256 = val4 n0 n1 n2 n3 + 38 * c4 → z2 + k2 * W256 = z + 38 * k1 → z2 % Pr = p % Pr) := by
  obtain ⟨⟨u0, u1, u2, u3⟩, ⟨u4, u5, u6, u7⟩, hp⟩ := h
  obtain ⟨v0, x1, g0⟩ := m0
  obtain ⟨v1, x2, g1⟩ := m1
  obtain ⟨v2, x3, g2⟩ := m2
  obtain ⟨v3, x4, g3⟩ := m3
  unfold U at *
  refine ⟨⟨v0, v1, v2, v3, rfl⟩, by omega, by omega, ?_⟩
  intro z k1 z2 k2 hz hz2 hk1 hk2 e1 e2
  have hk : k2 = 0 := by
    unfold val4 W256 at *
    omega
  subst hk
  have key : p - z2 = 2 * Pr * (val4 w4 w5 w6 w7 + c4 + k1) := by
    unfold val4 W256 Pr at *
    omega
  have : p = z2 + Pr * (2 * (val4 w4 w5 w6 w7 + c4 + k1)) := by
    rw [show Pr * (2 * (val4 w4 w5 w6 w7 + c4 + k1)) = 2 * Pr * (val4 w4 w5 w6 w7 + c4 + k1) by rw [← Int.mul_assoc, Int.mul_comm Pr 2]]
    omega
  rw [this, Int.add_mul_emod_self_left]

theorem num_lone (n : Int) (h : U n) : Num (.agg #[.int .u64 n, .int .u64 0, .int .u64 0, .int .u64 0]) n :=
  ⟨n, 0, 0, 0, rfl, h, by unfold U; omega, by unfold U; omega, by unfold U; omega, by unfold val4; omega⟩

set_option maxHeartbeats 4000000 in
theorem fold_any (w0 w1 w2 w3 w4 w5 w6 w7 p : Int) (h8 : Is8 w0 w1 w2 w3 w4 w5 w6 w7 p) (w : World) :
    Calls Tryz.prog 226 #[.agg #[.int .u64 w0, .int .u64 w1, .int .u64 w2, .int .u64 w3, .int .u64 w4, .int .u64 w5, .int .u64 w6, .int .u64 w7]] w (NumPost (fun z => z % Pr = p % Pr) w) := by
  have U0 : U 0 := by unfold U; omega
  have U38 : U 38 := by unfold U; omega
  obtain ⟨n0, c1, e0, m0⟩ := mad_ex w4 38 w0 0 h8.2.1.1 U38 h8.1.1 U0
  obtain ⟨n1, c2, e1, m1⟩ := mad_ex w5 38 w1 c1 h8.2.1.2.1 U38 h8.1.2.1 e0.2.1
  obtain ⟨n2, c3, e2, m2⟩ := mad_ex w6 38 w2 c2 h8.2.1.2.2.1 U38 h8.1.2.2.1 e1.2.1
  obtain ⟨n3, c4, e3, m3⟩ := mad_ex w7 38 w3 c3 h8.2.1.2.2.2 U38 h8.1.2.2.2 e2.2.1
  obtain ⟨f1, f2, f3, f4⟩ := fold_math h8 e0 e1 e2 e3
  have F4 := Lib.hid f4
  clear f4 e0 e1 e2 e3 U0 U38
  have M0 := Lib.hid m0; have M1 := Lib.hid m1; have M2 := Lib.hid m2; have M3 := Lib.hid m3
  clear m0 m1 m2 m3
  have wc : IntKind.u64.wrap (38 * c4) = 38 * c4 := by rw [IntKind.wrap_u64]; omega
  have i4 : IntKind.i64.wrap 4 = 4 := by rw [IntKind.wrap_i64]; rfl
  have i5 : IntKind.i64.wrap 5 = 5 := by rw [IntKind.wrap_i64]; rfl
  have i6 : IntKind.i64.wrap 6 = 6 := by rw [IntKind.wrap_i64]; rfl
  have i7 : IntKind.i64.wrap 7 = 7 := by rw [IntKind.wrap_i64]; rfl
  go_enter Tryz.func226, Tryz.ntmps226
  go_wp2
  refine wp_loop_rounds 5 ?_
  rw [rounds_succ]; go_wp2
  go_region_held3 (fun w' => w'.cell? ⟨w.heap.size, 4, none⟩ = some (.int .u64 w4) ∧ w'.cell? ⟨w.heap.size, 0, none⟩ = some (.int .u64 w0))
    (first | go_keep | (simp (disch := (first | (simp only [World.size_alloc]; done) | (simp only [World.size_alloc]; omega))) only [World.cell?_alloc_at, World.cell?_alloc_past, World.cell?_drew]; simp))
    ((go_at_call 236; refine (M0.out _).mono ?_; rintro e w' ⟨rfl, rfl⟩))
  go_wp2
  rw [rounds_succ]; go_wp2
  go_region_held3 (fun w' => w'.cell? ⟨w.heap.size, 5, none⟩ = some (.int .u64 w5) ∧ w'.cell? ⟨w.heap.size, 1, none⟩ = some (.int .u64 w1))
    (first | go_keep | (simp (disch := (first | (simp only [World.size_alloc]; done) | (simp only [World.size_alloc]; omega))) only [World.cell?_alloc_at, World.cell?_alloc_past, World.cell?_drew]; simp))
    ((go_at_call 236; refine (M1.out _).mono ?_; rintro e w' ⟨rfl, rfl⟩))
  go_wp2
  rw [rounds_succ]; go_wp2
  go_region_held3 (fun w' => w'.cell? ⟨w.heap.size, 6, none⟩ = some (.int .u64 w6) ∧ w'.cell? ⟨w.heap.size, 2, none⟩ = some (.int .u64 w2))
    (first | go_keep | (simp (disch := (first | (simp only [World.size_alloc]; done) | (simp only [World.size_alloc]; omega))) only [World.cell?_alloc_at, World.cell?_alloc_past, World.cell?_drew]; simp))
    ((go_at_call 236; refine (M2.out _).mono ?_; rintro e w' ⟨rfl, rfl⟩))
  go_wp2
  rw [rounds_succ]; go_wp2
  go_region_held3 (fun w' => w'.cell? ⟨w.heap.size, 7, none⟩ = some (.int .u64 w7) ∧ w'.cell? ⟨w.heap.size, 3, none⟩ = some (.int .u64 w3))
    (first | go_keep | (simp (disch := (first | (simp only [World.size_alloc]; done) | (simp only [World.size_alloc]; omega))) only [World.cell?_alloc_at, World.cell?_alloc_past, World.cell?_drew]; simp))
    ((go_at_call 236; refine (M3.out _).mono ?_; rintro e w' ⟨rfl, rfl⟩))
  go_wp2
  rw [rounds_succ]; go_wp2_with fail
  refine (sum_any _ _ _ _ ⟨_, _, _, _, rfl, f1⟩ (num_lone (38 * c4) (by unfold U; omega)) _).mono ?_
  rintro e w1 ⟨a, b, c, d, k1, z, rfl, hz, hk1, ez, hb1⟩
  have hN : Blk w1 (w.heap.size + 1 + 1) n0 n1 n2 n3 := Blk.below ((((Blk.fresh_at _ _ _ _ _ _ _ (by simp)).drew).drew).drew).drew hb1 (by simp)
  have hR : Blk w1 (w.heap.size + 1) 0 0 0 0 := Blk.below (((((Blk.fresh_at _ _ _ _ _ _ _ (by simp)).alloc _).drew).drew).drew).drew hb1 (by simp)
  have hb1' : Below w.heap.size w w1 := Below.trans (by go_grown) (hb1.mono (by simp; omega))
  have EZ := Lib.hid ez
  clear ez hb1 M0 M1 M2 M3 i4 i5 i6 i7
  have wk : IntKind.u64.wrap (38 * k1) = 38 * k1 := by rw [IntKind.wrap_u64]; omega
  obtain ⟨⟨x0, x1, x2, x3⟩, ⟨y0, y1, y2, y3⟩⟩ := id hN
  go_wp2_with fail
  refine (sum_any _ _ _ _ ⟨_, _, _, _, rfl, hz⟩ (num_lone (38 * k1) (by unfold U; omega)) _).mono ?_
  rintro e w2 ⟨a', b', c', d', k2, z2, rfl, hz2, hk2, ez2, hb2⟩
  clear x0 x1 x2 x3 y0 y1 y2 y3
  have hN2 : Blk w2 (w.heap.size + 1 + 1) a b c d := Blk.below (hN.set4 a b c d) hb2 (by rw [size_set4]; exact hN.lt)
  have hR2 : Blk w2 (w.heap.size + 1) 0 0 0 0 := Blk.below (hR.far4 (by omega) _ _ _ _) hb2 (by rw [size_set4]; exact hR.lt)
  have hb2' : Below w.heap.size w w2 := (below_set4 hb1' (by omega) _ _ _ _).trans (hb2.mono (by rw [size_set4]; exact Nat.le_of_lt (Nat.lt_trans (by omega) hN.lt)))
  have EZ2 := Lib.hid ez2
  clear ez2 hb2
  obtain ⟨⟨x0, x1, x2, x3⟩, ⟨y0, y1, y2, y3⟩⟩ := id hN2
  obtain ⟨⟨r0, r1, r2, r3⟩, ⟨s0, s1, s2, s3⟩⟩ := id hR2
  go_wp2_with fail
  refine bodyPost_ret (v := .agg #[.int .u64 a', .int .u64 b', .int .u64 c', .int .u64 d']) (by simp [results, Tryz.results226, go_sem, r0, r1, r2, r3]) rfl ⟨a', b', c', d', z2, rfl, hz2, F4.out z k1 z2 k2 (is4_range hz) (is4_range hz2) hk1 hk2 EZ.out EZ2.out, ?_⟩
  exact below_set4 (below_set4 hb2' (by omega) _ _ _ _) (by omega) _ _ _ _

set_option maxHeartbeats 4000000 in
theorem times_any (va vb : Value) (x y : Int) (hva : Num va x) (hvb : Num vb y) (w : World) :
    Calls Tryz.prog 212 #[va, vb] w (NumPost (fun z => z % Pr = (x * y) % Pr) w) := by
  obtain ⟨a0, a1, a2, a3, rfl, ha⟩ := hva
  obtain ⟨b0, b1, b2, b3, rfl, hb⟩ := hvb
  go_enter Tryz.func212, Tryz.ntmps212
  go_wp2_with fail
  refine (lproduct_any _ _ _ _ ⟨_, _, _, _, rfl, ha⟩ ⟨_, _, _, _, rfl, hb⟩ _).mono ?_
  rintro e w1 ⟨s0, s1, s2, s3, s4, s5, s6, s7, rfl, h8, hb1⟩
  have hR : Blk w1 (w.heap.size + 1 + 1) 0 0 0 0 := Blk.below (Blk.fresh_at _ _ _ _ _ _ _ (by simp)) hb1 (by simp)
  have hb1' : Below w.heap.size w w1 := Below.trans (by go_grown) (hb1.mono (by simp; omega))
  clear hb1
  go_wp2_with fail
  refine (fold_any _ _ _ _ _ _ _ _ _ h8 _).mono ?_
  rintro e w2 ⟨a', b', c', d', z, rfl, hz, hp, hb2⟩
  have hR2 : Blk w2 (w.heap.size + 1 + 1) 0 0 0 0 := Blk.below hR hb2 hR.lt
  have hb2' : Below w.heap.size w w2 := hb1'.trans (hb2.mono (Nat.le_of_lt (Nat.lt_trans (by omega) hR.lt)))
  have HP := Lib.hid hp
  clear hb2 hp
  obtain ⟨⟨r0, r1, r2, r3⟩, ⟨q0, q1, q2, q3⟩⟩ := id hR2
  go_wp2_with fail
  refine bodyPost_ret (v := .agg #[.int .u64 a', .int .u64 b', .int .u64 c', .int .u64 d']) (by simp [results, Tryz.results212, go_sem, r0, r1, r2, r3]) rfl ⟨a', b', c', d', z, rfl, hz, HP.out, ?_⟩
  exact below_set4 hb2' (by omega) _ _ _ _
end Go.Proofs.YthjlhcmdpeinpaaGreatDoor
