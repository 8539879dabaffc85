/- The contracts of the reference's most and root. -/
import Derived.Test.YtolobdeilfgmnaaDoorDprod
namespace Go.Proofs.YtolobdeilfgmnaaDoor
open Go.RowKit
def wantS (p q i : Nat) : Nat := if i = q then p else 0
def mostS (a : List Nat) (p q : Nat) : Nat → Bool
  | 0 => true
  | i + 1 => if a.getD i 0 = wantS p q i then mostS a p q i else decide (a.getD i 0 < wantS p q i)
def mostL (a : List Nat) (p q : Nat) : Bool := mostS a p q a.length

def MostRel (w : World) (a : List Nat) (p q : Nat) (i : Value) (wr : World) : Prop :=
  ∃ k : Nat, k ≤ a.length ∧ i = .int .i64 ((k : Int) - 1) ∧ mostL a p q = mostS a p q k ∧ Bel w wr

set_option maxRecDepth 100000 in
set_option maxHeartbeats 4000000 in
theorem most_any (va : Value) (a : List Nat) (hl : a.length ≤ 1000) (p q : Nat) (hp : p < 65536) (hq : q < 1000) (w : World) (h0 : IntsAt w va a) :
    Calls Tryd.prog 37 #[va, .int .i64 (p : Int), .int .i64 (q : Int)] w fun e w' => e = .returned (.bool (mostL a p q)) ∧ Bel w w' := by
  obtain ⟨ga, ca, rfl, hga, hca⟩ := h0
  have HA := Lib.hid hca
  clear hca
  have z1 : IntKind.i64.wrap ((a.length : Int) - 1) = (a.length : Int) - 1 := IntWalk.i64_in _ (by omega)
  go_enter Tryd.func37, Tryd.ntmps37
  go_wp2_with fail
  go_loopw [7] (MostRel w a p q) (fun i _ => (intOf i + 1).toNat)
  case atStart => exact ⟨a.length, Nat.le_refl _, rfl, rfl, by first | exact Bel.refl _ | exact ⟨by go_grown⟩⟩
  case round =>
    obtain ⟨k, hk, rfl, he, hbel⟩ := hrel
    have HE := Lib.hid he
    clear he
    rcases k with _ | k
    · have n1 : ¬ (0 : Int) ≤ ((0 : Nat) : Int) - 1 := by omega
      go_wp2_with fail
      go_ret
      refine ⟨?_, hbel⟩
      rw [HE.out]; rfl
    · have n0 : (((k + 1 : Nat) : Int) - 1) = (k : Int) := by omega
      rw [n0]
      have n1 : (0 : Int) ≤ (k : Int) := by omega
      have n2 : (k : Int) < (a.length : Int) := by omega
      have n3 : IntKind.i64.wrap ((k : Int) - 1) = (k : Int) - 1 := IntWalk.i64_in _ (by omega)
      have c1 : wr.cell? ⟨ga, k, none⟩ = some (.int .i64 ((a.getD k 0 : Nat) : Int)) := by
        rw [hbel.b.cell (p := ⟨ga, k, none⟩) (by show ga < _; omega)]; exact HA.out k (by omega)
      have hS : mostS a p q (k + 1) = if a.getD k 0 = wantS p q k then mostS a p q k else decide (a.getD k 0 < wantS p q k) := rfl
      obtain ⟨x, hx⟩ : ∃ x, a.getD k 0 = x := ⟨_, rfl⟩
      rw [hx] at c1 hS
      have HS := Lib.hid hS
      clear hS
      by_cases hkq : k = q
      · subst hkq
        have hw : wantS p k k = p := if_pos rfl
        by_cases hxp : x = p
        · subst hxp
          go_wp2_with fail
          all_goals (
            refine ⟨⟨k, by omega, by first | rfl | simp, ?_, by first | exact hbel | exact ⟨below_drewN hbel.b _⟩⟩, by first | (simp [intOf]; done) | (simp [intOf]; omega)⟩
            rw [HE.out, HS.out, hw, if_pos rfl])
        · have n4 : ¬ (x : Int) = (p : Int) := by omega
          go_wp2_with fail
          go_ret
          refine ⟨?_, by first | exact hbel | exact ⟨below_drewN hbel.b _⟩⟩
          rw [HE.out, HS.out, hw, if_neg hxp]
          simp
      · have n5 : ¬ (k : Int) = (q : Int) := by omega
        have hw : wantS p q k = 0 := if_neg hkq
        by_cases hxp : x = 0
        · subst hxp
          go_wp2_with fail
          all_goals (
            refine ⟨⟨k, by omega, by first | rfl | simp, ?_, by first | exact hbel | exact ⟨below_drewN hbel.b _⟩⟩, by first | (simp [intOf]; done) | (simp [intOf]; omega)⟩
            rw [HE.out, HS.out, hw, if_pos rfl])
        · have n4 : ¬ (x : Int) = 0 := by omega
          go_wp2_with fail
          go_ret
          refine ⟨?_, by first | exact hbel | exact ⟨below_drewN hbel.b _⟩⟩
          rw [HE.out, HS.out, hw, if_neg hxp]
          simp

def digL (n : Nat) : List Nat := [n % 65536, n / 65536 % 65536, n / 4294967296]
theorem digL_small {n : Nat} (h : n < 281474976710656) : SmallN (digL n) := by
  intro j
  rcases j with _ | _ | _ | j
  · simp [digL]; omega
  · simp [digL]; omega
  · simp [digL]; omega
  · simp [digL]
def tooS (p : Nat) (cube : Bool) (y : Nat) : Bool :=
  if cube then mostL (prodL (prodL (digL y) (digL y)) (digL y)) p 6 else mostL (prodL (digL y) (digL y)) p 4
def rootS (p : Nat) (cube : Bool) : Nat → Nat → Nat
  | 0, out => out
  | k + 1, out => rootS p cube k (if tooS p cube (out + 2 ^ k) then out + 2 ^ k else out)
def rootL (p : Nat) (cube : Bool) : Nat := rootS p cube 36 0 % 4294967296
def bitK : Nat → Nat
  | 0 => 0
  | k + 1 => 2 ^ k
theorem bitK_half (k : Nat) : bitK (k + 1) / 2 = bitK k := by
  rcases k with _ | k
  · rfl
  · show 2 ^ (k + 1) / 2 = 2 ^ k
    rw [Nat.pow_succ]; omega

def RootRel (w : World) (p : Nat) (cube : Bool) (o b : Value) (wr : World) : Prop :=
  ∃ k out : Nat, k ≤ 36 ∧ out + 2 ^ k ≤ 68719476736 ∧ o = .int .i64 (out : Int) ∧ b = .int .i64 (bitK k : Int) ∧ rootS p cube 36 0 = rootS p cube k out ∧ Bel w wr
def kOf (b : Value) : Nat := if intOf b = 0 then 0 else (intOf b).toNat.log2 + 1
theorem kOf_bitK (k : Nat) : kOf (.int .i64 (bitK k : Int)) = k := by
  rcases k with _ | k
  · rfl
  · have h : bitK (k + 1) = 2 ^ k := rfl
    have hp : 0 < 2 ^ k := Nat.two_pow_pos k
    simp only [kOf, intOf, h]
    rw [if_neg (by omega), Int.toNat_natCast, Nat.log2_two_pow]

set_option maxRecDepth 100000 in
set_option maxHeartbeats 4000000 in
theorem root_any (p : Nat) (hp : p < 65536) (cube : Bool) (w : World) :
    Calls Tryd.prog 28 #[.int .i64 (p : Int), .bool cube] w fun e w' => e = .returned (.int .u32 (rootL p cube : Int)) ∧ Bel w w' := by
  go_enter Tryd.func28, Tryd.ntmps28
  go_wp2_with fail
  go_loopw [5, 6] (RootRel w p cube) (fun _ b _ => kOf b)
  case atStart => exact ⟨36, 0, Nat.le_refl _, by omega, rfl, rfl, rfl, by first | exact Bel.refl _ | exact ⟨by go_grown⟩⟩
  case round =>
    obtain ⟨k, out, hk, ho, rfl, rfl, he, hbel⟩ := hrel
    have HE := Lib.hid he
    clear he
    rcases k with _ | k
    · have b0 : ((bitK 0 : Nat) : Int) = 0 := rfl
      rw [b0]
      go_wp2_with fail
      go_ret
      refine ⟨?_, hbel⟩
      rw [rootL, HE.out]
      have u1 : IntKind.u32.wrap ((out : Int) % 4294967296) = ((out % 4294967296 : Nat) : Int) := IntWalk.u32_in _ (by omega)
      rw [rootS]
      first | rw [u1] | simp
    · have _ := k
      have hbk := bitK_half k
      have hb1 : bitK (k + 1) = 2 ^ k := rfl
      have hpos : 0 < 2 ^ k := Nat.two_pow_pos k
      rw [Nat.pow_succ] at ho
      have hE : rootS p cube (k + 1) out = rootS p cube k (if tooS p cube (out + 2 ^ k) then out + 2 ^ k else out) := rfl
      rw [hb1] at hbk ⊢
      obtain ⟨b, hb⟩ : ∃ b, 2 ^ k = b := ⟨_, rfl⟩
      obtain ⟨b', hb'⟩ : ∃ b', bitK k = b' := ⟨_, rfl⟩
      rw [hb] at ho hpos hE hbk ⊢
      rw [hb'] at hbk
      obtain ⟨y, hy⟩ : ∃ y, out + b = y := ⟨_, rfl⟩
      rw [hy] at hE
      have hy2 : y < 281474976710656 := by omega
      have w1 : IntKind.i64.wrap ((out : Int) + (b : Int)) = (y : Int) := by
        rw [show (out : Int) + (b : Int) = (y : Int) by omega]; exact IntWalk.i64_in _ (by omega)
      have g1 : (0 : Int) < (b : Int) := by omega
      have HB := Lib.hid hb; have HB' := Lib.hid hb'; have HH := Lib.hid hE
      clear hb hb' hE hb1
      have hsm := digL_small hy2
      have hl3 : (digL y).length = 3 := rfl
      have hPm := prodL_small (digL y) (digL y)
      have hPl := prodL_length (digL y) (digL y)
      have hQl := prodL_length (prodL (digL y) (digL y)) (digL y)
      rw [hl3] at hPl hQl
      rw [hPl] at hQl
      go_upto_region 6 with (go_at_call 36; refine (digits_any y hy2 _).mono ?_; rintro e w1 ⟨vx, rfl, hX, hbX⟩)
      have hX' : IntsAt w1 vx (digL y) := hX
      have HXX := Lib.hid hX'
      have hbel1 : Bel w w1 := hbel.on (by first | exact hbX | exact below_drewN hbX _)
      clear hX hX' hbX
      go_upto_region 7 with (first | (go_at_call 38; refine (product_any _ _ (digL y) (digL y) hsm hsm (by rw [hl3]; omega) (by rw [hl3]; omega) _ HXX.out HXX.out).mono ?_; rintro e w2 ⟨v2, rfl, h2, hb2⟩; have h2' := Lib.hid (OwnI.at h2 (by omega)); clear h2) | (go_at_call 37; refine (most_any _ _ (by omega) p 4 hp (by omega) _ h2'.out).mono ?_; rintro e w3 ⟨rfl, hb3⟩))
      have hbel3 : Bel w w3 := (hbel1.on hb2).on hb3.b
      have HX3 := Lib.hid (HXX.out.on (hb2.trans (hb3.b.mono hb2.size)))
      clear h2' hb2 hb3 hbel1 HXX
      have tI : tooS p cube y = if cube then mostL (prodL (prodL (digL y) (digL y)) (digL y)) p 6 else mostL (prodL (digL y) (digL y)) p 4 := rfl
      have HT := Lib.hid tI
      clear tI
      have hend : ∀ (t : Bool), tooS p cube y = t → rootS p cube 36 0 = rootS p cube k (if t = true then y else out) := by
        intro t ht
        rw [HE.out, HH.out, ht]
      have HEND := Lib.hid hend
      clear hend
      cases cube with
      | false =>
        have ht := HT.out
        rw [if_neg (by decide)] at ht
        obtain ⟨t, htt⟩ : ∃ t, mostL (prodL (digL y) (digL y)) p 4 = t := ⟨_, rfl⟩
        rw [htt] at ht ⊢
        have e := HEND.out t ht
        have HE2 := Lib.hid e
        clear e ht htt HEND HT
        cases t
        · go_wp2_with fail
          have eb : (b : Int) / 2 = (b' : Int) := by omega
          rw [eb]
          refine ⟨⟨k, out, by omega, by rw [HB.out]; omega, rfl, by rw [HB'.out], HE2.out, hbel3⟩, ?_⟩
          have e1 : kOf (Value.int .i64 (b' : Int)) = k := by rw [← HB'.out]; exact kOf_bitK k
          have e2 : kOf (Value.int .i64 (b : Int)) = k + 1 := by rw [← HB.out]; exact kOf_bitK (k + 1)
          simp [e1, e2]
        · go_wp2_with fail
          have eb : (b : Int) / 2 = (b' : Int) := by omega
          rw [eb]
          refine ⟨⟨k, y, by omega, by rw [HB.out]; omega, rfl, by rw [HB'.out], HE2.out, hbel3⟩, ?_⟩
          have e1 : kOf (Value.int .i64 (b' : Int)) = k := by rw [← HB'.out]; exact kOf_bitK k
          have e2 : kOf (Value.int .i64 (b : Int)) = k + 1 := by rw [← HB.out]; exact kOf_bitK (k + 1)
          simp [e1, e2]
      | true =>
        have ht := HT.out
        rw [if_pos rfl] at ht
        clear HT
        go_upto_region 8 with fail
        go_upto_region 9 with (first | (go_at_call_of 37 v5; refine (most_any _ _ (by omega) p 6 hp (by omega) _ h5'.out).mono ?_; rintro e w6 ⟨rfl, hb6⟩) | (go_at_call_of 38 v4; refine (product_any _ _ (prodL (digL y) (digL y)) (digL y) hPm hsm (by omega) (by rw [hl3]; omega) _ h4'.out HX4.out).mono ?_; rintro e w5 ⟨v5, rfl, h5, hb5⟩; have h5' := Lib.hid (OwnI.at h5 (by omega)); clear h5) | (go_at_call 38; refine (product_any _ _ (digL y) (digL y) hsm hsm (by rw [hl3]; omega) (by rw [hl3]; omega) _ HX3.out HX3.out).mono ?_; rintro e w4 ⟨v4, rfl, h4, hb4⟩; have h4' := Lib.hid (OwnI.at h4 (by omega)); clear h4; have HX4 := Lib.hid (HX3.out.on hb4)))
        have hbel6 : Bel w w6 := ((hbel3.on hb4).on hb5).on hb6.b
        obtain ⟨t, htt⟩ : ∃ t, mostL (prodL (prodL (digL y) (digL y)) (digL y)) p 6 = t := ⟨_, rfl⟩
        rw [htt] at ht ⊢
        have e := HEND.out t ht
        have HE2 := Lib.hid e
        clear e ht htt HEND hb4 hb5 hb6 hbel3 HX3 HX4 h4' h5'
        cases t
        · go_wp2_with fail
          have eb : (b : Int) / 2 = (b' : Int) := by omega
          rw [eb]
          refine ⟨⟨k, out, by omega, by rw [HB.out]; omega, rfl, by rw [HB'.out], HE2.out, hbel6⟩, ?_⟩
          have e1 : kOf (Value.int .i64 (b' : Int)) = k := by rw [← HB'.out]; exact kOf_bitK k
          have e2 : kOf (Value.int .i64 (b : Int)) = k + 1 := by rw [← HB.out]; exact kOf_bitK (k + 1)
          simp [e1, e2]
        · go_wp2_with fail
          have eb : (b : Int) / 2 = (b' : Int) := by omega
          rw [eb]
          refine ⟨⟨k, y, by omega, by rw [HB.out]; omega, rfl, by rw [HB'.out], HE2.out, hbel6⟩, ?_⟩
          have e1 : kOf (Value.int .i64 (b' : Int)) = k := by rw [← HB'.out]; exact kOf_bitK k
          have e2 : kOf (Value.int .i64 (b : Int)) = k + 1 := by rw [← HB.out]; exact kOf_bitK (k + 1)
          simp [e1, e2]
end Go.Proofs.YtolobdeilfgmnaaDoor