/- The texts Droot, Eprime, Kw, Ew, one behind the other. -/
import Derived.Test.YtdnjieffbgmagaaDoorBg5
import Derived.Test.YtdnjieffbgmagaaDoorRows
import Derived.Test.YtdnjieffbgmagaaDoorBg1
import Derived.Test.YtdnjieffbgmagaaDoorBg3
/- The contracts of the reference's most and root. -/
namespace Go.Proofs.YtdnjieffbgmagaaDoor
open Go.RowKit
def wantS (p q i : Nat) : Nat := if i = q then p else 0
def mostS (a : List Nat) (p q : Nat) : Nat → Bool
  | 0 => true
  | i + 1 => if a.getD i 0 = wantS p q i then mostS a p q i else decide (a.getD i 0 < wantS p q i)
def mostL (a : List Nat) (p q : Nat) : Bool := mostS a p q a.length

def MostRel (w : World) (a : List Nat) (p q : Nat) (i : Value) (wr : World) : Prop :=
  ∃ k : Nat, k ≤ a.length ∧ i = .int .i64 ((k : Int) - 1) ∧ mostL a p q = mostS a p q k ∧ Bel w wr

set_option maxRecDepth 100000 in
set_option maxHeartbeats 4000000 in
theorem most_any (va : Value) (a : List Nat) (hl : a.length ≤ 1000) (p q : Nat) (hp : p < 65536) (hq : q < 1000) (w : World) (h0 : IntsAt w va a) :
    Calls Tryd.prog 65 #[va, .int .i64 (p : Int), .int .i64 (q : Int)] w fun e w' => e = .returned (.bool (mostL a p q)) ∧ Bel w w' := by
  obtain ⟨ga, ca, rfl, hga, hca⟩ := h0
  have HA := Lib.hid hca
  clear hca
  have z1 : IntKind.i64.wrap ((a.length : Int) - 1) = (a.length : Int) - 1 := IntWalk.i64_in _ (by omega)
  go_enter Tryd.func65, Tryd.ntmps65
  go_wp2_with fail
  go_loopw [7] (MostRel w a p q) (fun i _ => (intOf i + 1).toNat)
  case atStart => exact ⟨a.length, Nat.le_refl _, rfl, rfl, by first | exact Bel.refl _ | exact ⟨by go_grown⟩⟩
  case round =>
    obtain ⟨k, hk, rfl, he, hbel⟩ := hrel
    have HE := Lib.hid he
    clear he
    rcases k with _ | k
    · have n1 : ¬ (0 : Int) ≤ ((0 : Nat) : Int) - 1 := by omega
      go_wp2_with fail
      go_ret
      refine ⟨?_, hbel⟩
      rw [HE.out]; rfl
    · have n0 : (((k + 1 : Nat) : Int) - 1) = (k : Int) := by omega
      rw [n0]
      have n1 : (0 : Int) ≤ (k : Int) := by omega
      have n2 : (k : Int) < (a.length : Int) := by omega
      have n3 : IntKind.i64.wrap ((k : Int) - 1) = (k : Int) - 1 := IntWalk.i64_in _ (by omega)
      have c1 : wr.cell? ⟨ga, k, none⟩ = some (.int .i64 ((a.getD k 0 : Nat) : Int)) := by
        rw [hbel.b.cell (p := ⟨ga, k, none⟩) (by show ga < _; omega)]; exact HA.out k (by omega)
      have hS : mostS a p q (k + 1) = if a.getD k 0 = wantS p q k then mostS a p q k else decide (a.getD k 0 < wantS p q k) := rfl
      obtain ⟨x, hx⟩ : ∃ x, a.getD k 0 = x := ⟨_, rfl⟩
      rw [hx] at c1 hS
      have HS := Lib.hid hS
      clear hS
      by_cases hkq : k = q
      · subst hkq
        have hw : wantS p k k = p := if_pos rfl
        by_cases hxp : x = p
        · subst hxp
          go_wp2_with fail
          all_goals (
            refine ⟨⟨k, by omega, by first | rfl | simp, ?_, by first | exact hbel | exact ⟨below_drewN hbel.b _⟩⟩, by first | (simp [intOf]; done) | (simp [intOf]; omega)⟩
            rw [HE.out, HS.out, hw, if_pos rfl])
        · have n4 : ¬ (x : Int) = (p : Int) := by omega
          go_wp2_with fail
          go_ret
          refine ⟨?_, by first | exact hbel | exact ⟨below_drewN hbel.b _⟩⟩
          rw [HE.out, HS.out, hw, if_neg hxp]
          simp
      · have n5 : ¬ (k : Int) = (q : Int) := by omega
        have hw : wantS p q k = 0 := if_neg hkq
        by_cases hxp : x = 0
        · subst hxp
          go_wp2_with fail
          all_goals (
            refine ⟨⟨k, by omega, by first | rfl | simp, ?_, by first | exact hbel | exact ⟨below_drewN hbel.b _⟩⟩, by first | (simp [intOf]; done) | (simp [intOf]; omega)⟩
            rw [HE.out, HS.out, hw, if_pos rfl])
        · have n4 : ¬ (x : Int) = 0 := by omega
          go_wp2_with fail
          go_ret
          refine ⟨?_, by first | exact hbel | exact ⟨below_drewN hbel.b _⟩⟩
          rw [HE.out, HS.out, hw, if_neg hxp]
          simp

def digLD (n : Nat) : List Nat := [n % 65536, n / 65536 % 65536, n / 4294967296]
theorem digL_small {n : Nat} (h : n < 281474976710656) : SmallN (digLD n) := by
  intro j
  rcases j with _ | _ | _ | j
  · simp [digLD]; omega
  · simp [digLD]; omega
  · simp [digLD]; omega
  · simp [digLD]
def tooS (p : Nat) (cube : Bool) (y : Nat) : Bool :=
  if cube then mostL (prodL (prodL (digLD y) (digLD y)) (digLD y)) p 6 else mostL (prodL (digLD y) (digLD y)) p 4
def rootS (p : Nat) (cube : Bool) : Nat → Nat → Nat
  | 0, out => out
  | k + 1, out => rootS p cube k (if tooS p cube (out + 2 ^ k) then out + 2 ^ k else out)
def rootL (p : Nat) (cube : Bool) : Nat := rootS p cube 36 0 % 4294967296
def bitK : Nat → Nat
  | 0 => 0
  | k + 1 => 2 ^ k
theorem bitK_half (k : Nat) : bitK (k + 1) / 2 = bitK k := by
  rcases k with _ | k
  · rfl
  · show 2 ^ (k + 1) / 2 = 2 ^ k
    rw [Nat.pow_succ]; omega

def RootRel (w : World) (p : Nat) (cube : Bool) (o b : Value) (wr : World) : Prop :=
  ∃ k out : Nat, k ≤ 36 ∧ out + 2 ^ k ≤ 68719476736 ∧ o = .int .i64 (out : Int) ∧ b = .int .i64 (bitK k : Int) ∧ rootS p cube 36 0 = rootS p cube k out ∧ Bel w wr
def kOf (b : Value) : Nat := if intOf b = 0 then 0 else (intOf b).toNat.log2 + 1
theorem kOf_bitK (k : Nat) : kOf (.int .i64 (bitK k : Int)) = k := by
  rcases k with _ | k
  · rfl
  · have h : bitK (k + 1) = 2 ^ k := rfl
    have hp : 0 < 2 ^ k := Nat.two_pow_pos k
    simp only [kOf, intOf, h]
    rw [if_neg (by omega), Int.toNat_natCast, Nat.log2_two_pow]

set_option maxRecDepth 100000 in
set_option maxHeartbeats 4000000 in
theorem root_any (p : Nat) (hp : p < 65536) (cube : Bool) (w : World) :
    Calls Tryd.prog 50 #[.int .i64 (p : Int), .bool cube] w fun e w' => e = .returned (.int .u32 (rootL p cube : Int)) ∧ Bel w w' := by
  go_enter Tryd.func50, Tryd.ntmps50
  go_wp2_with fail
  go_loopw [5, 6] (RootRel w p cube) (fun _ b _ => kOf b)
  case atStart => exact ⟨36, 0, Nat.le_refl _, by omega, rfl, rfl, rfl, by first | exact Bel.refl _ | exact ⟨by go_grown⟩⟩
  case round =>
    obtain ⟨k, out, hk, ho, rfl, rfl, he, hbel⟩ := hrel
    have HE := Lib.hid he
    clear he
    rcases k with _ | k
    · have b0 : ((bitK 0 : Nat) : Int) = 0 := rfl
      rw [b0]
      go_wp2_with fail
      go_ret
      refine ⟨?_, hbel⟩
      rw [rootL, HE.out]
      have u1 : IntKind.u32.wrap ((out : Int) % 4294967296) = ((out % 4294967296 : Nat) : Int) := IntWalk.u32_in _ (by omega)
      rw [rootS]
      first | rw [u1] | simp
    · have _ := k
      have hbk := bitK_half k
      have hb1 : bitK (k + 1) = 2 ^ k := rfl
      have hpos : 0 < 2 ^ k := Nat.two_pow_pos k
      rw [Nat.pow_succ] at ho
      have hE : rootS p cube (k + 1) out = rootS p cube k (if tooS p cube (out + 2 ^ k) then out + 2 ^ k else out) := rfl
      rw [hb1] at hbk ⊢
      obtain ⟨b, hb⟩ : ∃ b, 2 ^ k = b := ⟨_, rfl⟩
      obtain ⟨b', hb'⟩ : ∃ b', bitK k = b' := ⟨_, rfl⟩
      rw [hb] at ho hpos hE hbk ⊢
      rw [hb'] at hbk
      obtain ⟨y, hy⟩ : ∃ y, out + b = y := ⟨_, rfl⟩
      rw [hy] at hE
      have hy2 : y < 281474976710656 := by omega
      have w1 : IntKind.i64.wrap ((out : Int) + (b : Int)) = (y : Int) := by
        rw [show (out : Int) + (b : Int) = (y : Int) by omega]; exact IntWalk.i64_in _ (by omega)
      have g1 : (0 : Int) < (b : Int) := by omega
      have HB := Lib.hid hb; have HB' := Lib.hid hb'; have HH := Lib.hid hE
      clear hb hb' hE hb1
      have hsm := digL_small hy2
      have hl3 : (digLD y).length = 3 := rfl
      have hPm := prodL_small (digLD y) (digLD y)
      have hPl := prodL_length (digLD y) (digLD y)
      have hQl := prodL_length (prodL (digLD y) (digLD y)) (digLD y)
      rw [hl3] at hPl hQl
      rw [hPl] at hQl
      go_upto_region 6 with (go_at_call 64; refine (digits_any y hy2 _).mono ?_; rintro e w1 ⟨vx, rfl, hX, hbX⟩)
      have hX' : IntsAt w1 vx (digLD y) := hX
      have HXX := Lib.hid hX'
      have hbel1 : Bel w w1 := hbel.on (by first | exact hbX | exact below_drewN hbX _)
      clear hX hX' hbX
      go_upto_region 7 with (first | (go_at_call 66; refine (product_any _ _ (digLD y) (digLD y) hsm hsm (by rw [hl3]; omega) (by rw [hl3]; omega) _ HXX.out HXX.out).mono ?_; rintro e w2 ⟨v2, rfl, h2, hb2⟩; have h2' := Lib.hid (OwnI.at h2 (by omega)); clear h2) | (go_at_call 65; refine (most_any _ _ (by omega) p 4 hp (by omega) _ h2'.out).mono ?_; rintro e w3 ⟨rfl, hb3⟩))
      have hbel3 : Bel w w3 := (hbel1.on hb2).on hb3.b
      have HX3 := Lib.hid (HXX.out.on (hb2.trans (hb3.b.mono hb2.size)))
      clear h2' hb2 hb3 hbel1 HXX
      have tI : tooS p cube y = if cube then mostL (prodL (prodL (digLD y) (digLD y)) (digLD y)) p 6 else mostL (prodL (digLD y) (digLD y)) p 4 := rfl
      have HT := Lib.hid tI
      clear tI
      have hend : ∀ (t : Bool), tooS p cube y = t → rootS p cube 36 0 = rootS p cube k (if t = true then y else out) := by
        intro t ht
        rw [HE.out, HH.out, ht]
      have HEND := Lib.hid hend
      clear hend
      cases cube with
      | false =>
        have ht := HT.out
        rw [if_neg (by decide)] at ht
        obtain ⟨t, htt⟩ : ∃ t, mostL (prodL (digLD y) (digLD y)) p 4 = t := ⟨_, rfl⟩
        rw [htt] at ht ⊢
        have e := HEND.out t ht
        have HE2 := Lib.hid e
        clear e ht htt HEND HT
        cases t
        · go_wp2_with fail
          have eb : (b : Int) / 2 = (b' : Int) := by omega
          rw [eb]
          refine ⟨⟨k, out, by omega, by rw [HB.out]; omega, rfl, by rw [HB'.out], HE2.out, hbel3⟩, ?_⟩
          have e1 : kOf (Value.int .i64 (b' : Int)) = k := by rw [← HB'.out]; exact kOf_bitK k
          have e2 : kOf (Value.int .i64 (b : Int)) = k + 1 := by rw [← HB.out]; exact kOf_bitK (k + 1)
          simp [e1, e2]
        · go_wp2_with fail
          have eb : (b : Int) / 2 = (b' : Int) := by omega
          rw [eb]
          refine ⟨⟨k, y, by omega, by rw [HB.out]; omega, rfl, by rw [HB'.out], HE2.out, hbel3⟩, ?_⟩
          have e1 : kOf (Value.int .i64 (b' : Int)) = k := by rw [← HB'.out]; exact kOf_bitK k
          have e2 : kOf (Value.int .i64 (b : Int)) = k + 1 := by rw [← HB.out]; exact kOf_bitK (k + 1)
          simp [e1, e2]
      | true =>
        have ht := HT.out
        rw [if_pos rfl] at ht
        clear HT
        go_upto_region 8 with fail
        go_upto_region 9 with (first | (go_at_call_of 65 v5; refine (most_any _ _ (by omega) p 6 hp (by omega) _ h5'.out).mono ?_; rintro e w6 ⟨rfl, hb6⟩) | (go_at_call_of 66 v4; refine (product_any _ _ (prodL (digLD y) (digLD y)) (digLD y) hPm hsm (by omega) (by rw [hl3]; omega) _ h4'.out HX4.out).mono ?_; rintro e w5 ⟨v5, rfl, h5, hb5⟩; have h5' := Lib.hid (OwnI.at h5 (by omega)); clear h5) | (go_at_call 66; refine (product_any _ _ (digLD y) (digLD y) hsm hsm (by rw [hl3]; omega) (by rw [hl3]; omega) _ HX3.out HX3.out).mono ?_; rintro e w4 ⟨v4, rfl, h4, hb4⟩; have h4' := Lib.hid (OwnI.at h4 (by omega)); clear h4; have HX4 := Lib.hid (HX3.out.on hb4)))
        have hbel6 : Bel w w6 := ((hbel3.on hb4).on hb5).on hb6.b
        obtain ⟨t, htt⟩ : ∃ t, mostL (prodL (prodL (digLD y) (digLD y)) (digLD y)) p 6 = t := ⟨_, rfl⟩
        rw [htt] at ht ⊢
        have e := HEND.out t ht
        have HE2 := Lib.hid e
        clear e ht htt HEND hb4 hb5 hb6 hbel3 HX3 HX4 h4' h5'
        cases t
        · go_wp2_with fail
          have eb : (b : Int) / 2 = (b' : Int) := by omega
          rw [eb]
          refine ⟨⟨k, out, by omega, by rw [HB.out]; omega, rfl, by rw [HB'.out], HE2.out, hbel6⟩, ?_⟩
          have e1 : kOf (Value.int .i64 (b' : Int)) = k := by rw [← HB'.out]; exact kOf_bitK k
          have e2 : kOf (Value.int .i64 (b : Int)) = k + 1 := by rw [← HB.out]; exact kOf_bitK (k + 1)
          simp [e1, e2]
        · go_wp2_with fail
          have eb : (b : Int) / 2 = (b' : Int) := by omega
          rw [eb]
          refine ⟨⟨k, y, by omega, by rw [HB.out]; omega, rfl, by rw [HB'.out], HE2.out, hbel6⟩, ?_⟩
          have e1 : kOf (Value.int .i64 (b' : Int)) = k := by rw [← HB'.out]; exact kOf_bitK k
          have e2 : kOf (Value.int .i64 (b : Int)) = k + 1 := by rw [← HB.out]; exact kOf_bitK (k + 1)
          simp [e1, e2]
end Go.Proofs.YtdnjieffbgmagaaDoor

/- The contract of the reference's primes: the first so many prime numbers. -/
namespace Go.Proofs.YtdnjieffbgmagaaDoor
open Go.RowKit
/-- does none of the first j numbers of the list divide n? -/
def noneS (l : List Nat) (n : Nat) : Nat → Bool
  | 0 => true
  | j + 1 => noneS l n j && decide (n % l.getD j 0 ≠ 0)
/-- the prime numbers among 2 to k + 1 -/
def primU : Nat → List Nat
  | 0 => []
  | k + 1 => if noneS (primU k) (k + 2) (primU k).length then primU k ++ [k + 2] else primU k
theorem primU_le (k : Nat) : (primU k).length ≤ k := by
  induction k with
  | zero => simp [primU]
  | succ k ih =>
    rw [primU]
    split
    · simp; omega
    · omega
theorem primU_mem (k : Nat) : ∀ x ∈ primU k, 2 ≤ x ∧ x ≤ k + 1 := by
  induction k with
  | zero => simp [primU]
  | succ k ih =>
    rw [primU]
    intro x hx
    split at hx
    · rcases List.mem_append.1 hx with h | h
      · have := ih x h; omega
      · have : x = k + 2 := by simpa using h
        omega
    · have := ih x hx; omega
theorem primU_get (k j : Nat) (hj : j < (primU k).length) : 2 ≤ (primU k).getD j 0 ∧ (primU k).getD j 0 ≤ k + 1 := by
  have : (primU k).getD j 0 = (primU k)[j] := by simp [List.getD, hj]
  rw [this]
  exact primU_mem k _ (List.getElem_mem hj)
theorem primU_pre (k K : Nat) (h : k ≤ K) : ∃ t, primU K = primU k ++ t := by
  induction h with
  | refl => exact ⟨[], by simp⟩
  | @step m _ ih =>
    obtain ⟨t, ht⟩ := ih
    have e : primU (m + 1) = if noneS (primU m) (m + 2) (primU m).length then primU m ++ [m + 2] else primU m := rfl
    rw [e]
    split
    · exact ⟨t ++ [m + 2], by rw [ht]; simp⟩
    · exact ⟨t, ht⟩

def PrimOuter (w : World) (K : Nat) (v n : Value) (wr : World) : Prop :=
  ∃ k g cap : Nat, k ≤ K ∧ n = .int .i64 ((k + 2 : Nat) : Int) ∧ v = .slice (some ⟨g, 0, none⟩) (primU k).length cap ∧ OwnI wr w.heap.size v (primU k) ∧ Below w.heap.size w wr
def PrimInner (w0 : World) (l : List Nat) (n : Nat) (s i : Value) (wr : World) : Prop :=
  ∃ j : Nat, j ≤ l.length ∧ i = .int .i64 (j : Int) ∧ s = .bool (noneS l n j) ∧ Bel w0 wr

set_option maxRecDepth 100000 in
set_option maxHeartbeats 4000000 in
theorem primes_any (m K : Nat) (hm : m ≤ 1000) (hK : (primU K).length = m) (hK2 : K ≤ 1000) (w : World) :
    Calls Tryd.prog 49 #[.int .i64 (m : Int)] w fun e w' => ∃ v, e = .returned v ∧ OwnI w' w.heap.size v (primU K) ∧ Below w.heap.size w w' := by
  go_enter Tryd.func49, Tryd.ntmps49
  go_wp2_with fail
  go_loopw [3, 4] (PrimOuter w K) (fun _ n _ => K + 2 - (intOf n).toNat)
  case atStart => exact ⟨0, _, _, by omega, rfl, rfl, OwnI.empty w _ (Nat.le_refl _), by go_grown⟩
  case round =>
    obtain ⟨k, g, cap, hk, rfl, rfl, hI, hbl⟩ := hrel
    have hsz := hbl.size
    have hmem := primU_get k
    have hle := primU_le k
    have hpre := primU_pre k K hk
    have hstep : primU (k + 1) = if noneS (primU k) (k + 2) (primU k).length then primU k ++ [k + 2] else primU k := rfl
    have HS := Lib.hid hstep; have HPR := Lib.hid hpre; have HM := Lib.hid hmem
    clear hstep hpre hmem
    obtain ⟨l, hl⟩ : ∃ l, primU k = l := ⟨_, rfl⟩
    rw [hl] at hI hle HS HPR HM ⊢
    have HL := Lib.hid hl
    clear hl
    have hd := hI.at
    have HI := Lib.hid hI
    clear hI
    by_cases hlt : l.length < m
    · have l1 : (l.length : Int) < (m : Int) := by omega
      have hkK : k < K := by
        rcases Nat.lt_or_ge k K with h | h
        · exact h
        · exfalso
          obtain rfl : k = K := by omega
          rw [HL.out] at hK
          omega
      obtain ⟨n, hn⟩ : ∃ n, k + 2 = n := ⟨_, rfl⟩
      have hn2 : n ≤ 1001 := by omega
      have w1 : IntKind.i64.wrap ((n : Int) + 1) = ((n + 1 : Nat) : Int) := by rw [← Int.natCast_one, ← Int.natCast_add]; exact IntWalk.i64_in _ (by omega)
      rw [hn] at HS ⊢
      have HN := Lib.hid hn
      have HA : Hid (0 < l.length → IntsAt wr (.slice (some ⟨g, 0, none⟩) l.length cap) l) := hd
      clear hd hn
      go_wp2_with fail
      obtain ⟨wo, rfl⟩ : ∃ wo : World, wo = wr := ⟨_, rfl⟩
      go_loopw [5, 17] (PrimInner wo l n) (fun _ j _ => l.length - (intOf j).toNat)
      case atStart => exact ⟨0, by omega, rfl, rfl, Bel.refl _⟩
      case round =>
        obtain ⟨j, hj, rfl, rfl, hbel⟩ := hrel
        by_cases hjl : j < l.length
        · have l2 : (j : Int) < (l.length : Int) := by omega
          obtain ⟨g', c', e', hg', hc'⟩ := HA.out (by omega)
          obtain ⟨rfl, rfl⟩ : g = g' ∧ cap = c' := by simpa using e'
          have c1 : wr.cell? ⟨g, j, none⟩ = some (.int .i64 ((l.getD j 0 : Nat) : Int)) := by
            rw [hbel.b.cell (p := ⟨g, j, none⟩) hg']; exact hc' j hjl
          have hmj := HM.out j (by omega)
          have hst : noneS l n (j + 1) = (noneS l n j && decide (n % l.getD j 0 ≠ 0)) := rfl
          obtain ⟨p, hp⟩ : ∃ p, l.getD j 0 = p := ⟨_, rfl⟩
          rw [hp] at c1 hmj hst
          have hp0 : ¬ (p : Int) = 0 := by omega
          have m1 : (n : Int).tmod (p : Int) = ((n % p : Nat) : Int) := by
            rw [Int.natCast_emod, Int.tmod_eq_emod_of_nonneg (by omega)]
          have m2 : IntKind.i64.wrap ((n % p : Nat) : Int) = ((n % p : Nat) : Int) := IntWalk.i64_in _ (by have := Nat.mod_le n p; omega)
          obtain ⟨q, hq⟩ : ∃ q, n % p = q := ⟨_, rfl⟩
          rw [hq] at hst m1 m2
          have HST := Lib.hid hst
          clear hst hc' e'
          obtain ⟨t, ht⟩ : ∃ t, noneS l n j = t := ⟨_, rfl⟩
          rw [ht] at HST ⊢
          clear ht
          cases t
          · go_wp2_with fail
            all_goals (
              refine ⟨⟨j + 1, by omega, by simp, by rw [HST.out]; rfl, hbel⟩, by simp [intOf]; omega⟩)
          · go_wp2_with fail
            all_goals (
              refine ⟨⟨j + 1, by omega, by simp, ?_, hbel⟩, by simp [intOf]; omega⟩
              rw [HST.out]
              by_cases hq0 : q = 0
              · subst hq0; rfl
              · have hq1 : ¬ (q : Int) = 0 := by omega
                simp [hq0])
        · have ej : j = l.length := by omega
          have l2 : ¬ (j : Int) < (l.length : Int) := by omega
          have hI' := HI.out.on hbel.b
          have hB' : Below w.heap.size w wr := hbl.trans (hbel.b.mono hsz)
          have hsr := hB'.size
          have HI2 := Lib.hid hI'
          clear hI'
          obtain ⟨t, ht⟩ : ∃ t, noneS l n l.length = t := ⟨_, rfl⟩
          have hS := HS.out
          rw [ht] at hS
          rw [ej, ht]
          have HS2 := Lib.hid hS
          clear HS hS ht
          cases t
          · go_wp2_with fail
            all_goals (
              have e : primU (k + 1) = l := by rw [HS2.out]; rfl
              refine ⟨⟨k + 1, g, cap, by omega, ?_, by rw [e], by rw [e]; exact HI2.out, hB'⟩, ?_⟩
              · rw [show k + 1 + 2 = n + 1 by have := HN.out; omega]; simp
              · have := HN.out
                simp [intOf]; omega)
          · go_wp2_with (at_builtin; refine append_i rfl _ _ rfl w.heap.size _ l n wr.heap.size rfl ?c0 ?c1 ?c2 ?c3 ?c4 ?_)
            case c0 => exact OwnI.alloc HI2.out _
            case c3 => omega
            case c4 => first | omega | (simp; omega)
            intro g' cap' w' hI3 hg'
            have hB2 := HI2.out.below hB' hsr hg'
            have HI3 := Lib.hid hI3
            clear hI3 hg' hB'
            go_wp2_with fail
            all_goals (
              have e : primU (k + 1) = l ++ [n] := by rw [HS2.out]; rfl
              refine ⟨⟨k + 1, g', cap', by omega, ?_, by rw [e]; simp, by rw [e]; exact HI3.out, hB2⟩, ?_⟩
              · rw [show k + 1 + 2 = n + 1 by have := HN.out; omega]; simp
              · have := HN.out
                simp [intOf]; omega)
    · have l1 : ¬ (l.length : Int) < (m : Int) := by omega
      go_wp2_with fail
      go_ret
      refine ⟨_, rfl, ?_, hbl⟩
      obtain ⟨t, ht⟩ := HPR.out
      have hl := congrArg List.length ht
      rw [List.length_append, hK] at hl
      have : t = [] := List.eq_nil_of_length_eq_zero (by omega)
      subst this
      rw [ht, List.append_nil]
      exact HI.out
end Go.Proofs.YtdnjieffbgmagaaDoor

/- Slices of words of 32 bits of a call's own. -/
namespace Go.Proofs.YtdnjieffbgmagaaDoor
open Go.RowKit
set_option maxRecDepth 100000
/-- a slice of words of the call's own that reads as l -/
def OwnW (w : World) (base : Nat) (v : Value) (l : List (BitVec 32)) : Prop := w.ownsRow base 92 1 v l.length (Wd l)
theorem OwnW.ws {w : World} {base : Nat} {v : Value} {l : List (BitVec 32)} (h : OwnW w base v l) (hl : 0 < l.length) : WsAt w v l := by
  obtain ⟨g, cap, rfl, -, hg⟩ := World.ownsRow.form h hl
  refine ⟨g, 0, cap, rfl, hg, fun j hj => ?_⟩
  have := World.ownsRow.cellAt h j (by omega)
  rw [Nat.zero_add, this]
  simp [List.getD, hj, Wd]
theorem OwnW.alloc {w : World} {base : Nat} {v : Value} {l : List (BitVec 32)} (h : OwnW w base v l) (o : Obj) : OwnW (w.alloc o) base v l := World.ownsRow.alloc h o
theorem OwnW.drewN {w : World} {base : Nat} {v : Value} {l : List (BitVec 32)} (h : OwnW w base v l) (n : Nat) : OwnW (w.drewN n) base v l := h
theorem OwnW.on {w w' : World} {base : Nat} {v : Value} {l : List (BitVec 32)} (h : OwnW w base v l) (hb : Below w.heap.size w w') : OwnW w' base v l := by
  refine ⟨h.1, ?_⟩
  rcases h.2 with h2 | ⟨g, cap, cur, e, hg, hc, h3⟩
  · exact Or.inl h2
  · exact Or.inr ⟨g, cap, cur, e, hg, by rw [hb.block g (Array.getElem?_eq_some_iff.1 hc).1]; exact hc, h3⟩
theorem OwnW.empty (w : World) (base : Nat) (hb : base ≤ w.heap.size) : OwnW (w.alloc (.cells #[] 92)) base (.slice (some ⟨w.heap.size, 0, none⟩) 0 0) [] :=
  World.ownsRow_lit w #[] 0 hb (by decide) rfl
theorem infoW : (Tryd.prog.info? 92).map (fun i => (i.zero, i.size, i.bytes)) = some (some (.int .u32 0), 1, 4) := by kernel_rfl
/-- one word put behind a slice of the call's own -/
theorem append_w {ops : Array Oper} {rest : List Oper} {o : Oper} {a : Act} {Q : Exit → Act → World → Prop} {w : World} (hgd : o.guard = none) (s x : Operand)
    (ho : o.op = .call { callee := .builtin .append, args := #[s, x], argTypes := #[47, 47] })
    (base : Nat) (v : Value) (l : List (BitVec 32)) (y : BitVec 32) (B : Nat) (hs : a.eval s = v) (hown : OwnW w base v l) (hx : a.eval x = .slice (some ⟨B, 0, none⟩) 1 1)
    (hc : w.cell? ⟨B, 0, none⟩ = some (.int .u32 (y.toNat : Int))) (hl : l.length ≤ 1000) (hbase : base ≤ w.heap.size)
    (h : ∀ g cap w', OwnW w' base (.slice (some ⟨g, 0, none⟩) (l.length + 1) cap) (l ++ [y]) → w.grownBy w' v.ownBlock → wpList Tryd.prog ops Q rest (a.put o.dst (.slice (some ⟨g, 0, none⟩) (l.length + 1) cap)) w') :
    wpList Tryd.prog ops Q (o :: rest) a w := by
  obtain ⟨i0, hi, hz0, hz1, hz2⟩ := info_parts infoW
  refine wpList_append_own w hgd s x 47 ho base 92 i0 (.int .u32 0) 1 4 Tryd.underlying47 hi hz0 hz1 hz2 rfl (by decide) v l.length (Wd l) hs hown ⟨B, 0, none⟩ 1 1 [.int .u32 (y.toNat : Int)] hx rfl ?_ ?_ (by unfold maxLen; omega) (by omega) hbase ?_
  · intro j u hu
    rcases j with _ | j
    · simp at hu; subst hu; simpa [Addr.add] using hc
    · simp at hu
  · intro u hu; simp at hu; subst hu; rfl
  · intro v' w' ho' hg _
    obtain ⟨g, cap, rfl, -, -⟩ := World.ownsRow.form ho' (by omega)
    exact h g cap w' (by unfold OwnW; simpa [Wd] using ho') hg
theorem OwnW.below {w wr w' : World} {n : Nat} {v : Value} {l : List (BitVec 32)} {o : Obj} (hI : OwnW wr n v l) (hB : Below n w wr) (hn : n ≤ wr.heap.size) (hg : (wr.alloc o).grownBy w' v.ownBlock) : Below n w w' :=
  (hB.alloc hn o).grown hg (by simp; omega) fun k hk => (World.ownsRow.lt hI k hk).1
theorem OwnW.ne {w : World} {base : Nat} {v : Value} {l : List (BitVec 32)} (h : OwnW w base v l) (hl : 0 < l.length) (n : Nat) (hn : n < base) : ∀ b k c, v = .slice (some b) k c → b.block ≠ n := by
  obtain ⟨g, cap, rfl, hb, -⟩ := World.ownsRow.form h hl
  intro b k c e
  cases e
  show g ≠ n
  omega
theorem OwnW.cell {w : World} {base G n cap : Nat} {l : List (BitVec 32)} (h : OwnW w base (.slice (some ⟨G, 0, none⟩) n cap) l) (hn : n = l.length) (j : Nat) (hj : j < l.length) : w.cell? ⟨G, j, none⟩ = some (.int .u32 ((l.getD j 0).toNat : Int)) := by
  subst hn
  have := World.ownsRow.cellAt h j (by omega)
  rw [this]
  simp [List.getD, hj, Wd]
theorem OwnW.frozen {w : World} {base g n cap : Nat} {l : List (BitVec 32)} (h : OwnW w base (.slice (some ⟨g, 0, none⟩) n cap) l) (i : Nat) : w.frozen? ⟨g, i, none⟩ = false := by
  rcases h.2 with ⟨e, -⟩ | ⟨g', cap', cur, e, -, hc, -⟩
  · cases e
  · cases e; exact frozen_of_row _ _ _ _ _ hc
/-- a word stored into a slice of the call's own -/
theorem OwnW.set {w : World} {base g n cap : Nat} {l : List (BitVec 32)} (h : OwnW w base (.slice (some ⟨g, 0, none⟩) n cap) l) (i : Nat) (_hi : i < l.length) (x : BitVec 32) : OwnW (w.setCell ⟨g, i, none⟩ (.int .u32 (x.toNat : Int))) base (.slice (some ⟨g, 0, none⟩) n cap) (l.set i x) := by
  unfold OwnW at *
  rw [List.length_set]
  refine ⟨by simp [Wd], ?_⟩
  rcases h.2 with ⟨e, -⟩ | ⟨g', cap', cur, e, hb, hc, h1, h2, h3, h4⟩
  · cases e
  · cases e
    refine Or.inr ⟨g, cap, cur.setIfInBounds i (.int .u32 (x.toNat : Int)), rfl, hb, heap_setCell_same w g i _ _ _ hc, h1, h2, by simpa using h3, ?_⟩
    rw [Array.toList_setIfInBounds, List.take_set, h4]
    simp [Wd, List.map_set]
end Go.Proofs.YtdnjieffbgmagaaDoor

/- Slices of words of a call's own; the contracts of the reference's ror and word. -/
namespace Go.Proofs.YtdnjieffbgmagaaDoor
open Go.RowKit
set_option maxRecDepth 100000 in
set_option maxHeartbeats 400000 in
theorem rorr_any (x : BitVec 32) (n : Nat) (h0 : 0 < n) (h1 : n < 32) (w : World) :
    Calls Tryd.prog 88 #[.int .u32 (x.toNat : Int), .int .u32 (n : Int)] w fun e w' => e = .returned (.int .u32 ((rr x n).toNat : Int)) ∧ w = w' := by
  obtain ⟨m, hm⟩ : ∃ m, n + m = 32 := ⟨32 - n, by omega⟩
  have w1 : IntKind.u32.wrap (32 - (n : Int)) = (m : Int) := by rw [IntKind.wrap_u32]; omega
  have hm1 : (m : Int) < 32 := by omega
  have hn1 : (n : Int) < 32 := by omega
  have e1 := shl32 x m
  have e2 := shr32 x n
  have e3 := bits_or32 (x >>> n) (x <<< m)
  have er : ((rr x n).toNat : Int) = ((x >>> n ||| x <<< m).toNat : Int) := by
    unfold rr
    rw [show 32 - n = m by omega]
  rw [er]
  clear er
  generalize x <<< m = s at e1 e3 ⊢
  generalize x >>> n = t at e2 e3 ⊢
  generalize t ||| s = r at e3 ⊢
  go_enter Tryd.func88, Tryd.ntmps88
  go_wp2
  go_ret
  exact ⟨rfl, rfl⟩

/-- the contract of ror, said of a literal -/
def RorAt (x r : BitVec 32) (n : Int) : Prop := ∀ w : World, Calls Tryd.prog 88 #[.int .u32 (x.toNat : Int), .int .u32 n] w fun e w' => e = .returned (.int .u32 (r.toNat : Int)) ∧ w = w'
theorem RorAt.q {x r : BitVec 32} {n : Int} (h : RorAt x r n) (w : World) (k : Nat) : Calls Tryd.prog 88 #[.int .u32 (x.toNat : Int), .int .u32 n] (w.drewN k) fun e w'' => e = .returned (.int .u32 (r.toNat : Int)) ∧ ∃ m, w'' = w.drewN m := quiet_left (h _)

theorem word4_sum (a b c d : UInt8) : (a.toNat : Int) * 16777216 + (b.toNat : Int) * 65536 + (c.toNat : Int) * 256 + (d.toNat : Int) = ((word4 a b c d).toNat : Int) := by
  have ha := a.toNat_lt
  have hb := b.toNat_lt
  have hc := c.toNat_lt
  have hd := d.toNat_lt
  unfold word4
  rw [BitVec.toNat_ofNat, Nat.mod_eq_of_lt (by omega)]
  omega

set_option maxRecDepth 100000 in
set_option maxHeartbeats 1000000 in
theorem word_lo (v : Value) (s : ByteArray) (hs : s.size = 64) (t : Nat) (ht : t < 16) (w : World) :
    Calls Tryd.prog 87 #[v, .string s, .int .i64 (t : Int)] w fun e w' => e = .returned (.int .u32 ((wdAt (bl s) t).toNat : Int)) ∧ ∃ n, w' = w.drewN n := by
  have h1 : (t : Int) < 16 := by omega
  have e0 : IntKind.i64.wrap (4 * (t : Int)) = 4 * (t : Int) := IntWalk.i64_in _ (by omega)
  have e1 : IntKind.i64.wrap (4 * (t : Int) + 1) = 4 * (t : Int) + 1 := IntWalk.i64_in _ (by omega)
  have e2 : IntKind.i64.wrap (4 * (t : Int) + 2) = 4 * (t : Int) + 2 := IntWalk.i64_in _ (by omega)
  have e3 : IntKind.i64.wrap (4 * (t : Int) + 3) = 4 * (t : Int) + 3 := IntWalk.i64_in _ (by omega)
  have i0 : ∀ W : World, (Instr.index 9 (.string s) (.int .i64 (4 * (t : Int)))).run Tryd.prog W = .ok (.int .u8 (s[4 * t].toNat : Int)) W := fun W => str_index s _ (4 * t) (by omega) (by omega) W
  have i1 : ∀ W : World, (Instr.index 9 (.string s) (.int .i64 (4 * (t : Int) + 1))).run Tryd.prog W = .ok (.int .u8 (s[4 * t + 1].toNat : Int)) W := fun W => str_index s _ (4 * t + 1) (by omega) (by omega) W
  have i2 : ∀ W : World, (Instr.index 9 (.string s) (.int .i64 (4 * (t : Int) + 2))).run Tryd.prog W = .ok (.int .u8 (s[4 * t + 2].toNat : Int)) W := fun W => str_index s _ (4 * t + 2) (by omega) (by omega) W
  have i3 : ∀ W : World, (Instr.index 9 (.string s) (.int .i64 (4 * (t : Int) + 3))).run Tryd.prog W = .ok (.int .u8 (s[4 * t + 3].toNat : Int)) W := fun W => str_index s _ (4 * t + 3) (by omega) (by omega) W
  have hw : wdAt (bl s) t = word4 s[4 * t] s[4 * t + 1] s[4 * t + 2] s[4 * t + 3] := by
    unfold wdAt
    rw [bl_get s (4 * t) (by omega), bl_get s (4 * t + 1) (by omega), bl_get s (4 * t + 2) (by omega), bl_get s (4 * t + 3) (by omega)]
  rw [hw]
  clear hw
  have hsum := word4_sum s[4 * t] s[4 * t + 1] s[4 * t + 2] s[4 * t + 3]
  have c1 := s[4 * t].toNat_lt
  have c2 := s[4 * t + 1].toNat_lt
  have c3 := s[4 * t + 2].toNat_lt
  have c4 := s[4 * t + 3].toNat_lt
  generalize word4 s[4 * t] s[4 * t + 1] s[4 * t + 2] s[4 * t + 3] = r at hsum ⊢
  generalize s[4 * t] = b0 at *
  generalize s[4 * t + 1] = b1 at *
  generalize s[4 * t + 2] = b2 at *
  generalize s[4 * t + 3] = b3 at *
  go_enter Tryd.func87, Tryd.ntmps87
  go_wp2_with fail
  go_quiet (fail)
  go_wp2_with fail
  go_ret
  exact ⟨rfl, _, rfl⟩

set_option maxRecDepth 100000 in
set_option maxHeartbeats 1000000 in
theorem word_hi (v : Value) (s : ByteArray) (r : List (BitVec 32)) (hr : 16 ≤ r.length) (hr2 : r.length ≤ 64) (w : World) (hv : WsAt w v r) :
    Calls Tryd.prog 87 #[v, .string s, .int .i64 (r.length : Int)] w fun e w' => e = .returned (.int .u32 ((nextW r).toNat : Int)) ∧ ∃ n, w' = w.drewN n := by
  obtain ⟨g, off, cap, rfl, hg, hc⟩ := hv
  obtain ⟨t, ht⟩ : ∃ t, r.length = t := ⟨_, rfl⟩
  rw [ht] at hr hr2 hc ⊢
  have h1 : ¬ (t : Int) < 16 := by omega
  have e2 : IntKind.i64.wrap ((t : Int) - 2) = (t : Int) - 2 := IntWalk.i64_in _ (by omega)
  have n2 : ((t : Int) - 2).toNat = t - 2 := by omega
  have e15 : IntKind.i64.wrap ((t : Int) - 15) = (t : Int) - 15 := IntWalk.i64_in _ (by omega)
  have n15 : ((t : Int) - 15).toNat = t - 15 := by omega
  have e7 : IntKind.i64.wrap ((t : Int) - 7) = (t : Int) - 7 := IntWalk.i64_in _ (by omega)
  have n7 : ((t : Int) - 7).toNat = t - 7 := by omega
  have e16 : IntKind.i64.wrap ((t : Int) - 16) = (t : Int) - 16 := IntWalk.i64_in _ (by omega)
  have n16 : ((t : Int) - 16).toNat = t - 16 := by omega
  have l2 : (0 : Int) ≤ (t : Int) - 2 := by omega
  have m2 : (t : Int) - 2 < (t : Int) := by omega
  have l15 : (0 : Int) ≤ (t : Int) - 15 := by omega
  have m15 : (t : Int) - 15 < (t : Int) := by omega
  have l7 : (0 : Int) ≤ (t : Int) - 7 := by omega
  have m7 : (t : Int) - 7 < (t : Int) := by omega
  have l16 : (0 : Int) ≤ (t : Int) - 16 := by omega
  have m16 : (t : Int) - 16 < (t : Int) := by omega
  have c2 := hc (t - 2) (by omega)
  have c7 := hc (t - 7) (by omega)
  have c15 := hc (t - 15) (by omega)
  have c16 := hc (t - 16) (by omega)
  have hnext : nextW r = near (r.getD (t - 2) 0) + r.getD (t - 7) 0 + far (r.getD (t - 15) 0) + r.getD (t - 16) 0 := by unfold nextW; rw [ht]
  rw [hnext]
  clear hnext ht hc
  obtain ⟨x2, q2⟩ : ∃ x, r.getD (t - 2) 0 = x := ⟨_, rfl⟩
  obtain ⟨x7, q7⟩ : ∃ x, r.getD (t - 7) 0 = x := ⟨_, rfl⟩
  obtain ⟨x15, q15⟩ : ∃ x, r.getD (t - 15) 0 = x := ⟨_, rfl⟩
  obtain ⟨x16, q16⟩ : ∃ x, r.getD (t - 16) 0 = x := ⟨_, rfl⟩
  rw [q2] at c2; rw [q7] at c7; rw [q15] at c15; rw [q16] at c16
  rw [q2, q7, q15, q16]
  clear q2 q7 q15 q16
  have N1 := near_bits x2
  have F1 := far_bits x15
  have A1 : RorAt x2 (rr x2 17) 17 := rorr_any x2 17 (by omega) (by omega)
  have A2 : RorAt x2 (rr x2 19) 19 := rorr_any x2 19 (by omega) (by omega)
  have A3 : RorAt x15 (rr x15 7) 7 := rorr_any x15 7 (by omega) (by omega)
  have A4 : RorAt x15 (rr x15 18) 18 := rorr_any x15 18 (by omega) (by omega)
  generalize near x2 = ne at N1 ⊢
  generalize far x15 = fa at F1 ⊢
  generalize rr x2 17 = r1 at A1 N1
  generalize rr x2 19 = r2 at A2 N1
  generalize rr x15 7 = r3 at A3 F1
  generalize rr x15 18 = r4 at A4 F1
  obtain ⟨p1, hp1⟩ : ∃ x, ne + x7 = x := ⟨_, rfl⟩
  rw [hp1]
  obtain ⟨p2, hp2⟩ : ∃ x, p1 + fa = x := ⟨_, rfl⟩
  rw [hp2]
  obtain ⟨p3, hp3⟩ : ∃ x, p2 + x16 = x := ⟨_, rfl⟩
  rw [hp3]
  have E1 := add_mod32 _ _ _ hp1
  have E2 := add_mod32 _ _ _ hp2
  have E3 := add_mod32 _ _ _ hp3
  clear hp1 hp2 hp3
  go_enter Tryd.func87, Tryd.ntmps87
  go_wp2_with fail
  go_quiet ((go_at_call 88; first | with_reducible exact A1.q _ _ | with_reducible exact A2.q _ _ | with_reducible exact A3.q _ _ | with_reducible exact A4.q _ _))
  go_wp2_with fail
  go_ret
  exact ⟨by first | rfl | exact ret_u32 E3, _, rfl⟩
end Go.Proofs.YtdnjieffbgmagaaDoor
