/- The texts Dprod, Droot, Eprime, one behind the other. -/
import Derived.Test.YtfkfadcfafbmmaaDoorBg6
/- The contract of the reference's product. -/
namespace Go.Proofs.YtfkfadcfafbmmaaDoor
open Go.RowKit
/-- the terms of column i, the first k of them -/
def colS (a b : List Nat) (i : Nat) : Nat → Nat
  | 0 => 0
  | k + 1 => colS a b i k + if k ≤ i ∧ i - k < b.length then a.getD k 0 * b.getD (i - k) 0 else 0
/-- the digits so far, and what is over -/
def prodS (a b : List Nat) : Nat → List Nat × Nat
  | 0 => ([], 0)
  | i + 1 => ((prodS a b i).1 ++ [((prodS a b i).2 + colS a b i a.length) % 65536], ((prodS a b i).2 + colS a b i a.length) / 65536)
def prodL (a b : List Nat) : List Nat := (prodS a b (a.length + b.length)).1
theorem prodS_length (a b : List Nat) (i : Nat) : (prodS a b i).1.length = i := by
  induction i with
  | zero => rfl
  | succ i ih => simp [prodS, ih]
def SmallN (l : List Nat) : Prop := ∀ j, l.getD j 0 < 65536
theorem sq_le {x y : Nat} (h1 : x < 65536) (h2 : y < 65536) : x * y ≤ 4294836225 := by
  have h : x * y ≤ 65535 * 65535 := Nat.mul_le_mul (Nat.le_of_lt_succ h1) (Nat.le_of_lt_succ h2)
  exact h
theorem colS_le (a b : List Nat) (ha : SmallN a) (hb : SmallN b) (i k : Nat) : colS a b i k ≤ k * 4294836225 := by
  induction k with
  | zero => simp [colS]
  | succ k ih =>
    simp only [colS]
    have h1 := ha k
    have h2 := hb (i - k)
    have h3 : a.getD k 0 * b.getD (i - k) 0 ≤ 4294836225 := sq_le h1 h2
    have h4 : (k + 1) * 4294836225 = k * 4294836225 + 4294836225 := Nat.succ_mul _ _
    rw [h4]
    refine Nat.add_le_add ih ?_
    split
    · exact h3
    · exact Nat.zero_le _
theorem prodS_over (a b : List Nat) (ha : SmallN a) (hb : SmallN b) (hl : a.length ≤ 100) (i : Nat) : (prodS a b i).2 ≤ 6553501 := by
  induction i with
  | zero => simp [prodS]
  | succ i ih =>
    simp only [prodS]
    have h := colS_le a b ha hb i a.length
    have h2 : a.length * 4294836225 ≤ 100 * 4294836225 := Nat.mul_le_mul_right _ hl
    omega
theorem prodS_small (a b : List Nat) (i : Nat) : SmallN (prodS a b i).1 := by
  induction i with
  | zero => intro j; simp [prodS]
  | succ i ih =>
    intro j
    simp only [prodS]
    rw [List.getD_eq_getElem?_getD, List.getElem?_append]
    have := ih j
    rw [List.getD_eq_getElem?_getD] at this
    split
    · exact this
    · rcases j - (prodS a b i).1.length with _ | q
      · simp; omega
      · simp
theorem prodL_small (a b : List Nat) : SmallN (prodL a b) := prodS_small a b _
theorem prodL_length (a b : List Nat) : (prodL a b).length = a.length + b.length := prodS_length a b _

def ProdOuter (w : World) (a b : List Nat) (v o i : Value) (wr : World) : Prop :=
  ∃ k g cap : Nat, k ≤ a.length + b.length ∧ i = .int .i64 (k : Int) ∧ v = .slice (some ⟨g, 0, none⟩) k cap ∧ OwnI wr w.heap.size v (prodS a b k).1 ∧ o = .int .i64 (((prodS a b k).2 : Nat) : Int) ∧ Below w.heap.size w wr
def ProdInner (w0 : World) (a b : List Nat) (i ov : Nat) (n j : Value) (wr : World) : Prop :=
  ∃ k : Nat, k ≤ a.length ∧ j = .int .i64 (k : Int) ∧ n = .int .i64 ((ov + colS a b i k : Nat) : Int) ∧ Bel w0 wr

set_option maxRecDepth 100000 in
set_option maxHeartbeats 4000000 in
theorem product_any (va vb : Value) (a b : List Nat) (ha : SmallN a) (hb : SmallN b) (hla : a.length ≤ 100) (hlb : b.length ≤ 100) (w : World) (h0 : IntsAt w va a) (h1 : IntsAt w vb b) :
    Calls Tryd.prog 41 #[va, vb] w fun e w' => ∃ v, e = .returned v ∧ OwnI w' w.heap.size v (prodL a b) ∧ Below w.heap.size w w' := by
  obtain ⟨ga, ca, rfl, hga, hca⟩ := h0
  obtain ⟨gb, cb, rfl, hgb, hcb⟩ := h1
  have HA := Lib.hid hca; have HB := Lib.hid hcb
  clear hca hcb
  have za : (0 : Int) ≤ (a.length : Int) := by omega
  go_enter Tryd.func41, Tryd.ntmps41
  go_wp2_with fail
  go_loopw [5, 6, 7] (ProdOuter w a b) (fun _ _ i _ => a.length + b.length - (intOf i).toNat)
  case atStart => exact ⟨0, _, _, by omega, rfl, rfl, OwnI.empty w _ (Nat.le_refl _), rfl, by go_grown⟩
  case round =>
    obtain ⟨k, g, cap, hk, rfl, rfl, hI, rfl, hbl⟩ := hrel
    have hov := prodS_over a b ha hb hla k
    obtain ⟨ov, hovv⟩ : ∃ o, (prodS a b k).2 = o := ⟨_, rfl⟩
    rw [hovv] at hov
    have HI := Lib.hid hI; have HO := Lib.hid hovv
    rw [hovv]
    clear hI hovv
    have hsz := hbl.size
    by_cases hlt : k < a.length + b.length
    · have l1 : (k : Int) < (a.length : Int) + (b.length : Int) := by omega
      go_wp2_with fail
      obtain ⟨wo, rfl⟩ : ∃ wo : World, wo = wr := ⟨_, rfl⟩
      go_loopw [8, 23] (ProdInner wo a b k ov) (fun _ j _ => a.length - (intOf j).toNat)
      case atStart => exact ⟨0, by omega, rfl, rfl, Bel.refl _⟩
      case round =>
        obtain ⟨j, hj, rfl, rfl, hbel⟩ := hrel
        have hcol := colS_le a b ha hb k j
        have hcol2 : j * 4294836225 ≤ 100 * 4294836225 := Nat.mul_le_mul_right _ (by omega)
        obtain ⟨s, hs⟩ : ∃ s, ov + colS a b k j = s := ⟨_, rfl⟩
        have hs2 : s ≤ 429490176001 := by omega
        rw [hs]
        have HS := Lib.hid hs
        clear hs hcol hcol2
        by_cases hjl : j < a.length
        · have l2 : (j : Int) < (a.length : Int) := by omega
          by_cases hin : j ≤ k ∧ k - j < b.length
          · have m1 : (0 : Int) ≤ (k : Int) - (j : Int) := by omega
            have m2 : (k : Int) - (j : Int) < (b.length : Int) := by omega
            have m3 : ((k : Int) - (j : Int)).toNat = k - j := by omega
            have m4 : IntKind.i64.wrap ((k : Int) - (j : Int)) = (k : Int) - (j : Int) := IntWalk.i64_in _ (by omega)
            have q1 : decide ((0 : Int) ≤ (k : Int) - (j : Int)) = true := by simpa using m1
            have c1 : wr.cell? ⟨ga, j, none⟩ = some (.int .i64 ((a.getD j 0 : Nat) : Int)) := by
              rw [hbel.b.cell (p := ⟨ga, j, none⟩) (by show ga < _; omega), hbl.cell (p := ⟨ga, j, none⟩) hga]; exact HA.out j hjl
            have c2 : wr.cell? ⟨gb, k - j, none⟩ = some (.int .i64 ((b.getD (k - j) 0 : Nat) : Int)) := by
              rw [hbel.b.cell (p := ⟨gb, k - j, none⟩) (by show gb < _; omega), hbl.cell (p := ⟨gb, k - j, none⟩) hgb]; exact HB.out (k - j) hin.2
            have x1 := ha j
            have x2 := hb (k - j)
            obtain ⟨x, hx⟩ : ∃ x, a.getD j 0 = x := ⟨_, rfl⟩
            obtain ⟨y, hy⟩ : ∃ y, b.getD (k - j) 0 = y := ⟨_, rfl⟩
            rw [hx] at c1 x1
            rw [hy] at c2 x2
            have hxy : x * y ≤ 4294836225 := sq_le x1 x2
            obtain ⟨p, hp⟩ : ∃ p, x * y = p := ⟨_, rfl⟩
            rw [hp] at hxy
            have hp' : (x : Int) * (y : Int) = (p : Int) := by rw [← hp]; norm_cast
            have w1 : IntKind.i64.wrap ((x : Int) * (y : Int)) = (p : Int) := by rw [hp']; exact IntWalk.i64_in _ (by omega)
            have w2 : IntKind.i64.wrap ((s : Int) + (p : Int)) = ((s + p : Nat) : Int) := by rw [← Int.natCast_add]; exact IntWalk.i64_in _ (by omega)
            have HX := Lib.hid hx; have HY := Lib.hid hy; have HP := Lib.hid hp; have HIN := Lib.hid hin
            clear hx hy hp hin hp'
            go_wp2_with fail
            go_quiet (fail)
            go_wp2_with fail
            all_goals (
              refine ⟨⟨j + 1, by omega, by simp, ?_, ⟨below_drewN hbel.b _⟩⟩, by simp [intOf]; omega⟩
              have e : ov + colS a b k (j + 1) = s + p := by
                rw [colS, HX.out, HY.out, HP.out, if_pos HIN.out, ← Nat.add_assoc, HS.out]
              rw [e]
              simp)
          · by_cases hjk : j ≤ k
            · have m1 : (0 : Int) ≤ (k : Int) - (j : Int) := by omega
              have m2 : ¬ (k : Int) - (j : Int) < (b.length : Int) := by omega
              have m4 : IntKind.i64.wrap ((k : Int) - (j : Int)) = (k : Int) - (j : Int) := IntWalk.i64_in _ (by omega)
              have q1 : decide ((0 : Int) ≤ (k : Int) - (j : Int)) = true := by simpa using m1
              go_wp2_with fail
              all_goals (
                refine ⟨⟨j + 1, by omega, by simp, ?_, by first | exact hbel | exact ⟨below_drewN hbel.b _⟩⟩, by simp [intOf]; omega⟩
                have e : ov + colS a b k (j + 1) = s := by
                  rw [colS, if_neg hin, Nat.add_zero, HS.out]
                rw [e])
            · have m1 : ¬ (0 : Int) ≤ (k : Int) - (j : Int) := by omega
              have m4 : IntKind.i64.wrap ((k : Int) - (j : Int)) = (k : Int) - (j : Int) := IntWalk.i64_in _ (by omega)
              have q1 : decide ((0 : Int) ≤ (k : Int) - (j : Int)) = false := by simpa using m1
              go_wp2_with fail
              all_goals (
                refine ⟨⟨j + 1, by omega, by simp, ?_, by first | exact hbel | exact ⟨below_drewN hbel.b _⟩⟩, by simp [intOf]; omega⟩
                have e : ov + colS a b k (j + 1) = s := by
                  rw [colS, if_neg hin, Nat.add_zero, HS.out]
                rw [e])
        · have ej : j = a.length := by omega
          have l2 : ¬ (j : Int) < (a.length : Int) := by omega
          have hI' : OwnI wr w.heap.size (.slice (some ⟨g, 0, none⟩) k cap) (prodS a b k).1 := HI.out.on hbel.b
          have hB' : Below w.heap.size w wr := hbl.trans (hbel.b.mono hsz)
          have hsr := hB'.size
          have hlen : (prodS a b k).1.length = k := prodS_length a b k
          have d1 : (s : Int) % 65536 = ((s % 65536 : Nat) : Int) := by omega
          have d2 : (s : Int) / 65536 = ((s / 65536 : Nat) : Int) := by omega
          obtain ⟨y, hy⟩ : ∃ y, s % 65536 = y := ⟨_, rfl⟩
          obtain ⟨z, hz⟩ : ∃ z, s / 65536 = z := ⟨_, rfl⟩
          rw [hy] at d1; rw [hz] at d2
          have HY := Lib.hid hy; have HZ := Lib.hid hz; have HI2 := Lib.hid hI'; have HLEN := Lib.hid hlen
          clear hy hz hI' hlen
          go_wp2_with (at_builtin; refine append_i rfl _ _ rfl w.heap.size _ (prodS a b k).1 y wr.heap.size rfl ?c0 ?c1 ?c2 ?c3 ?c4 ?_)
          case c0 => exact OwnI.alloc HI2.out _
          case c3 => rw [HLEN.out]; omega
          case c4 => first | omega | (simp; omega)
          intro g' cap' w' hI3 hg'
          have hB2 := HI2.out.below hB' hsr hg'
          rw [HLEN.out] at hI3 ⊢
          have HI3 := Lib.hid hI3
          clear hI3 hg' hB'
          go_wp2_with fail
          all_goals (
            have e1 : (prodS a b (k + 1)).1 = (prodS a b k).1 ++ [y] := by
              rw [prodS, HO.out, ← ej, HS.out, HY.out]
            have e2 : (prodS a b (k + 1)).2 = z := by
              rw [prodS, HO.out, ← ej, HS.out, HZ.out]
            refine ⟨⟨k + 1, g', cap', by omega, by simp, rfl, ?_, by rw [e2], hB2⟩, by simp [intOf]; omega⟩
            rw [e1]
            exact HI3.out)
    · have l1 : ¬ (k : Int) < (a.length : Int) + (b.length : Int) := by omega
      have ek : k = a.length + b.length := by omega
      go_wp2_with fail
      go_ret
      refine ⟨_, rfl, ?_, hbl⟩
      rw [prodL, ← ek]
      exact HI.out
end Go.Proofs.YtfkfadcfafbmmaaDoor

/- The contracts of the reference's most and root. -/
namespace Go.Proofs.YtfkfadcfafbmmaaDoor
open Go.RowKit
def wantS (p q i : Nat) : Nat := if i = q then p else 0
def mostS (a : List Nat) (p q : Nat) : Nat → Bool
  | 0 => true
  | i + 1 => if a.getD i 0 = wantS p q i then mostS a p q i else decide (a.getD i 0 < wantS p q i)
def mostL (a : List Nat) (p q : Nat) : Bool := mostS a p q a.length

def MostRel (w : World) (a : List Nat) (p q : Nat) (i : Value) (wr : World) : Prop :=
  ∃ k : Nat, k ≤ a.length ∧ i = .int .i64 ((k : Int) - 1) ∧ mostL a p q = mostS a p q k ∧ Bel w wr

set_option maxRecDepth 100000 in
set_option maxHeartbeats 4000000 in
theorem most_any (va : Value) (a : List Nat) (hl : a.length ≤ 1000) (p q : Nat) (hp : p < 65536) (hq : q < 1000) (w : World) (h0 : IntsAt w va a) :
    Calls Tryd.prog 40 #[va, .int .i64 (p : Int), .int .i64 (q : Int)] w fun e w' => e = .returned (.bool (mostL a p q)) ∧ Bel w w' := by
  obtain ⟨ga, ca, rfl, hga, hca⟩ := h0
  have HA := Lib.hid hca
  clear hca
  have z1 : IntKind.i64.wrap ((a.length : Int) - 1) = (a.length : Int) - 1 := IntWalk.i64_in _ (by omega)
  go_enter Tryd.func40, Tryd.ntmps40
  go_wp2_with fail
  go_loopw [7] (MostRel w a p q) (fun i _ => (intOf i + 1).toNat)
  case atStart => exact ⟨a.length, Nat.le_refl _, rfl, rfl, by first | exact Bel.refl _ | exact ⟨by go_grown⟩⟩
  case round =>
    obtain ⟨k, hk, rfl, he, hbel⟩ := hrel
    have HE := Lib.hid he
    clear he
    rcases k with _ | k
    · have n1 : ¬ (0 : Int) ≤ ((0 : Nat) : Int) - 1 := by omega
      go_wp2_with fail
      go_ret
      refine ⟨?_, hbel⟩
      rw [HE.out]; rfl
    · have n0 : (((k + 1 : Nat) : Int) - 1) = (k : Int) := by omega
      rw [n0]
      have n1 : (0 : Int) ≤ (k : Int) := by omega
      have n2 : (k : Int) < (a.length : Int) := by omega
      have n3 : IntKind.i64.wrap ((k : Int) - 1) = (k : Int) - 1 := IntWalk.i64_in _ (by omega)
      have c1 : wr.cell? ⟨ga, k, none⟩ = some (.int .i64 ((a.getD k 0 : Nat) : Int)) := by
        rw [hbel.b.cell (p := ⟨ga, k, none⟩) (by show ga < _; omega)]; exact HA.out k (by omega)
      have hS : mostS a p q (k + 1) = if a.getD k 0 = wantS p q k then mostS a p q k else decide (a.getD k 0 < wantS p q k) := rfl
      obtain ⟨x, hx⟩ : ∃ x, a.getD k 0 = x := ⟨_, rfl⟩
      rw [hx] at c1 hS
      have HS := Lib.hid hS
      clear hS
      by_cases hkq : k = q
      · subst hkq
        have hw : wantS p k k = p := if_pos rfl
        by_cases hxp : x = p
        · subst hxp
          go_wp2_with fail
          all_goals (
            refine ⟨⟨k, by omega, by first | rfl | simp, ?_, by first | exact hbel | exact ⟨below_drewN hbel.b _⟩⟩, by first | (simp [intOf]; done) | (simp [intOf]; omega)⟩
            rw [HE.out, HS.out, hw, if_pos rfl])
        · have n4 : ¬ (x : Int) = (p : Int) := by omega
          go_wp2_with fail
          go_ret
          refine ⟨?_, by first | exact hbel | exact ⟨below_drewN hbel.b _⟩⟩
          rw [HE.out, HS.out, hw, if_neg hxp]
          simp
      · have n5 : ¬ (k : Int) = (q : Int) := by omega
        have hw : wantS p q k = 0 := if_neg hkq
        by_cases hxp : x = 0
        · subst hxp
          go_wp2_with fail
          all_goals (
            refine ⟨⟨k, by omega, by first | rfl | simp, ?_, by first | exact hbel | exact ⟨below_drewN hbel.b _⟩⟩, by first | (simp [intOf]; done) | (simp [intOf]; omega)⟩
            rw [HE.out, HS.out, hw, if_pos rfl])
        · have n4 : ¬ (x : Int) = 0 := by omega
          go_wp2_with fail
          go_ret
          refine ⟨?_, by first | exact hbel | exact ⟨below_drewN hbel.b _⟩⟩
          rw [HE.out, HS.out, hw, if_neg hxp]
          simp

def digLD (n : Nat) : List Nat := [n % 65536, n / 65536 % 65536, n / 4294967296]
theorem digL_small {n : Nat} (h : n < 281474976710656) : SmallN (digLD n) := by
  intro j
  rcases j with _ | _ | _ | j
  · simp [digLD]; omega
  · simp [digLD]; omega
  · simp [digLD]; omega
  · simp [digLD]
def tooS (p : Nat) (cube : Bool) (y : Nat) : Bool :=
  if cube then mostL (prodL (prodL (digLD y) (digLD y)) (digLD y)) p 6 else mostL (prodL (digLD y) (digLD y)) p 4
def rootS (p : Nat) (cube : Bool) : Nat → Nat → Nat
  | 0, out => out
  | k + 1, out => rootS p cube k (if tooS p cube (out + 2 ^ k) then out + 2 ^ k else out)
def rootL (p : Nat) (cube : Bool) : Nat := rootS p cube 36 0 % 4294967296
def bitK : Nat → Nat
  | 0 => 0
  | k + 1 => 2 ^ k
theorem bitK_half (k : Nat) : bitK (k + 1) / 2 = bitK k := by
  rcases k with _ | k
  · rfl
  · show 2 ^ (k + 1) / 2 = 2 ^ k
    rw [Nat.pow_succ]; omega

def RootRel (w : World) (p : Nat) (cube : Bool) (o b : Value) (wr : World) : Prop :=
  ∃ k out : Nat, k ≤ 36 ∧ out + 2 ^ k ≤ 68719476736 ∧ o = .int .i64 (out : Int) ∧ b = .int .i64 (bitK k : Int) ∧ rootS p cube 36 0 = rootS p cube k out ∧ Bel w wr
def kOf (b : Value) : Nat := if intOf b = 0 then 0 else (intOf b).toNat.log2 + 1
theorem kOf_bitK (k : Nat) : kOf (.int .i64 (bitK k : Int)) = k := by
  rcases k with _ | k
  · rfl
  · have h : bitK (k + 1) = 2 ^ k := rfl
    have hp : 0 < 2 ^ k := Nat.two_pow_pos k
    simp only [kOf, intOf, h]
    rw [if_neg (by omega), Int.toNat_natCast, Nat.log2_two_pow]

set_option maxRecDepth 100000 in
set_option maxHeartbeats 4000000 in
theorem root_any (p : Nat) (hp : p < 65536) (cube : Bool) (w : World) :
    Calls Tryd.prog 34 #[.int .i64 (p : Int), .bool cube] w fun e w' => e = .returned (.int .u32 (rootL p cube : Int)) ∧ Bel w w' := by
  go_enter Tryd.func34, Tryd.ntmps34
  go_wp2_with fail
  go_loopw [5, 6] (RootRel w p cube) (fun _ b _ => kOf b)
  case atStart => exact ⟨36, 0, Nat.le_refl _, by omega, rfl, rfl, rfl, by first | exact Bel.refl _ | exact ⟨by go_grown⟩⟩
  case round =>
    obtain ⟨k, out, hk, ho, rfl, rfl, he, hbel⟩ := hrel
    have HE := Lib.hid he
    clear he
    rcases k with _ | k
    · have b0 : ((bitK 0 : Nat) : Int) = 0 := rfl
      rw [b0]
      go_wp2_with fail
      go_ret
      refine ⟨?_, hbel⟩
      rw [rootL, HE.out]
      have u1 : IntKind.u32.wrap ((out : Int) % 4294967296) = ((out % 4294967296 : Nat) : Int) := IntWalk.u32_in _ (by omega)
      rw [rootS]
      first | rw [u1] | simp
    · have _ := k
      have hbk := bitK_half k
      have hb1 : bitK (k + 1) = 2 ^ k := rfl
      have hpos : 0 < 2 ^ k := Nat.two_pow_pos k
      rw [Nat.pow_succ] at ho
      have hE : rootS p cube (k + 1) out = rootS p cube k (if tooS p cube (out + 2 ^ k) then out + 2 ^ k else out) := rfl
      rw [hb1] at hbk ⊢
      obtain ⟨b, hb⟩ : ∃ b, 2 ^ k = b := ⟨_, rfl⟩
      obtain ⟨b', hb'⟩ : ∃ b', bitK k = b' := ⟨_, rfl⟩
      rw [hb] at ho hpos hE hbk ⊢
      rw [hb'] at hbk
      obtain ⟨y, hy⟩ : ∃ y, out + b = y := ⟨_, rfl⟩
      rw [hy] at hE
      have hy2 : y < 281474976710656 := by omega
      have w1 : IntKind.i64.wrap ((out : Int) + (b : Int)) = (y : Int) := by
        rw [show (out : Int) + (b : Int) = (y : Int) by omega]; exact IntWalk.i64_in _ (by omega)
      have g1 : (0 : Int) < (b : Int) := by omega
      have HB := Lib.hid hb; have HB' := Lib.hid hb'; have HH := Lib.hid hE
      clear hb hb' hE hb1
      have hsm := digL_small hy2
      have hl3 : (digLD y).length = 3 := rfl
      have hPm := prodL_small (digLD y) (digLD y)
      have hPl := prodL_length (digLD y) (digLD y)
      have hQl := prodL_length (prodL (digLD y) (digLD y)) (digLD y)
      rw [hl3] at hPl hQl
      rw [hPl] at hQl
      go_upto_region 6 with (go_at_call 39; refine (digits_any y hy2 _).mono ?_; rintro e w1 ⟨vx, rfl, hX, hbX⟩)
      have hX' : IntsAt w1 vx (digLD y) := hX
      have HXX := Lib.hid hX'
      have hbel1 : Bel w w1 := hbel.on (by first | exact hbX | exact below_drewN hbX _)
      clear hX hX' hbX
      go_upto_region 7 with (first | (go_at_call 41; refine (product_any _ _ (digLD y) (digLD y) hsm hsm (by rw [hl3]; omega) (by rw [hl3]; omega) _ HXX.out HXX.out).mono ?_; rintro e w2 ⟨v2, rfl, h2, hb2⟩; have h2' := Lib.hid (OwnI.at h2 (by omega)); clear h2) | (go_at_call 40; refine (most_any _ _ (by omega) p 4 hp (by omega) _ h2'.out).mono ?_; rintro e w3 ⟨rfl, hb3⟩))
      have hbel3 : Bel w w3 := (hbel1.on hb2).on hb3.b
      have HX3 := Lib.hid (HXX.out.on (hb2.trans (hb3.b.mono hb2.size)))
      clear h2' hb2 hb3 hbel1 HXX
      have tI : tooS p cube y = if cube then mostL (prodL (prodL (digLD y) (digLD y)) (digLD y)) p 6 else mostL (prodL (digLD y) (digLD y)) p 4 := rfl
      have HT := Lib.hid tI
      clear tI
      have hend : ∀ (t : Bool), tooS p cube y = t → rootS p cube 36 0 = rootS p cube k (if t = true then y else out) := by
        intro t ht
        rw [HE.out, HH.out, ht]
      have HEND := Lib.hid hend
      clear hend
      cases cube with
      | false =>
        have ht := HT.out
        rw [if_neg (by decide)] at ht
        obtain ⟨t, htt⟩ : ∃ t, mostL (prodL (digLD y) (digLD y)) p 4 = t := ⟨_, rfl⟩
        rw [htt] at ht ⊢
        have e := HEND.out t ht
        have HE2 := Lib.hid e
        clear e ht htt HEND HT
        cases t
        · go_wp2_with fail
          have eb : (b : Int) / 2 = (b' : Int) := by omega
          rw [eb]
          refine ⟨⟨k, out, by omega, by rw [HB.out]; omega, rfl, by rw [HB'.out], HE2.out, hbel3⟩, ?_⟩
          have e1 : kOf (Value.int .i64 (b' : Int)) = k := by rw [← HB'.out]; exact kOf_bitK k
          have e2 : kOf (Value.int .i64 (b : Int)) = k + 1 := by rw [← HB.out]; exact kOf_bitK (k + 1)
          simp [e1, e2]
        · go_wp2_with fail
          have eb : (b : Int) / 2 = (b' : Int) := by omega
          rw [eb]
          refine ⟨⟨k, y, by omega, by rw [HB.out]; omega, rfl, by rw [HB'.out], HE2.out, hbel3⟩, ?_⟩
          have e1 : kOf (Value.int .i64 (b' : Int)) = k := by rw [← HB'.out]; exact kOf_bitK k
          have e2 : kOf (Value.int .i64 (b : Int)) = k + 1 := by rw [← HB.out]; exact kOf_bitK (k + 1)
          simp [e1, e2]
      | true =>
        have ht := HT.out
        rw [if_pos rfl] at ht
        clear HT
        go_upto_region 8 with fail
        go_upto_region 9 with (first | (go_at_call_of 40 v5; refine (most_any _ _ (by omega) p 6 hp (by omega) _ h5'.out).mono ?_; rintro e w6 ⟨rfl, hb6⟩) | (go_at_call_of 41 v4; refine (product_any _ _ (prodL (digLD y) (digLD y)) (digLD y) hPm hsm (by omega) (by rw [hl3]; omega) _ h4'.out HX4.out).mono ?_; rintro e w5 ⟨v5, rfl, h5, hb5⟩; have h5' := Lib.hid (OwnI.at h5 (by omega)); clear h5) | (go_at_call 41; refine (product_any _ _ (digLD y) (digLD y) hsm hsm (by rw [hl3]; omega) (by rw [hl3]; omega) _ HX3.out HX3.out).mono ?_; rintro e w4 ⟨v4, rfl, h4, hb4⟩; have h4' := Lib.hid (OwnI.at h4 (by omega)); clear h4; have HX4 := Lib.hid (HX3.out.on hb4)))
        have hbel6 : Bel w w6 := ((hbel3.on hb4).on hb5).on hb6.b
        obtain ⟨t, htt⟩ : ∃ t, mostL (prodL (prodL (digLD y) (digLD y)) (digLD y)) p 6 = t := ⟨_, rfl⟩
        rw [htt] at ht ⊢
        have e := HEND.out t ht
        have HE2 := Lib.hid e
        clear e ht htt HEND hb4 hb5 hb6 hbel3 HX3 HX4 h4' h5'
        cases t
        · go_wp2_with fail
          have eb : (b : Int) / 2 = (b' : Int) := by omega
          rw [eb]
          refine ⟨⟨k, out, by omega, by rw [HB.out]; omega, rfl, by rw [HB'.out], HE2.out, hbel6⟩, ?_⟩
          have e1 : kOf (Value.int .i64 (b' : Int)) = k := by rw [← HB'.out]; exact kOf_bitK k
          have e2 : kOf (Value.int .i64 (b : Int)) = k + 1 := by rw [← HB.out]; exact kOf_bitK (k + 1)
          simp [e1, e2]
        · go_wp2_with fail
          have eb : (b : Int) / 2 = (b' : Int) := by omega
          rw [eb]
          refine ⟨⟨k, y, by omega, by rw [HB.out]; omega, rfl, by rw [HB'.out], HE2.out, hbel6⟩, ?_⟩
          have e1 : kOf (Value.int .i64 (b' : Int)) = k := by rw [← HB'.out]; exact kOf_bitK k
          have e2 : kOf (Value.int .i64 (b : Int)) = k + 1 := by rw [← HB.out]; exact kOf_bitK (k + 1)
          simp [e1, e2]
end Go.Proofs.YtfkfadcfafbmmaaDoor

/- The contract of the reference's primes: the first so many prime numbers. -/
namespace Go.Proofs.YtfkfadcfafbmmaaDoor
open Go.RowKit
/-- does none of the first j numbers of the list divide n? -/
def noneS (l : List Nat) (n : Nat) : Nat → Bool
  | 0 => true
  | j + 1 => noneS l n j && decide (n % l.getD j 0 ≠ 0)
/-- the prime numbers among 2 to k + 1 -/
def primU : Nat → List Nat
  | 0 => []
  | k + 1 => if noneS (primU k) (k + 2) (primU k).length then primU k ++ [k + 2] else primU k
theorem primU_le (k : Nat) : (primU k).length ≤ k := by
  induction k with
  | zero => simp [primU]
  | succ k ih =>
    rw [primU]
    split
    · simp; omega
    · omega
theorem primU_mem (k : Nat) : ∀ x ∈ primU k, 2 ≤ x ∧ x ≤ k + 1 := by
  induction k with
  | zero => simp [primU]
  | succ k ih =>
    rw [primU]
    intro x hx
    split at hx
    · rcases List.mem_append.1 hx with h | h
      · have := ih x h; omega
      · have : x = k + 2 := by simpa using h
        omega
    · have := ih x hx; omega
theorem primU_get (k j : Nat) (hj : j < (primU k).length) : 2 ≤ (primU k).getD j 0 ∧ (primU k).getD j 0 ≤ k + 1 := by
  have : (primU k).getD j 0 = (primU k)[j] := by simp [List.getD, hj]
  rw [this]
  exact primU_mem k _ (List.getElem_mem hj)
theorem primU_pre (k K : Nat) (h : k ≤ K) : ∃ t, primU K = primU k ++ t := by
  induction h with
  | refl => exact ⟨[], by simp⟩
  | @step m _ ih =>
    obtain ⟨t, ht⟩ := ih
    have e : primU (m + 1) = if noneS (primU m) (m + 2) (primU m).length then primU m ++ [m + 2] else primU m := rfl
    rw [e]
    split
    · exact ⟨t ++ [m + 2], by rw [ht]; simp⟩
    · exact ⟨t, ht⟩

def PrimOuter (w : World) (K : Nat) (v n : Value) (wr : World) : Prop :=
  ∃ k g cap : Nat, k ≤ K ∧ n = .int .i64 ((k + 2 : Nat) : Int) ∧ v = .slice (some ⟨g, 0, none⟩) (primU k).length cap ∧ OwnI wr w.heap.size v (primU k) ∧ Below w.heap.size w wr
def PrimInner (w0 : World) (l : List Nat) (n : Nat) (s i : Value) (wr : World) : Prop :=
  ∃ j : Nat, j ≤ l.length ∧ i = .int .i64 (j : Int) ∧ s = .bool (noneS l n j) ∧ Bel w0 wr

set_option maxRecDepth 100000 in
set_option maxHeartbeats 4000000 in
theorem primes_any (m K : Nat) (hm : m ≤ 1000) (hK : (primU K).length = m) (hK2 : K ≤ 1000) (w : World) :
    Calls Tryd.prog 33 #[.int .i64 (m : Int)] w fun e w' => ∃ v, e = .returned v ∧ OwnI w' w.heap.size v (primU K) ∧ Below w.heap.size w w' := by
  go_enter Tryd.func33, Tryd.ntmps33
  go_wp2_with fail
  go_loopw [3, 4] (PrimOuter w K) (fun _ n _ => K + 2 - (intOf n).toNat)
  case atStart => exact ⟨0, _, _, by omega, rfl, rfl, OwnI.empty w _ (Nat.le_refl _), by go_grown⟩
  case round =>
    obtain ⟨k, g, cap, hk, rfl, rfl, hI, hbl⟩ := hrel
    have hsz := hbl.size
    have hmem := primU_get k
    have hle := primU_le k
    have hpre := primU_pre k K hk
    have hstep : primU (k + 1) = if noneS (primU k) (k + 2) (primU k).length then primU k ++ [k + 2] else primU k := rfl
    have HS := Lib.hid hstep; have HPR := Lib.hid hpre; have HM := Lib.hid hmem
    clear hstep hpre hmem
    obtain ⟨l, hl⟩ : ∃ l, primU k = l := ⟨_, rfl⟩
    rw [hl] at hI hle HS HPR HM ⊢
    have HL := Lib.hid hl
    clear hl
    have hd := hI.at
    have HI := Lib.hid hI
    clear hI
    by_cases hlt : l.length < m
    · have l1 : (l.length : Int) < (m : Int) := by omega
      have hkK : k < K := by
        rcases Nat.lt_or_ge k K with h | h
        · exact h
        · exfalso
          obtain rfl : k = K := by omega
          rw [HL.out] at hK
          omega
      obtain ⟨n, hn⟩ : ∃ n, k + 2 = n := ⟨_, rfl⟩
      have hn2 : n ≤ 1001 := by omega
      have w1 : IntKind.i64.wrap ((n : Int) + 1) = ((n + 1 : Nat) : Int) := by rw [← Int.natCast_one, ← Int.natCast_add]; exact IntWalk.i64_in _ (by omega)
      rw [hn] at HS ⊢
      have HN := Lib.hid hn
      have HA : Hid (0 < l.length → IntsAt wr (.slice (some ⟨g, 0, none⟩) l.length cap) l) := hd
      clear hd hn
      go_wp2_with fail
      obtain ⟨wo, rfl⟩ : ∃ wo : World, wo = wr := ⟨_, rfl⟩
      go_loopw [5, 17] (PrimInner wo l n) (fun _ j _ => l.length - (intOf j).toNat)
      case atStart => exact ⟨0, by omega, rfl, rfl, Bel.refl _⟩
      case round =>
        obtain ⟨j, hj, rfl, rfl, hbel⟩ := hrel
        by_cases hjl : j < l.length
        · have l2 : (j : Int) < (l.length : Int) := by omega
          obtain ⟨g', c', e', hg', hc'⟩ := HA.out (by omega)
          obtain ⟨rfl, rfl⟩ : g = g' ∧ cap = c' := by simpa using e'
          have c1 : wr.cell? ⟨g, j, none⟩ = some (.int .i64 ((l.getD j 0 : Nat) : Int)) := by
            rw [hbel.b.cell (p := ⟨g, j, none⟩) hg']; exact hc' j hjl
          have hmj := HM.out j (by omega)
          have hst : noneS l n (j + 1) = (noneS l n j && decide (n % l.getD j 0 ≠ 0)) := rfl
          obtain ⟨p, hp⟩ : ∃ p, l.getD j 0 = p := ⟨_, rfl⟩
          rw [hp] at c1 hmj hst
          have hp0 : ¬ (p : Int) = 0 := by omega
          have m1 : (n : Int).tmod (p : Int) = ((n % p : Nat) : Int) := by
            rw [Int.natCast_emod, Int.tmod_eq_emod_of_nonneg (by omega)]
          have m2 : IntKind.i64.wrap ((n % p : Nat) : Int) = ((n % p : Nat) : Int) := IntWalk.i64_in _ (by have := Nat.mod_le n p; omega)
          obtain ⟨q, hq⟩ : ∃ q, n % p = q := ⟨_, rfl⟩
          rw [hq] at hst m1 m2
          have HST := Lib.hid hst
          clear hst hc' e'
          obtain ⟨t, ht⟩ : ∃ t, noneS l n j = t := ⟨_, rfl⟩
          rw [ht] at HST ⊢
          clear ht
          cases t
          · go_wp2_with fail
            all_goals (
              refine ⟨⟨j + 1, by omega, by simp, by rw [HST.out]; rfl, hbel⟩, by simp [intOf]; omega⟩)
          · go_wp2_with fail
            all_goals (
              refine ⟨⟨j + 1, by omega, by simp, ?_, hbel⟩, by simp [intOf]; omega⟩
              rw [HST.out]
              by_cases hq0 : q = 0
              · subst hq0; rfl
              · have hq1 : ¬ (q : Int) = 0 := by omega
                simp [hq0])
        · have ej : j = l.length := by omega
          have l2 : ¬ (j : Int) < (l.length : Int) := by omega
          have hI' := HI.out.on hbel.b
          have hB' : Below w.heap.size w wr := hbl.trans (hbel.b.mono hsz)
          have hsr := hB'.size
          have HI2 := Lib.hid hI'
          clear hI'
          obtain ⟨t, ht⟩ : ∃ t, noneS l n l.length = t := ⟨_, rfl⟩
          have hS := HS.out
          rw [ht] at hS
          rw [ej, ht]
          have HS2 := Lib.hid hS
          clear HS hS ht
          cases t
          · go_wp2_with fail
            all_goals (
              have e : primU (k + 1) = l := by rw [HS2.out]; rfl
              refine ⟨⟨k + 1, g, cap, by omega, ?_, by rw [e], by rw [e]; exact HI2.out, hB'⟩, ?_⟩
              · rw [show k + 1 + 2 = n + 1 by have := HN.out; omega]; simp
              · have := HN.out
                simp [intOf]; omega)
          · go_wp2_with (at_builtin; refine append_i rfl _ _ rfl w.heap.size _ l n wr.heap.size rfl ?c0 ?c1 ?c2 ?c3 ?c4 ?_)
            case c0 => exact OwnI.alloc HI2.out _
            case c3 => omega
            case c4 => first | omega | (simp; omega)
            intro g' cap' w' hI3 hg'
            have hB2 := HI2.out.below hB' hsr hg'
            have HI3 := Lib.hid hI3
            clear hI3 hg' hB'
            go_wp2_with fail
            all_goals (
              have e : primU (k + 1) = l ++ [n] := by rw [HS2.out]; rfl
              refine ⟨⟨k + 1, g', cap', by omega, ?_, by rw [e]; simp, by rw [e]; exact HI3.out, hB2⟩, ?_⟩
              · rw [show k + 1 + 2 = n + 1 by have := HN.out; omega]; simp
              · have := HN.out
                simp [intOf]; omega)
    · have l1 : ¬ (l.length : Int) < (m : Int) := by omega
      go_wp2_with fail
      go_ret
      refine ⟨_, rfl, ?_, hbl⟩
      obtain ⟨t, ht⟩ := HPR.out
      have hl := congrArg List.length ht
      rw [List.length_append, hK] at hl
      have : t = [] := List.eq_nil_of_length_eq_zero (by omega)
      subst this
      rw [ht, List.append_nil]
      exact HI.out
end Go.Proofs.YtfkfadcfafbmmaaDoor
