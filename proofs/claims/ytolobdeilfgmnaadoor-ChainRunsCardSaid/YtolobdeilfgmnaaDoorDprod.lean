/- The contract of the reference's product. -/
import Derived.Test.YtolobdeilfgmnaaDoorDint
namespace Go.Proofs.YtolobdeilfgmnaaDoor
open Go.RowKit
/-- the terms of column i, the first k of them -/
def colS (a b : List Nat) (i : Nat) : Nat → Nat
  | 0 => 0
  | k + 1 => colS a b i k + if k ≤ i ∧ i - k < b.length then a.getD k 0 * b.getD (i - k) 0 else 0
/-- the digits so far, and what is over -/
def prodS (a b : List Nat) : Nat → List Nat × Nat
  | 0 => ([], 0)
  | i + 1 => ((prodS a b i).1 ++ [((prodS a b i).2 + colS a b i a.length) % 65536], ((prodS a b i).2 + colS a b i a.length) / 65536)
def prodL (a b : List Nat) : List Nat := (prodS a b (a.length + b.length)).1
theorem prodS_length (a b : List Nat) (i : Nat) : (prodS a b i).1.length = i := by
  induction i with
  | zero => rfl
  | succ i ih => simp [prodS, ih]
def SmallN (l : List Nat) : Prop := ∀ j, l.getD j 0 < 65536
theorem sq_le {x y : Nat} (h1 : x < 65536) (h2 : y < 65536) : x * y ≤ 4294836225 := by
  have h : x * y ≤ 65535 * 65535 := Nat.mul_le_mul (Nat.le_of_lt_succ h1) (Nat.le_of_lt_succ h2)
  exact h
theorem colS_le (a b : List Nat) (ha : SmallN a) (hb : SmallN b) (i k : Nat) : colS a b i k ≤ k * 4294836225 := by
  induction k with
  | zero => simp [colS]
  | succ k ih =>
    simp only [colS]
    have h1 := ha k
    have h2 := hb (i - k)
    have h3 : a.getD k 0 * b.getD (i - k) 0 ≤ 4294836225 := sq_le h1 h2
    have h4 : (k + 1) * 4294836225 = k * 4294836225 + 4294836225 := Nat.succ_mul _ _
    rw [h4]
    refine Nat.add_le_add ih ?_
    split
    · exact h3
    · exact Nat.zero_le _
theorem prodS_over (a b : List Nat) (ha : SmallN a) (hb : SmallN b) (hl : a.length ≤ 100) (i : Nat) : (prodS a b i).2 ≤ 6553501 := by
  induction i with
  | zero => simp [prodS]
  | succ i ih =>
    simp only [prodS]
    have h := colS_le a b ha hb i a.length
    have h2 : a.length * 4294836225 ≤ 100 * 4294836225 := Nat.mul_le_mul_right _ hl
    omega
theorem prodS_small (a b : List Nat) (i : Nat) : SmallN (prodS a b i).1 := by
  induction i with
  | zero => intro j; simp [prodS]
  | succ i ih =>
    intro j
    simp only [prodS]
    rw [List.getD_eq_getElem?_getD, List.getElem?_append]
    have := ih j
    rw [List.getD_eq_getElem?_getD] at this
    split
    · exact this
    · rcases j - (prodS a b i).1.length with _ | q
      · simp; omega
      · simp
theorem prodL_small (a b : List Nat) : SmallN (prodL a b) := prodS_small a b _
theorem prodL_length (a b : List Nat) : (prodL a b).length = a.length + b.length := prodS_length a b _

def ProdOuter (w : World) (a b : List Nat) (v o i : Value) (wr : World) : Prop :=
  ∃ k g cap : Nat, k ≤ a.length + b.length ∧ i = .int .i64 (k : Int) ∧ v = .slice (some ⟨g, 0, none⟩) k cap ∧ OwnI wr w.heap.size v (prodS a b k).1 ∧ o = .int .i64 (((prodS a b k).2 : Nat) : Int) ∧ Below w.heap.size w wr
def ProdInner (w0 : World) (a b : List Nat) (i ov : Nat) (n j : Value) (wr : World) : Prop :=
  ∃ k : Nat, k ≤ a.length ∧ j = .int .i64 (k : Int) ∧ n = .int .i64 ((ov + colS a b i k : Nat) : Int) ∧ Bel w0 wr

set_option maxRecDepth 100000 in
set_option maxHeartbeats 4000000 in
theorem product_any (va vb : Value) (a b : List Nat) (ha : SmallN a) (hb : SmallN b) (hla : a.length ≤ 100) (hlb : b.length ≤ 100) (w : World) (h0 : IntsAt w va a) (h1 : IntsAt w vb b) :
    Calls Tryd.prog 38 #[va, vb] w fun e w' => ∃ v, e = .returned v ∧ OwnI w' w.heap.size v (prodL a b) ∧ Below w.heap.size w w' := by
  obtain ⟨ga, ca, rfl, hga, hca⟩ := h0
  obtain ⟨gb, cb, rfl, hgb, hcb⟩ := h1
  have HA := Lib.hid hca; have HB := Lib.hid hcb
  clear hca hcb
  have za : (0 : Int) ≤ (a.length : Int) := by omega
  go_enter Tryd.func38, Tryd.ntmps38
  go_wp2_with fail
  go_loopw [5, 6, 7] (ProdOuter w a b) (fun _ _ i _ => a.length + b.length - (intOf i).toNat)
  case atStart => exact ⟨0, _, _, by omega, rfl, rfl, OwnI.empty w _ (Nat.le_refl _), rfl, by go_grown⟩
  case round =>
    obtain ⟨k, g, cap, hk, rfl, rfl, hI, rfl, hbl⟩ := hrel
    have hov := prodS_over a b ha hb hla k
    obtain ⟨ov, hovv⟩ : ∃ o, (prodS a b k).2 = o := ⟨_, rfl⟩
    rw [hovv] at hov
    have HI := Lib.hid hI; have HO := Lib.hid hovv
    rw [hovv]
    clear hI hovv
    have hsz := hbl.size
    by_cases hlt : k < a.length + b.length
    · have l1 : (k : Int) < (a.length : Int) + (b.length : Int) := by omega
      go_wp2_with fail
      obtain ⟨wo, rfl⟩ : ∃ wo : World, wo = wr := ⟨_, rfl⟩
      go_loopw [8, 23] (ProdInner wo a b k ov) (fun _ j _ => a.length - (intOf j).toNat)
      case atStart => exact ⟨0, by omega, rfl, rfl, Bel.refl _⟩
      case round =>
        obtain ⟨j, hj, rfl, rfl, hbel⟩ := hrel
        have hcol := colS_le a b ha hb k j
        have hcol2 : j * 4294836225 ≤ 100 * 4294836225 := Nat.mul_le_mul_right _ (by omega)
        obtain ⟨s, hs⟩ : ∃ s, ov + colS a b k j = s := ⟨_, rfl⟩
        have hs2 : s ≤ 429490176001 := by omega
        rw [hs]
        have HS := Lib.hid hs
        clear hs hcol hcol2
        by_cases hjl : j < a.length
        · have l2 : (j : Int) < (a.length : Int) := by omega
          by_cases hin : j ≤ k ∧ k - j < b.length
          · have m1 : (0 : Int) ≤ (k : Int) - (j : Int) := by omega
            have m2 : (k : Int) - (j : Int) < (b.length : Int) := by omega
            have m3 : ((k : Int) - (j : Int)).toNat = k - j := by omega
            have m4 : IntKind.i64.wrap ((k : Int) - (j : Int)) = (k : Int) - (j : Int) := IntWalk.i64_in _ (by omega)
            have q1 : decide ((0 : Int) ≤ (k : Int) - (j : Int)) = true := by simpa using m1
            have c1 : wr.cell? ⟨ga, j, none⟩ = some (.int .i64 ((a.getD j 0 : Nat) : Int)) := by
              rw [hbel.b.cell (p := ⟨ga, j, none⟩) (by show ga < _; omega), hbl.cell (p := ⟨ga, j, none⟩) hga]; exact HA.out j hjl
            have c2 : wr.cell? ⟨gb, k - j, none⟩ = some (.int .i64 ((b.getD (k - j) 0 : Nat) : Int)) := by
              rw [hbel.b.cell (p := ⟨gb, k - j, none⟩) (by show gb < _; omega), hbl.cell (p := ⟨gb, k - j, none⟩) hgb]; exact HB.out (k - j) hin.2
            have x1 := ha j
            have x2 := hb (k - j)
            obtain ⟨x, hx⟩ : ∃ x, a.getD j 0 = x := ⟨_, rfl⟩
            obtain ⟨y, hy⟩ : ∃ y, b.getD (k - j) 0 = y := ⟨_, rfl⟩
            rw [hx] at c1 x1
            rw [hy] at c2 x2
            have hxy : x * y ≤ 4294836225 := sq_le x1 x2
            obtain ⟨p, hp⟩ : ∃ p, x * y = p := ⟨_, rfl⟩
            rw [hp] at hxy
            have hp' : (x : Int) * (y : Int) = (p : Int) := by rw [← hp]; norm_cast
            have w1 : IntKind.i64.wrap ((x : Int) * (y : Int)) = (p : Int) := by rw [hp']; exact IntWalk.i64_in _ (by omega)
            have w2 : IntKind.i64.wrap ((s : Int) + (p : Int)) = ((s + p : Nat) : Int) := by rw [← Int.natCast_add]; exact IntWalk.i64_in _ (by omega)
            have HX := Lib.hid hx; have HY := Lib.hid hy; have HP := Lib.hid hp; have HIN := Lib.hid hin
            clear hx hy hp hin hp'
            go_wp2_with fail
            go_quiet (fail)
            go_wp2_with fail
            all_goals (
              refine ⟨⟨j + 1, by omega, by simp, ?_, ⟨below_drewN hbel.b _⟩⟩, by simp [intOf]; omega⟩
              have e : ov + colS a b k (j + 1) = s + p := by
                rw [colS, HX.out, HY.out, HP.out, if_pos HIN.out, ← Nat.add_assoc, HS.out]
              rw [e]
              simp)
          · by_cases hjk : j ≤ k
            · have m1 : (0 : Int) ≤ (k : Int) - (j : Int) := by omega
              have m2 : ¬ (k : Int) - (j : Int) < (b.length : Int) := by omega
              have m4 : IntKind.i64.wrap ((k : Int) - (j : Int)) = (k : Int) - (j : Int) := IntWalk.i64_in _ (by omega)
              have q1 : decide ((0 : Int) ≤ (k : Int) - (j : Int)) = true := by simpa using m1
              go_wp2_with fail
              all_goals (
                refine ⟨⟨j + 1, by omega, by simp, ?_, by first | exact hbel | exact ⟨below_drewN hbel.b _⟩⟩, by simp [intOf]; omega⟩
                have e : ov + colS a b k (j + 1) = s := by
                  rw [colS, if_neg hin, Nat.add_zero, HS.out]
                rw [e])
            · have m1 : ¬ (0 : Int) ≤ (k : Int) - (j : Int) := by omega
              have m4 : IntKind.i64.wrap ((k : Int) - (j : Int)) = (k : Int) - (j : Int) := IntWalk.i64_in _ (by omega)
              have q1 : decide ((0 : Int) ≤ (k : Int) - (j : Int)) = false := by simpa using m1
              go_wp2_with fail
              all_goals (
                refine ⟨⟨j + 1, by omega, by simp, ?_, by first | exact hbel | exact ⟨below_drewN hbel.b _⟩⟩, by simp [intOf]; omega⟩
                have e : ov + colS a b k (j + 1) = s := by
                  rw [colS, if_neg hin, Nat.add_zero, HS.out]
                rw [e])
        · have ej : j = a.length := by omega
          have l2 : ¬ (j : Int) < (a.length : Int) := by omega
          have hI' : OwnI wr w.heap.size (.slice (some ⟨g, 0, none⟩) k cap) (prodS a b k).1 := HI.out.on hbel.b
          have hB' : Below w.heap.size w wr := hbl.trans (hbel.b.mono hsz)
          have hsr := hB'.size
          have hlen : (prodS a b k).1.length = k := prodS_length a b k
          have d1 : (s : Int) % 65536 = ((s % 65536 : Nat) : Int) := by omega
          have d2 : (s : Int) / 65536 = ((s / 65536 : Nat) : Int) := by omega
          obtain ⟨y, hy⟩ : ∃ y, s % 65536 = y := ⟨_, rfl⟩
          obtain ⟨z, hz⟩ : ∃ z, s / 65536 = z := ⟨_, rfl⟩
          rw [hy] at d1; rw [hz] at d2
          have HY := Lib.hid hy; have HZ := Lib.hid hz; have HI2 := Lib.hid hI'; have HLEN := Lib.hid hlen
          clear hy hz hI' hlen
          go_wp2_with (at_builtin; refine append_i rfl _ _ rfl w.heap.size _ (prodS a b k).1 y wr.heap.size rfl ?c0 ?c1 ?c2 ?c3 ?c4 ?_)
          case c0 => exact OwnI.alloc HI2.out _
          case c3 => rw [HLEN.out]; omega
          case c4 => first | omega | (simp; omega)
          intro g' cap' w' hI3 hg'
          have hB2 := HI2.out.below hB' hsr hg'
          rw [HLEN.out] at hI3 ⊢
          have HI3 := Lib.hid hI3
          clear hI3 hg' hB'
          go_wp2_with fail
          all_goals (
            have e1 : (prodS a b (k + 1)).1 = (prodS a b k).1 ++ [y] := by
              rw [prodS, HO.out, ← ej, HS.out, HY.out]
            have e2 : (prodS a b (k + 1)).2 = z := by
              rw [prodS, HO.out, ← ej, HS.out, HZ.out]
            refine ⟨⟨k + 1, g', cap', by omega, by simp, rfl, ?_, by rw [e2], hB2⟩, by simp [intOf]; omega⟩
            rw [e1]
            exact HI3.out)
    · have l1 : ¬ (k : Int) < (a.length : Int) + (b.length : Int) := by omega
      have ek : k = a.length + b.length := by omega
      go_wp2_with fail
      go_ret
      refine ⟨_, rfl, ?_, hbl⟩
      rw [prodL, ← ek]
      exact HI.out
end Go.Proofs.YtolobdeilfgmnaaDoor