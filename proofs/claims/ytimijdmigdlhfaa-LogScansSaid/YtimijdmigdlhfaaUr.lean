/- The reference's one: the record that bytes begin with, tried at each size of a number. -/
import Derived.Test.YtimijdmigdlhfaaUd
import Derived.Test.YtimijdmigdlhfaaUg
import Derived.Test.YtimijdmigdlhfaaPy
import Derived.Test.YtimijdmigdlhfaaUn
namespace Go.Proofs.Ytimijdmigdlhfaa
open Go.RowKit
set_option maxRecDepth 100000
theorem unpackN_eq (r : List UInt8) : unpackL r [110] = match ahead r with
    | none => ([], 0, 4)
    | some (n, k) => if k < r.length then ([], k, 4) else ([⟨false, n, ⟨#[]⟩⟩], 0, 0) := by
  unfold unpackL
  rw [if_pos (by decide)]
  have hs : stepKs r [110] ([], 0) = stepN r 18446744073709551615 ([], 0) := by
    have e : stepK r 110 ([], 0) = stepN r 18446744073709551615 ([], 0) := rfl
    rw [stepKs, e]
    cases h : (stepN r 18446744073709551615 ([], 0)).2
    · rfl
    · rw [if_pos rfl, stepKs, ← h]
  rw [hs]
  unfold stepN
  simp only [List.drop_zero]
  cases ha : ahead r with
  | none => simp
  | some p =>
    obtain ⟨n, k⟩ := p
    obtain ⟨-, -, -, h4, -, -⟩ := ahead_some _ _ _ ha
    simp only [Nat.zero_add, List.nil_append]
    rw [if_pos (show n ≤ 18446744073709551615 by omega)]
    simp
/-- no record has a number of i bytes -/
def NoAt (C : Ck) (r : List UInt8) (i : Nat) : Prop := ∀ t k, aheadR C r = some (t, k) → i ≤ (numB t.size).length
theorem noAt_next (C : Ck) (r : List UInt8) (i : Nat) (h : NoAt C r i) (hne : ∀ t k, aheadR C r = some (t, k) → (numB t.size).length ≠ i) : NoAt C r (i + 1) := fun t k e => by
  have := h t k e
  have := hne t k e
  omega
theorem noAt_none (C : Ck) (r : List UInt8) (h : aheadR C r = none) (i : Nat) : NoAt C r i := fun t k e => by rw [h] at e; cases e
theorem noAt_all (C : Ck) (r : List UInt8) (h : NoAt C r 4) : aheadR C r = none := by
  cases ha : aheadR C r with
  | none => rfl
  | some p =>
    obtain ⟨t, k⟩ := p
    obtain ⟨-, -, -, -, hsz⟩ := aheadR_some C r t k ha
    have h1 := h t k ha
    have h2 := (digL_len_iff t.size 2).2 (by show t.size < 65536; omega)
    rw [numB_length] at h1
    omega
/-- what stands ahead where a record does -/
theorem aheadR_ahead (C : Ck) (r : List UInt8) (t : ByteArray) (k : Nat) (h : aheadR C r = some (t, k)) : ahead r = some (t.size, (numB t.size).length) := by
  obtain ⟨h1, h2, h3, -, h5⟩ := aheadR_some C r t k h
  have e : r = numB t.size ++ (bl t ++ (C.f t ++ r.drop k)) := by
    conv => lhs; rw [← List.take_append_drop k r, h1]
    unfold recL txB
    simp only [List.append_assoc]
  rw [e, ahead_numB _ _ (by omega)]
/-- the i bytes ahead are no number alone -/
theorem noAt_bad (C : Ck) (r : List UInt8) (i : Nat) (h : NoAt C r i) (hE : (unpackL (r.take i) [110]).2.2 ≠ 0) : NoAt C r (i + 1) := by
  refine noAt_next C r i h fun t k e hi => ?_
  have ha := aheadR_ahead C r t k e
  rw [hi] at ha
  have hl := (ahead_some _ _ _ ha).2.2.1
  have ha2 := ahead_longer r t.size i i ha (Nat.le_refl _)
  rw [unpackN_eq, ha2] at hE
  simp only at hE
  rw [List.length_take, if_neg (by omega)] at hE
  exact hE rfl
/-- the i bytes ahead are a number -/
theorem at_good (C : Ck) (r : List UInt8) (i : Nat) (hi : i ≤ r.length) (hE : (unpackL (r.take i) [110]).2.2 = 0) : ∃ n, unpackL (r.take i) [110] = ([⟨false, n, ⟨#[]⟩⟩], 0, 0) ∧ n < 18446744073709551616 ∧
    aheadR C r = if n ≤ 1024 ∧ i + n + 4 ≤ r.length ∧ (r.drop (i + n)).take 4 = C.f (strL ((r.drop i).take n)) then some (strL ((r.drop i).take n), i + n + 4) else none := by
  have hU := unpackN_eq (r.take i)
  rw [hU] at hE
  cases ha : ahead (r.take i) with
  | none => rw [ha] at hE; simp at hE
  | some p =>
    obtain ⟨n, k⟩ := p
    rw [ha] at hE hU
    simp only at hE hU
    obtain ⟨-, -, h3, h4, -, -⟩ := ahead_some _ _ _ ha
    rw [List.length_take] at h3
    by_cases hk : k < (r.take i).length
    · rw [if_pos hk] at hE; simp at hE
    · rw [if_neg hk] at hU
      rw [List.length_take] at hk
      obtain rfl : k = i := by omega
      have ha2 := ahead_take _ _ _ ha
      refine ⟨n, hU, h4, ?_⟩
      unfold aheadR
      rw [ha2]
/-- the comparison of the reference: the record as a whole -/
theorem rec_eq (C : Ck) (r : List UInt8) (i n : Nat) (ha : ahead r = some (n, i)) (hl : i + n + 4 ≤ r.length) : (recL C (strL ((r.drop i).take n)) = r.take (i + n + 4)) ↔ (r.drop (i + n)).take 4 = C.f (strL ((r.drop i).take n)) := by
  obtain ⟨h1, -, -, -, -, -⟩ := ahead_some _ _ _ ha
  have hsz : ((r.drop i).take n).length = n := by rw [List.length_take, List.length_drop]; omega
  have e1 : recL C (strL ((r.drop i).take n)) = r.take (i + n) ++ C.f (strL ((r.drop i).take n)) := by
    unfold recL txB
    rw [strL_size, hsz, bl_strL, ← h1, take_more]
  rw [e1, ← take_more r (i + n) 4]
  constructor
  · intro h; exact (List.append_cancel_left h).symm
  · intro h; rw [h]
theorem cut_mid (s : ByteArray) (i j : Nat) (hij : i ≤ j) (hj : j ≤ s.size) (W : World) : (Instr.slice 9 (.string s) (some (.int .i64 (i : Int))) (some (.int .i64 (j : Int))) none).run Try.prog W = .ok (.string (strL (((bl s).take j).drop i))) W := by
  have h1 : (j : Int) ≤ (s.size : Int) := by omega
  have h2 : (i : Int) ≤ (j : Int) := by omega
  have hb : s.extract i j = strL (((bl s).take j).drop i) := bl_inj (by rw [bl_extract, bl_strL])
  rw [← hb]
  go_simp
theorem store2 {w : World} {B : Nat} {a b : Value} {t : TypeId} (h : w.heap[B]? = some (.cells #[a, b] t (0, 0))) (x y : Value) :
    ((w.setCell ⟨B, 0, none⟩ x).setCell ⟨B, 1, none⟩ y).heap[B]? = some (.cells #[x, y] t (0, 0)) := by
  have h1 := heap_setCell_same w B 0 _ t x h
  have h2 := heap_setCell_same _ B 1 _ t y h1
  rw [h2]
  simp
theorem below2 {w0 w : World} {n B : Nat} (h : Below n w0 w) (hB : n ≤ B) (a b : Value) : Below n w0 ((w.setCell ⟨B, 0, none⟩ a).setCell ⟨B, 1, none⟩ b) :=
  (h.setCell (p := ⟨B, 0, none⟩) hB a).setCell (p := ⟨B, 1, none⟩) hB b
/-- texts, and where they end, handed back in a struct -/
def RetS (w : World) (ts : List ByteArray) (n : Nat) (e : Ending) (w' : World) : Prop :=
  ∃ (a : Option Addr) (c : Nat), e = .returned (.agg #[.slice a ts.length c, .int .i64 (n : Int)]) ∧ Rd9 w' a c ts ∧ Below w.heap.size w w' ∧ ∀ ad, a = some ad → 0 < ts.length → w.heap.size ≤ ad.block
def oneT (X : Option (ByteArray × Nat)) : List ByteArray := match X with | none => [] | some p => [p.1]
def OnRel (w : World) (X : Nat) (r : List UInt8) (i : Value) (wr : World) : Prop :=
  ∃ k : Nat, k ≤ 4 ∧ i = .int .i64 (k : Int) ∧ NoAt ckR r k ∧ wr.heap[X]? = some (.cells #[.slice none 0 0, .int .i64 0] 40) ∧ Below w.heap.size w wr
set_option maxHeartbeats 8000000 in
theorem one_any (s : ByteArray) (hs : s.size ≤ maxLen) (w : World) :
    Calls Try.prog 34 #[.string s] w (RetS w (oneT (aheadR ckR (bl s))) (fstK (aheadR ckR (bl s)))) := by
  obtain ⟨X, eX⟩ : ∃ X, w.heap.size = X := ⟨_, rfl⟩
  have h0 := heap_alloc_new w (.cells #[.slice none 0 0, .int .i64 0] 40)
  have hb0 : Below w.heap.size w (w.alloc (.cells #[.slice none 0 0, .int .i64 0] 40)) := (Below.refl _ _).alloc (Nat.le_refl _) _
  have H0 := Lib.hid (And.intro h0 hb0); have HS := Lib.hid hs; have HX := Lib.hid eX
  clear h0 hb0 hs
  go_enter Try.func34, Try.ntmps34
  go_wp2_with fail
  rw [eX] at H0
  clear eX
  go_loopw [3] (OnRel w X (bl s)) (fun i _ => 4 - (intOf i).toNat)
  case atStart => exact ⟨0, by omega, rfl, fun t k h => Nat.zero_le _, H0.out.1, by rw [HX.out]; exact H0.out.2⟩
  case round =>
    clear H0
    obtain ⟨i, hi, rfl, hno, hx, hB⟩ := hrel
    have hXlt : X < wr.heap.size := (Array.getElem?_eq_some_iff.1 hx).1
    by_cases hi4 : i ≤ 3
    · have h1 : (i : Int) ≤ 3 := by omega
      by_cases hle : i ≤ s.size
      · have h2 : (i : Int) ≤ (s.size : Int) := by omega
        have hcut := cut_ahead s i hle
        have hU := fun W => rUnpack_any (strL ((bl s).take i)) ⟨#[110]⟩ (by rw [strL_size, List.length_take, bl_length]; have := HS.out; omega) (by decide) W
        simp only [bl_strL, show bl ⟨#[110]⟩ = [110] from rfl] at hU
        by_cases hE : (unpackL ((bl s).take i) [110]).2.2 = 0
        · obtain ⟨n, hUn, hn64, hA⟩ := at_good ckR (bl s) i (by rw [bl_length]; exact hle) hE
          have hah : aheadR ckR (bl s) = none ∨ (n ≤ 1024 ∧ i + n + 4 ≤ s.size) := by
            by_cases hc : n ≤ 1024 ∧ i + n + 4 ≤ s.size
            · exact .inr hc
            · left
              rw [hA, if_neg]
              rintro ⟨h3, h4, -⟩
              rw [bl_length] at h4
              exact hc ⟨h3, h4⟩
          have hahead : ahead (bl s) = some (n, i) := by
            have h3 := unpackN_eq ((bl s).take i)
            rw [hUn] at h3
            cases ha : ahead ((bl s).take i) with
            | none => rw [ha] at h3; simp at h3
            | some p =>
              obtain ⟨n', k'⟩ := p
              rw [ha] at h3
              simp only at h3
              have hk' := (ahead_some _ _ _ ha).2.2.1
              rw [List.length_take, bl_length] at hk'
              by_cases hk : k' < ((bl s).take i).length
              · rw [if_pos hk] at h3; simp at h3
              · rw [if_neg hk] at h3
                rw [List.length_take, bl_length] at hk
                simp at h3
                subst h3
                obtain rfl : k' = i := by omega
                exact ahead_take _ _ _ ha
          rw [hUn] at hU
          have HU := Lib.hid hU
          have HN := Lib.hid (And.intro hno (And.intro hx (And.intro hB hXlt)))
          have HA := Lib.hid (And.intro hA (And.intro hah hahead))
          clear hU hno hx hB hXlt hA hah hahead hE hUn
          generalize strL ((bl s).take i) = pr at hcut HU
          go_wp2_with fail
          refine (HU.out wr).mono ?_
          rintro e w1 ⟨a, c, rfl, hp, hb, -⟩
          dsimp only at hp ⊢
          obtain ⟨b, off, rfl, hbl, hc⟩ := hp (by simp)
          obtain ⟨-, k1, -⟩ := hc 0 (by simp)
          have hal : Below w1.heap.size w1 (w1.alloc (.cells #[.slice (some ⟨b, off, none⟩) 1 c, .int .i64 0, .int .i64 0] 86)) := (Below.refl _ _).alloc (Nat.le_refl _) _
          have hb2 := hb.trans (hal.mono hb.size)
          have HN2 := Lib.hid (And.intro HN.out.1 (And.intro ((hb2.block X HN.out.2.2.2).trans HN.out.2.1) (And.intro (HN.out.2.2.1.trans (hb2.mono HN.out.2.2.1.size)) (Nat.lt_of_lt_of_le HN.out.2.2.2 hb2.size))))
          have k2 : (w1.alloc (.cells #[.slice (some ⟨b, off, none⟩) 1 c, .int .i64 0, .int .i64 0] 86)).cell? ⟨b, off + 1, none⟩ = some (.int .u64 (n : Int)) := by
            rw [hal.cell (p := ⟨b, off + 1, none⟩) hbl]; simpa using k1
          have hr := heap_alloc_new w1 (.cells #[.slice (some ⟨b, off, none⟩) 1 c, .int .i64 0, .int .i64 0] 86)
          have HR := Lib.hid hr
          clear hb hb2 HN HU hcut hc k1 hp hbl hal hr
          go_upto_region 6 with fail
          obtain ⟨R, eR⟩ : ∃ R, w1.heap.size = R := ⟨_, rfl⟩
          rw [eR] at HR ⊢
          clear eR
          generalize World.alloc w1 _ = V at HN2 HR k2 ⊢
          have v0 : V.cell? ⟨R, 0, none⟩ = some (.slice (some ⟨b, off, none⟩) 1 c) := by rw [cell_of_row _ _ _ _ _ _ HR.out]; rfl
          have v2 : V.cell? ⟨R, 2, none⟩ = some (.int .i64 0) := by rw [cell_of_row _ _ _ _ _ _ HR.out]; rfl
          by_cases hn1 : n ≤ 1024
          · have hn2 : (n : Int) ≤ 1024 := by omega
            have hn3 : (0 : Int) ≤ (n : Int) := by omega
            by_cases hfit : i + n + 4 ≤ s.size
            · obtain ⟨j, ej⟩ : ∃ j, i + n = j := ⟨_, rfl⟩
              obtain ⟨m, em⟩ : ∃ m, j + 4 = m := ⟨_, rfl⟩
              have hj : (i : Int) + (n : Int) = (j : Int) := by omega
              have hm : (j : Int) + 4 = (m : Int) := by omega
              have hms : (m : Int) ≤ (s.size : Int) := by omega
              have cut1 := cut_mid s i j (by omega) (by omega)
              have cut2 := cut_ahead s m (by omega)
              obtain ⟨tx, etx⟩ : ∃ tx, strL (((bl s).take j).drop i) = tx := ⟨_, rfl⟩
              have etx2 : strL (((bl s).drop i).take n) = tx := by rw [← etx, List.drop_take]; congr 2; omega
              have htn : tx.size = n := by rw [← etx2, strL_size, List.length_take, List.length_drop, bl_length]; omega
              have htz : (tx.size : Int) = (n : Int) := by omega
              have hA3 : aheadR ckR (bl s) = if strL (recL ckR tx) = strL ((bl s).take m) then some (tx, m) else none := by
                have h4 := rec_eq ckR (bl s) i n HA.out.2.2 (by rw [bl_length]; omega)
                rw [HA.out.1, etx2, ej, em]
                rw [etx2, ej, em] at h4
                by_cases hq : recL ckR tx = (bl s).take m
                · rw [if_pos ⟨hn1, by rw [bl_length]; omega, h4.1 hq⟩, if_pos (by rw [hq])]
                · rw [if_neg (fun h => hq (h4.2 h.2.2)), if_neg (fun h => hq (by have := congrArg bl h; rwa [bl_strL, bl_strL] at this))]
              have hmz : (m : Int) ≤ 9223372036854775807 := by have := HS.out; unfold maxLen at this; omega
              have HRR := Lib.hid (fun W => rRecord_any tx (by omega) W)
              have HA4 := Lib.hid hA3
              rw [etx] at cut1
              clear hA3 etx etx2 ej em hfit HA
              generalize strL (recL ckR tx) = rx at HRR HA4
              generalize strL ((bl s).take m) = sx at cut2 HA4
              have hseq := str_eq rx sx
              have hwj : IntKind.i64.wrap (j : Int) = (j : Int) := by rw [IntKind.wrap_i64]; omega
              have hwm : IntKind.i64.wrap (m : Int) = (m : Int) := by rw [IntKind.wrap_i64]; omega
              go_upto_region 8 with fail
              clear v0 v2 k2 cut1 hn2 hn3 HR
              have s0 : V.cell? ⟨X, 0, none⟩ = some (.slice none 0 0) := by rw [cell_of_row _ _ _ _ _ _ HN2.out.2.1]; rfl
              have hS : (fun w' : World => w'.cell? ⟨X, 0, none⟩ = some (.slice none 0 0)) V := s0
              go_region_held3 (fun w' : World => w'.cell? ⟨X, 0, none⟩ = some (.slice none 0 0)) (first | with_reducible assumption | go_keep)
                ((go_at_call 14; refine (HRR.out _).mono ?_; rintro e w3 ⟨rfl, hb⟩; have hbv : Below V.heap.size V w3 := ⟨hb.os, hb.tape, hb.output, hb.size, hb.block⟩; have c3 : w3.cell? ⟨X, 0, none⟩ = some (.slice none 0 0) := (by rw [hbv.cell (p := ⟨X, 0, none⟩) HN2.out.2.2.2]; exact s0); have HBV := Lib.hid hbv; clear hb hbv))
              have hx3 : w3.heap[X]? = some (.cells #[.slice none 0 0, .int .i64 0] 40) := (HBV.out.block X HN2.out.2.2.2).trans HN2.out.2.1
              have hB3 := HN2.out.2.2.1.trans (HBV.out.mono HN2.out.2.2.1.size)
              have hXl3 : X < w3.heap.size := (Array.getElem?_eq_some_iff.1 hx3).1
              have HY := Lib.hid (And.intro hx3 (And.intro hB3 hXl3))
              clear HBV hS s0 c3 hx3 hB3 hXl3 HRR cut2
              clear hseq
              by_cases hq : rx = sx
              · rw [decide_eq_true hq]
                have hXs := HA4.out
                rw [if_pos hq] at hXs
                have HXS := Lib.hid hXs
                clear HA4 hXs hq
                obtain ⟨W4, eW4⟩ : ∃ W4, w3.alloc (.cells #[.string tx] 9) = W4 := ⟨_, rfl⟩
                have hb4 : Below w3.heap.size w3 W4 := by rw [← eW4]; exact (Below.refl _ _).alloc (Nat.le_refl _) _
                have hx4 := (hb4.block X HY.out.2.2).trans HY.out.1
                have r0 : W4.cell? ⟨X, 0, none⟩ = some (.slice none 0 0) := by rw [cell_of_row _ _ _ _ _ _ hx4]; rfl
                have r1 : W4.cell? ⟨X, 1, none⟩ = some (.int .i64 0) := by rw [cell_of_row _ _ _ _ _ _ hx4]; rfl
                have f0 := frozen_of_row W4 X 0 _ _ hx4
                have f1 := frozen_of_row W4 X 1 _ _ hx4
                have hne : X ≠ w3.heap.size := by have := HY.out.2.2; omega
                have hwl : w.heap.size ≤ w3.heap.size := HY.out.2.1.size
                have htc : W4.cell? ⟨w3.heap.size, 0, none⟩ = some (.string tx) := by rw [← eW4, cell_of_row _ _ _ _ _ _ (heap_alloc_new _ _)]; rfl
                have hlt4 : w3.heap.size < W4.heap.size := by rw [← eW4]; simp
                have hst := store2 hx4 (.slice (some ⟨w3.heap.size, 0, none⟩) 1 1) (.int .i64 (m : Int))
                have hbl := below2 (HY.out.2.1.trans (hb4.mono HY.out.2.1.size)) (Nat.le_of_eq HX.out) (.slice (some ⟨w3.heap.size, 0, none⟩) 1 1) (.int .i64 (m : Int))
                have htc2 : ((W4.setCell ⟨X, 0, none⟩ (.slice (some ⟨w3.heap.size, 0, none⟩) 1 1)).setCell ⟨X, 1, none⟩ (.int .i64 (m : Int))).cell? ⟨w3.heap.size, 0, none⟩ = some (.string tx) := by
                  rw [World.cell?_setCell_other _ _ _ _ (fun e => hne (congrArg Addr.block e)), World.cell?_setCell_other _ _ _ _ (fun e => hne (congrArg Addr.block e))]
                  exact htc
                have hlt5 : w3.heap.size < ((W4.setCell ⟨X, 0, none⟩ (.slice (some ⟨w3.heap.size, 0, none⟩) 1 1)).setCell ⟨X, 1, none⟩ (.int .i64 (m : Int))).heap.size := by simp; exact hlt4
                have HE := Lib.hid (And.intro hst (And.intro hbl (And.intro htc2 hlt5)))
                clear hb4 hx4 hne htc hlt4 hst hbl htc2 hlt5
                go_wp2_with fail
                clear r0 r1 f0 f1
                generalize World.setCell (World.setCell W4 _ _) _ _ = Z at HE ⊢
                have t0 : Z.cell? ⟨X, 0, none⟩ = some (.slice (some ⟨w3.heap.size, 0, none⟩) 1 1) := by rw [cell_of_row _ _ _ _ _ _ HE.out.1]; rfl
                have t1 : Z.cell? ⟨X, 1, none⟩ = some (.int .i64 (m : Int)) := by rw [cell_of_row _ _ _ _ _ _ HE.out.1]; rfl
                refine bodyPost_ret (v := .agg #[.slice (some ⟨w3.heap.size, 0, none⟩) 1 1, .int .i64 (m : Int)]) (by simp [results, Try.results34, go_sem, t0, t1]) rfl ?_
                rw [HXS.out]
                refine ⟨_, 1, rfl, ⟨fun _ => ⟨w3.heap.size, 0, rfl, HE.out.2.2.2, fun q hq => ?_⟩, Nat.le_refl _, fun e => by cases e⟩, HE.out.2.1, fun ad had _ => by cases had; exact hwl⟩
                obtain rfl : q = 0 := by simpa [oneT] using hq
                exact HE.out.2.2.1
              · rw [decide_eq_false hq]
                have hXs := HA4.out
                rw [if_neg hq] at hXs
                have HNN := Lib.hid (noAt_none ckR _ hXs (i + 1))
                clear HA4 hXs hq
                go_wp2_with fail
                exact ⟨⟨i + 1, by omega, by simp, HNN.out, HY.out.1, HY.out.2.1⟩, by simp [intOf]; omega⟩
            · have hf2 : ¬ (i : Int) + (n : Int) + 4 ≤ (s.size : Int) := by omega
              have hnone : aheadR ckR (bl s) = none := by
                rcases HA.out.2.1 with h | h
                · exact h
                · exact absurd h.2 hfit
              have HNN := Lib.hid (noAt_none ckR _ hnone (i + 1))
              clear hfit hnone HA
              go_wp2_with fail
              exact ⟨⟨i + 1, by omega, by simp, HNN.out, HN2.out.2.1, HN2.out.2.2.1⟩, by simp [intOf]; omega⟩
          · have hn2 : ¬ (n : Int) ≤ 1024 := by omega
            have hnone : aheadR ckR (bl s) = none := by
              rcases HA.out.2.1 with h | h
              · exact h
              · exact absurd h.1 hn1
            have HNN := Lib.hid (noAt_none ckR _ hnone (i + 1))
            clear hn1 hnone HA
            go_wp2_with fail
            exact ⟨⟨i + 1, by omega, by simp, HNN.out, HN2.out.2.1, HN2.out.2.2.1⟩, by simp [intOf]; omega⟩
        · have hno2 := noAt_bad ckR (bl s) i hno hE
          have hE4 : (unpackL ((bl s).take i) [110]).2.2 = 4 := by
            have h3 := unpackN_eq ((bl s).take i)
            rw [h3] at hE ⊢
            cases ha : ahead ((bl s).take i) with
            | none => rfl
            | some p =>
              obtain ⟨n', k'⟩ := p
              rw [ha] at hE
              simp only at hE ⊢
              by_cases hk : k' < ((bl s).take i).length
              · rw [if_pos hk]
              · rw [if_neg hk] at hE; exact absurd rfl hE
          generalize unpackL ((bl s).take i) [110] = U at hU hE4
          obtain ⟨UL, UA, UE⟩ := U
          simp only at hE4
          subst hE4
          have HU := Lib.hid hU
          have HN := Lib.hid (And.intro hno2 (And.intro hx (And.intro hB hXlt)))
          clear hno hno2 hU hx hB hXlt hE
          generalize strL ((bl s).take i) = pr at hcut HU
          go_wp2_with fail
          refine (HU.out wr).mono ?_
          rintro e w1 ⟨a, c, rfl, -, hb, -⟩
          have hal : Below w1.heap.size w1 (w1.alloc (.cells #[.slice a UL.length c, .int .i64 (UA : Int), .int .i64 (4 : Int)] 86)) := (Below.refl _ _).alloc (Nat.le_refl _) _
          have hb2 := hb.trans (hal.mono hb.size)
          have HN2 := Lib.hid (And.intro HN.out.1 (And.intro ((hb2.block X HN.out.2.2.2).trans HN.out.2.1) (HN.out.2.2.1.trans (hb2.mono HN.out.2.2.1.size))))
          clear hb hal hb2 HN HU hcut
          go_wp2_with fail
          exact ⟨⟨i + 1, by omega, by simp, HN2.out.1, HN2.out.2.1, HN2.out.2.2⟩, by simp [intOf]; omega⟩
      · have h2 : ¬ (i : Int) ≤ (s.size : Int) := by omega
        have hno2 : NoAt ckR (bl s) (i + 1) := noAt_next ckR _ i hno fun t k e he => by
          obtain ⟨-, h3, h4, -, -⟩ := aheadR_some ckR _ t k e
          rw [recL_length] at h3
          rw [bl_length] at h4
          omega
        have HN := Lib.hid (And.intro hno2 (And.intro hx hB))
        clear hno hno2 hx hB hXlt
        go_wp2_with fail
        exact ⟨⟨i + 1, by omega, by simp, HN.out.1, HN.out.2.1, HN.out.2.2⟩, by simp [intOf]; omega⟩
    · obtain rfl : i = 4 := by omega
      have hn : ¬ ((4 : Nat) : Int) ≤ 3 := by omega
      have hnone := noAt_all ckR _ hno
      have r0 : wr.cell? ⟨X, 0, none⟩ = some (.slice none 0 0) := by rw [cell_of_row _ _ _ _ _ _ hx]; rfl
      have r1 : wr.cell? ⟨X, 1, none⟩ = some (.int .i64 0) := by rw [cell_of_row _ _ _ _ _ _ hx]; rfl
      have f0 := frozen_of_row wr X 0 _ _ hx
      have f1 := frozen_of_row wr X 1 _ _ hx
      have HE := Lib.hid (And.intro hnone (And.intro (store2 hx (.slice none 0 0) (.int .i64 0)) (below2 hB (Nat.le_of_eq HX.out) (.slice none 0 0) (.int .i64 0))))
      clear hno hnone hx hB hXlt
      go_wp2_with fail
      clear r0 r1 f0 f1
      generalize World.setCell (World.setCell wr _ _) _ _ = Z at HE ⊢
      have t0 : Z.cell? ⟨X, 0, none⟩ = some (.slice none 0 0) := by rw [cell_of_row _ _ _ _ _ _ HE.out.2.1]; rfl
      have t1 : Z.cell? ⟨X, 1, none⟩ = some (.int .i64 0) := by rw [cell_of_row _ _ _ _ _ _ HE.out.2.1]; rfl
      refine bodyPost_ret (v := .agg #[.slice none 0 0, .int .i64 0]) (by simp [results, Try.results34, go_sem, t0, t1]) rfl ?_
      rw [HE.out.1]
      exact ⟨none, 0, rfl, ⟨SSl.nil _ _, Nat.le_refl _, fun _ => ⟨rfl, rfl⟩⟩, HE.out.2.2, fun _ h => by cases h⟩
end Go.Proofs.Ytimijdmigdlhfaa