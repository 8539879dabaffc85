/- The contracts of the reference 04's Expand, Split and Texts. -/
import Derived.Test.YtolobdeilfgmnaaDoorFref
import Derived.Test.YtolobdeilfgmnaaDoorFexa
import Derived.Test.YtolobdeilfgmnaaDoorKs
namespace Go.Proofs.YtolobdeilfgmnaaDoor
open Go.RowKit Go.Sort
set_option maxRecDepth 100000
theorem flat_succ (k wd : List UInt8) (j : Nat) : flat (rowT k wd (j + 1)) = flat (rowT k wd j) ++ lastT k wd (j + 1) := by
  unfold flat
  rw [rowT, List.flatMap_append, List.flatMap_singleton, bl_strL]
theorem lastT_succ_length (k wd : List UInt8) (j : Nat) : (lastT k wd (j + 1)).length = 32 := ofL_length _
def RefExpRel (W : World) (k wd : List UInt8) (N : Nat) (o l n : Value) (wr : World) : Prop :=
  ∃ j : Nat, j ≤ N ∧ o = .string (strL (flat (rowT k wd j))) ∧ l = .string (strL (lastT k wd j)) ∧ n = .int .i64 ((j : Int) + 1) ∧ Bel W wr

set_option maxHeartbeats 4000000 in
theorem refexpand_any (kv : Value) (k wd : ByteArray) (m : Nat) (hk0 : k.size ≤ 1000000) (hwd : wd.size ≤ 70000) (hm : m ≤ 8160) (w : World) (hk : KAt w kv) :
    Calls Tryd.prog 29 #[kv, .string k, .string wd, .int .i64 (m : Int)] w fun e w' => e = .returned (.string (strL (expL (bl k) (bl wd) m))) ∧ Below w.heap.size w w' := by
  have hKA := id hk
  obtain ⟨k0, k1, rfl, hK0, hK1⟩ := hk
  obtain ⟨g0, o0, c0, rfl, hg0, -⟩ := hK0
  obtain ⟨g1, o1, c1, rfl, hg1, -⟩ := hK1
  simp only [S8.l_length, keysL_length] at hKA ⊢
  obtain ⟨N, hN⟩ : ∃ N, (m + 31) / 32 = N := ⟨_, rfl⟩
  have hb0 : Below w.heap.size w (w.alloc (.cells #[.slice (some ⟨g0, o0, none⟩) 64 c0, .slice (some ⟨g1, o1, none⟩) 8 c1] 29)) := by go_grown
  have hc0 : (w.alloc (.cells #[.slice (some ⟨g0, o0, none⟩) 64 c0, .slice (some ⟨g1, o1, none⟩) 8 c1] 29)).heap[w.heap.size]? = some (.cells #[.slice (some ⟨g0, o0, none⟩) 64 c0, .slice (some ⟨g1, o1, none⟩) 8 c1] 29) := heap_alloc_new _ _
  have HKA := Lib.hid (hKA.on hb0)
  clear hKA
  go_enter Tryd.func29, Tryd.ntmps29
  go_upto_region 1 with fail
  generalize World.alloc w _ = W at hb0 hc0 HKA ⊢
  have HC0 := Lib.hid hc0
  have hltW : w.heap.size < W.heap.size := (Array.getElem?_eq_some_iff.1 hc0).1
  clear hc0
  go_wp2_with fail
  go_loopw [9, 10, 11] (RefExpRel W (bl k) (bl wd) N) (fun _ _ n _ => N + 1 - (intOf n).toNat)
  case atStart => exact ⟨0, by omega, rfl, rfl, rfl, Bel.refl _⟩
  case round =>
    obtain ⟨j, hj, rfl, rfl, rfl, hbel⟩ := hrel
    have hfs : (strL (flat (rowT (bl k) (bl wd) j))).size = 32 * j := by rw [strL_size, flat_row]
    obtain ⟨o, ho⟩ : ∃ o, strL (flat (rowT (bl k) (bl wd) j)) = o := ⟨_, rfl⟩
    rw [ho] at hfs ⊢
    by_cases hlt : j < N
    · have l1 : (o.size : Int) < (m : Int) := by omega
      have hcr : wr.heap[w.heap.size]? = some (.cells #[.slice (some ⟨g0, o0, none⟩) 64 c0, .slice (some ⟨g1, o1, none⟩) 8 c1] 29) := by rw [hbel.b.block _ hltW]; exact HC0.out
      have e0 : wr.cell? ⟨w.heap.size, 0, none⟩ = some (.slice (some ⟨g0, o0, none⟩) 64 c0) := by rw [cell_of_row _ _ _ _ _ _ hcr]; rfl
      have e1 : wr.cell? ⟨w.heap.size, 1, none⟩ = some (.slice (some ⟨g1, o1, none⟩) 8 c1) := by rw [cell_of_row _ _ _ _ _ _ hcr]; rfl
      obtain ⟨y, hy⟩ : ∃ y, UInt8.ofNat (j + 1) = y := ⟨_, rfl⟩
      have hyv : ((j : Int) + 1) = (y.toNat : Int) := by
        have h := byte_of (j + 1)
        rw [hy] at h
        rw [← h, IntKind.wrap_u8]
        omega
      have hone := one_text y ((j : Int) + 1) hyv
      have w8 : IntKind.u8.wrap ((j : Int) + 1) = (j : Int) + 1 := by rw [IntKind.wrap_u8]; omega
      have w64 : IntKind.i64.wrap ((j : Int) + 1 + 1) = (j : Int) + 1 + 1 := IntWalk.i64_in _ (by omega)
      have hll := lastT_length (bl k) (bl wd) j
      obtain ⟨la, hla⟩ : ∃ la, strL (lastT (bl k) (bl wd) j) = la := ⟨_, rfl⟩
      have hlas : la.size ≤ 32 := by rw [← hla, strL_size]; exact hll
      rw [hla]
      obtain ⟨p1, hp1⟩ : ∃ p1, la ++ wd = p1 := ⟨_, rfl⟩
      have hp1s : p1.size ≤ 70100 := by rw [← hp1, ByteArray.size_append]; omega
      have hcat1 : ∀ W : World, (Op.stringOp .add la wd).run Tryd.prog W = .ok (.string p1) W := fun W => by rw [run_string_add_sum W _ _ (by omega), hp1]
      have hns1 : (9223372036854775807 < la.size + wd.size) = False := by simp; omega
      have h1s : (strL [y]).size = 1 := by rw [strL_size]; rfl
      obtain ⟨p2, hp2⟩ : ∃ p2, p1 ++ strL [y] = p2 := ⟨_, rfl⟩
      have hp2s : p2.size ≤ 70200 := by rw [← hp2, ByteArray.size_append]; omega
      have hcat2 : ∀ W : World, (Op.stringOp .add p1 (strL [y])).run Tryd.prog W = .ok (.string p2) W := fun W => by rw [run_string_add_sum W _ _ (by omega), hp2]
      have hns2 : (9223372036854775807 < p1.size + (strL [y]).size) = False := by simp; omega
      have hnx : strL (tagL (bl k) (bl p2)) = strL (lastT (bl k) (bl wd) (j + 1)) := by
        rw [← hp2, bl_append, ← hp1, bl_append, ← hla, bl_strL, bl_strL, ← hy]; rfl
      have htg := fun W h => reftag_any (.agg #[.slice (some ⟨g0, o0, none⟩) 64 c0, .slice (some ⟨g1, o1, none⟩) 8 c1]) k p2 hk0 (by omega) W h
      obtain ⟨S, hS⟩ : ∃ S, strL (lastT (bl k) (bl wd) (j + 1)) = S := ⟨_, rfl⟩
      rw [hnx, hS] at htg
      have hSs : S.size = 32 := by rw [← hS, strL_size, lastT_succ_length]
      obtain ⟨o2, ho2⟩ : ∃ o2, o ++ S = o2 := ⟨_, rfl⟩
      have hcat3 : ∀ W : World, (Op.stringOp .add o S).run Tryd.prog W = .ok (.string o2) W := fun W => by rw [run_string_add_sum W _ _ (by omega), ho2]
      have hns3 : (9223372036854775807 < o.size + S.size) = False := by simp; omega
      have hfin : strL (flat (rowT (bl k) (bl wd) (j + 1))) = o2 := by
        rw [flat_succ, ← strL_append, ho, hS, ho2]
      have HTG := Lib.hid htg; have HS := Lib.hid hS; have HFIN := Lib.hid hfin; have HKR := Lib.hid (HKA.out.on hbel.b)
      clear htg hS hfin hnx hp1 hp2 hla hll ho ho2 hy hyv hcr hSs hp1s hp2s hlas h1s
      go_wp2_with fail
      have hb2 : Below wr.heap.size wr (wr.alloc (.cells #[.int .u8 ((j : Int) + 1)] 5)) := by go_grown
      refine (HTG.out _ (HKR.out.on hb2)).mono ?_
      rintro e w4 ⟨rfl, hb4⟩
      have hbel4 : Bel W w4 := (hbel.on hb2).on hb4
      clear hb2 hb4 hbel HTG HKR e0 e1
      go_wp2_with fail
      exact ⟨⟨j + 1, by omega, by rw [HFIN.out], by rw [HS.out], by simp, hbel4⟩, by simp [intOf]; omega⟩
    · have ej : j = N := by omega
      have l1 : ¬ (o.size : Int) < (m : Int) := by omega
      have l2 : (m : Int) ≤ (o.size : Int) := by omega
      obtain ⟨p, hp⟩ : ∃ p, o.extract 0 m = p := ⟨_, rfl⟩
      have hfin : strL (expL (bl k) (bl wd) m) = p := by
        refine bl_inj ?_
        rw [bl_strL, ← hp, bl_extract, List.drop_zero, ← ho, bl_strL, ej, ← hN]; rfl
      have hsl : ∀ W : World, (Instr.slice 9 (.string o) none (some (.int .i64 (m : Int))) none).run Tryd.prog W = .ok (.string p) W := by
        clear hfs hfin ho; intro W; rw [← hp]; go_simp
      have hend : Below w.heap.size w wr := hb0.trans (hbel.b.mono hb0.size)
      have HFIN := Lib.hid hfin
      clear hfin hp ho hfs hN hb0 hbel HKA HC0
      go_wp2_with fail
      go_ret
      exact ⟨by rw [HFIN.out]; rfl, hend⟩

theorem flat_part (k wd : List UInt8) (n i : Nat) (h : i < n) : ((flat (rowT k wd n)).take (32 * i + 32)).drop (32 * i) = lastT k wd (i + 1) := by
  obtain ⟨t, ht⟩ : ∃ t, flat (rowT k wd n) = flat (rowT k wd (i + 1)) ++ t := by
    induction n with
    | zero => omega
    | succ n ih =>
      by_cases hn : i < n
      · obtain ⟨t, ht⟩ := ih hn
        exact ⟨t ++ lastT k wd (n + 1), by rw [flat_succ, ht, List.append_assoc]⟩
      · obtain rfl : i = n := by omega
        exact ⟨[], by simp⟩
  have hl : (flat (rowT k wd (i + 1))).length = 32 * i + 32 := by rw [flat_row]; omega
  rw [ht, List.take_append_of_le_length (by omega), List.take_of_length_le (by omega), flat_succ, List.drop_left' (flat_row _ _ _)]
theorem expL_all (k wd : List UInt8) (n : Nat) : expL k wd (32 * n) = flat (rowT k wd n) := by
  unfold expL
  rw [show (32 * n + 31) / 32 = n by omega, List.take_of_length_le]
  rw [flat_row]; omega
def RefSplRel (V : World) (n1 : Nat) (k wd : List UInt8) (n : Nat) (v i : Value) (wr : World) : Prop :=
  ∃ j g cap : Nat, j ≤ n ∧ i = .int .i64 (j : Int) ∧ v = .slice (some ⟨g, 0, none⟩) j cap ∧ OwnS wr n1 v (rowT k wd j) ∧ Below n1 V wr

set_option maxHeartbeats 4000000 in
theorem refsplit_any (kv : Value) (k wd : ByteArray) (n : Nat) (hk0 : k.size ≤ 1000000) (hwd : wd.size ≤ 70000) (hn : n ≤ 255) (w : World) (hk : KAt w kv) :
    Calls Tryd.prog 21 #[kv, .string k, .string wd, .int .i64 (n : Int)] w fun e w' => ∃ g cap, e = .returned (.slice (some ⟨g, 0, none⟩) n cap) ∧ StrsAt w' (.slice (some ⟨g, 0, none⟩) n cap) (rowT (bl k) (bl wd) n) ∧ Below w.heap.size w w' := by
  have hKA := id hk
  obtain ⟨k0, k1, rfl, hK0, hK1⟩ := hk
  obtain ⟨g0, o0, c0, rfl, hg0, -⟩ := hK0
  obtain ⟨g1, o1, c1, rfl, hg1, -⟩ := hK1
  simp only [S8.l_length, keysL_length] at hKA ⊢
  have hb0 : Below w.heap.size w (w.alloc (.cells #[.slice (some ⟨g0, o0, none⟩) 64 c0, .slice (some ⟨g1, o1, none⟩) 8 c1] 29)) := by go_grown
  have hc0 : (w.alloc (.cells #[.slice (some ⟨g0, o0, none⟩) 64 c0, .slice (some ⟨g1, o1, none⟩) 8 c1] 29)).heap[w.heap.size]? = some (.cells #[.slice (some ⟨g0, o0, none⟩) 64 c0, .slice (some ⟨g1, o1, none⟩) 8 c1] 29) := heap_alloc_new _ _
  have hKA0 := hKA.on hb0
  have hex := fun W h => refexpand_any (.agg #[.slice (some ⟨g0, o0, none⟩) 64 c0, .slice (some ⟨g1, o1, none⟩) 8 c1]) k wd (32 * n) hk0 hwd (by omega) W h
  rw [expL_all] at hex
  have hfr := flat_row (bl k) (bl wd) n
  obtain ⟨A, hA⟩ : ∃ A, strL (flat (rowT (bl k) (bl wd) n)) = A := ⟨_, rfl⟩
  have hAs : A.size = 32 * n := by rw [← hA, strL_size, hfr]
  have hpart : ∀ j, j < n → A.extract (32 * j) (32 * j + 32) = strL (lastT (bl k) (bl wd) (j + 1)) := fun j hj => bl_inj (by rw [bl_extract, ← hA, bl_strL, bl_strL, flat_part _ _ _ _ hj])
  rw [hA] at hex
  have hc32 : ((32 * n : Nat) : Int) = 32 * (n : Int) := by omega
  rw [hc32] at hex
  have w32 : IntKind.i64.wrap (32 * (n : Int)) = 32 * (n : Int) := IntWalk.i64_in _ (by omega)
  have HEX := Lib.hid hex; have HP := Lib.hid hpart; have HKA := Lib.hid hKA0
  clear hex hpart hKA hKA0 hc32 hA hfr
  go_enter Tryd.func21, Tryd.ntmps21
  go_upto_region 1 with fail
  generalize World.alloc w _ = W at hb0 hc0 HKA ⊢
  have e0 : W.cell? ⟨w.heap.size, 0, none⟩ = some (.slice (some ⟨g0, o0, none⟩) 64 c0) := by rw [cell_of_row _ _ _ _ _ _ hc0]; rfl
  have e1 : W.cell? ⟨w.heap.size, 1, none⟩ = some (.slice (some ⟨g1, o1, none⟩) 8 c1) := by rw [cell_of_row _ _ _ _ _ _ hc0]; rfl
  clear hc0
  go_wp2_with fail
  refine (HEX.out _ HKA.out).mono ?_
  rintro e w2 ⟨rfl, hb2⟩
  have hO0 := OwnS.empty w2 w2.heap.size (Nat.le_refl _)
  have hB2 : Below w.heap.size w w2 := hb0.trans (hb2.mono hb0.size)
  have hb3 : Below w2.heap.size w2 (w2.alloc (.cells #[] 9)) := by go_grown
  have HO := Lib.hid hO0
  clear hO0 hb0 hb2 HEX HKA e0 e1 w32
  go_wp2_with fail
  go_loopw [10, 11] (RefSplRel w2 w2.heap.size (bl k) (bl wd) n) (fun _ i _ => n - (intOf i).toNat)
  case atStart => exact ⟨0, _, _, by omega, rfl, rfl, HO.out, hb3⟩
  case round =>
    clear HO hb3
    obtain ⟨j, g, cap, hj, rfl, rfl, hO, hB⟩ := hrel
    have hsz := hB.size
    by_cases hlt : j < n
    · have l1 : (j : Int) < (n : Int) := by omega
      have w1 : IntKind.i64.wrap (32 * (j : Int)) = 32 * (j : Int) := IntWalk.i64_in _ (by omega)
      have w2' : IntKind.i64.wrap (32 * (j : Int) + 32) = 32 * (j : Int) + 32 := IntWalk.i64_in _ (by omega)
      obtain ⟨S, hS⟩ : ∃ S, strL (lastT (bl k) (bl wd) (j + 1)) = S := ⟨_, rfl⟩
      have hpt := HP.out j hlt
      rw [hS] at hpt
      have hsl : ∀ W : World, (Instr.slice 9 (.string A) (some (.int .i64 (32 * (j : Int)))) (some (.int .i64 (32 * (j : Int) + 32))) none).run Tryd.prog W = .ok (.string S) W := fun W => by
        rw [str_slice (P := Tryd.prog) 9 Tryd.underlying9 A (32 * (j : Int)) (32 * (j : Int) + 32) (32 * j) (32 * j + 32) (by omega) (by omega) (by omega) (by omega) W, hpt]
      have hrow : rowT (bl k) (bl wd) (j + 1) = rowT (bl k) (bl wd) j ++ [S] := by rw [← hS]; rfl
      have hRL := rowT_length (bl k) (bl wd) j
      obtain ⟨R, hR⟩ : ∃ R, rowT (bl k) (bl wd) j = R := ⟨_, rfl⟩
      rw [hR] at hO hrow hRL
      have HO := Lib.hid hO; have HROW := Lib.hid hrow
      clear hO hrow hR hpt hS
      go_wp2_with (at_builtin; refine append_s rfl _ _ rfl w2.heap.size _ R S wr.heap.size rfl (by rw [← hRL]; exact OwnS.alloc (by rw [hRL]; exact HO.out) _) rfl (by simp) (by omega) (by first | omega | (simp; omega)) ?_)
      intro g' cap' w5 hO5 hg5
      have hB5 := HO.out.below hB hsz hg5
      rw [← HROW.out] at hO5
      have HO5 := Lib.hid hO5
      clear hO5 hg5 hB HO
      go_wp2_with fail
      exact ⟨⟨j + 1, g', cap', by omega, by simp, by first | rfl | rw [hRL], by first | exact HO5.out | (rw [hRL] at HO5; exact HO5.out), hB5⟩, by simp [intOf]; omega⟩
    · obtain rfl : j = n := by omega
      have l1 : ¬ (j : Int) < (j : Int) := by omega
      have hstr := hO.strs (rowT_length _ _ _).symm
      have hend : Below w.heap.size w wr := hB2.trans (hB.mono hB2.size)
      have HSTR := Lib.hid hstr
      clear hstr hO hB HP
      go_wp2_with fail
      go_ret
      exact ⟨_, _, rfl, HSTR.out, hend⟩

def TextsRel (w : World) (n : Nat) (i : Value) (wr : World) : Prop := ∃ k : Nat, k ≤ n ∧ i = .int .i64 (k : Int) ∧ Bel w wr
set_option maxHeartbeats 1000000 in
theorem texts_same (g1 g2 c1 c2 n : Nat) (l : List ByteArray) (hn : n = l.length) (hl : n ≤ 1000) (w : World) (h1 : StrsAt w (.slice (some ⟨g1, 0, none⟩) n c1) l) (h2 : StrsAt w (.slice (some ⟨g2, 0, none⟩) n c2) l) :
    Calls Tryd.prog 15 #[.slice (some ⟨g1, 0, none⟩) n c1, .slice (some ⟨g2, 0, none⟩) n c2] w fun e w' => e = .returned (.bool true) ∧ Below w.heap.size w w' := by
  obtain ⟨b1, o1, d1, e1, hb1, hc1⟩ := h1
  obtain ⟨b2, o2, d2, e2, hb2, hc2⟩ := h2
  obtain ⟨rfl, rfl⟩ : g1 = b1 ∧ 0 = o1 := by have := e1; simp at this; exact this.1
  obtain ⟨rfl, h0⟩ : g2 = b2 ∧ 0 = o2 := by have := e2; simp at this; exact this.1
  subst h0
  have HC1 := Lib.hid hc1; have HC2 := Lib.hid hc2
  clear hc1 hc2 e1 e2
  go_enter Tryd.func15, Tryd.ntmps15
  go_wp2_with fail
  go_loopw [13] (TextsRel w n) (fun i _ => n - (intOf i).toNat)
  case atStart => exact ⟨0, by omega, rfl, Bel.refl _⟩
  case round =>
    obtain ⟨k, hk, rfl, hbel⟩ := hrel
    by_cases hlt : k < n
    · have l1 : (k : Int) < (n : Int) := by omega
      have q1 := HC1.out k (by omega)
      have q2 := HC2.out k (by omega)
      rw [Nat.zero_add] at q1 q2
      rw [← hbel.b.cell (p := ⟨g1, k, none⟩) hb1] at q1
      rw [← hbel.b.cell (p := ⟨g2, k, none⟩) hb2] at q2
      generalize l.getD k ⟨#[]⟩ = x at q1 q2
      have hxx : (x.toList != x.toList) = false := by simp
      go_wp2_with fail
      go_quiet (fail)
      go_wp2_with fail
      exact ⟨⟨k + 1, by omega, by simp, ⟨below_drewN hbel.b _⟩⟩, by simp [intOf]; omega⟩
    · obtain rfl : k = n := by omega
      have l1 : ¬ (k : Int) < (k : Int) := by omega
      go_wp2_with fail
      go_ret
      exact ⟨rfl, hbel.b⟩
end Go.Proofs.YtolobdeilfgmnaaDoor