/- The texts Frefe, Kt, Va, Vb, Vc, Vf, Xa, one behind the other. -/
import Derived.Test.YtfkfadcfafbmmaaDoorBg12
import Derived.Test.YtfkfadcfafbmmaaDoorBg11
import Derived.Test.YtfkfadcfafbmmaaDoorQl
import Derived.Test.YtfkfadcfafbmmaaDoorBg2
/- The contracts of the reference 04's Expand, Split and Texts. -/
namespace Go.Proofs.YtfkfadcfafbmmaaDoor
open Go.RowKit Go.Sort
set_option maxRecDepth 100000
theorem flat_succ (k wd : List UInt8) (j : Nat) : flat (rowT k wd (j + 1)) = flat (rowT k wd j) ++ lastT k wd (j + 1) := by
  unfold flat
  rw [rowT, List.flatMap_append, List.flatMap_singleton, bl_strL]
theorem lastT_succ_length (k wd : List UInt8) (j : Nat) : (lastT k wd (j + 1)).length = 32 := ofL_length _
def RefExpRel (W : World) (k wd : List UInt8) (N : Nat) (o l n : Value) (wr : World) : Prop :=
  ∃ j : Nat, j ≤ N ∧ o = .string (strL (flat (rowT k wd j))) ∧ l = .string (strL (lastT k wd j)) ∧ n = .int .i64 ((j : Int) + 1) ∧ Bel W wr

set_option maxHeartbeats 4000000 in
theorem refexpand_any (kv : Value) (k wd : ByteArray) (m : Nat) (hk0 : k.size ≤ 1000000) (hwd : wd.size ≤ 70000) (hm : m ≤ 8160) (w : World) (hk : KAt w kv) :
    Calls Tryd.prog 38 #[kv, .string k, .string wd, .int .i64 (m : Int)] w fun e w' => e = .returned (.string (strL (expL (bl k) (bl wd) m))) ∧ Below w.heap.size w w' := by
  have hKA := id hk
  obtain ⟨k0, k1, rfl, hK0, hK1⟩ := hk
  obtain ⟨g0, o0, c0, rfl, hg0, -⟩ := hK0
  obtain ⟨g1, o1, c1, rfl, hg1, -⟩ := hK1
  simp only [S8.l_length, keysL_length] at hKA ⊢
  obtain ⟨N, hN⟩ : ∃ N, (m + 31) / 32 = N := ⟨_, rfl⟩
  have hb0 : Below w.heap.size w (w.alloc (.cells #[.slice (some ⟨g0, o0, none⟩) 64 c0, .slice (some ⟨g1, o1, none⟩) 8 c1] 35)) := by go_grown
  have hc0 : (w.alloc (.cells #[.slice (some ⟨g0, o0, none⟩) 64 c0, .slice (some ⟨g1, o1, none⟩) 8 c1] 35)).heap[w.heap.size]? = some (.cells #[.slice (some ⟨g0, o0, none⟩) 64 c0, .slice (some ⟨g1, o1, none⟩) 8 c1] 35) := heap_alloc_new _ _
  have HKA := Lib.hid (hKA.on hb0)
  clear hKA
  go_enter Tryd.func38, Tryd.ntmps38
  go_upto_region 1 with fail
  generalize World.alloc w _ = W at hb0 hc0 HKA ⊢
  have HC0 := Lib.hid hc0
  have hltW : w.heap.size < W.heap.size := (Array.getElem?_eq_some_iff.1 hc0).1
  clear hc0
  go_wp2_with fail
  go_loopw [9, 10, 11] (RefExpRel W (bl k) (bl wd) N) (fun _ _ n _ => N + 1 - (intOf n).toNat)
  case atStart => exact ⟨0, by omega, rfl, rfl, rfl, Bel.refl _⟩
  case round =>
    obtain ⟨j, hj, rfl, rfl, rfl, hbel⟩ := hrel
    have hfs : (strL (flat (rowT (bl k) (bl wd) j))).size = 32 * j := by rw [strL_size, flat_row]
    obtain ⟨o, ho⟩ : ∃ o, strL (flat (rowT (bl k) (bl wd) j)) = o := ⟨_, rfl⟩
    rw [ho] at hfs ⊢
    by_cases hlt : j < N
    · have l1 : (o.size : Int) < (m : Int) := by omega
      have hcr : wr.heap[w.heap.size]? = some (.cells #[.slice (some ⟨g0, o0, none⟩) 64 c0, .slice (some ⟨g1, o1, none⟩) 8 c1] 35) := by rw [hbel.b.block _ hltW]; exact HC0.out
      have e0 : wr.cell? ⟨w.heap.size, 0, none⟩ = some (.slice (some ⟨g0, o0, none⟩) 64 c0) := by rw [cell_of_row _ _ _ _ _ _ hcr]; rfl
      have e1 : wr.cell? ⟨w.heap.size, 1, none⟩ = some (.slice (some ⟨g1, o1, none⟩) 8 c1) := by rw [cell_of_row _ _ _ _ _ _ hcr]; rfl
      obtain ⟨y, hy⟩ : ∃ y, UInt8.ofNat (j + 1) = y := ⟨_, rfl⟩
      have hyv : ((j : Int) + 1) = (y.toNat : Int) := by
        have h := byte_of (j + 1)
        rw [hy] at h
        rw [← h, IntKind.wrap_u8]
        omega
      have hone := one_text y ((j : Int) + 1) hyv
      have w8 : IntKind.u8.wrap ((j : Int) + 1) = (j : Int) + 1 := by rw [IntKind.wrap_u8]; omega
      have w64 : IntKind.i64.wrap ((j : Int) + 1 + 1) = (j : Int) + 1 + 1 := IntWalk.i64_in _ (by omega)
      have hll := lastT_length (bl k) (bl wd) j
      obtain ⟨la, hla⟩ : ∃ la, strL (lastT (bl k) (bl wd) j) = la := ⟨_, rfl⟩
      have hlas : la.size ≤ 32 := by rw [← hla, strL_size]; exact hll
      rw [hla]
      obtain ⟨p1, hp1⟩ : ∃ p1, la ++ wd = p1 := ⟨_, rfl⟩
      have hp1s : p1.size ≤ 70100 := by rw [← hp1, ByteArray.size_append]; omega
      have hcat1 : ∀ W : World, (Op.stringOp .add la wd).run Tryd.prog W = .ok (.string p1) W := fun W => by rw [run_string_add_sum W _ _ (by omega), hp1]
      have hns1 : (9223372036854775807 < la.size + wd.size) = False := by simp; omega
      have h1s : (strL [y]).size = 1 := by rw [strL_size]; rfl
      obtain ⟨p2, hp2⟩ : ∃ p2, p1 ++ strL [y] = p2 := ⟨_, rfl⟩
      have hp2s : p2.size ≤ 70200 := by rw [← hp2, ByteArray.size_append]; omega
      have hcat2 : ∀ W : World, (Op.stringOp .add p1 (strL [y])).run Tryd.prog W = .ok (.string p2) W := fun W => by rw [run_string_add_sum W _ _ (by omega), hp2]
      have hns2 : (9223372036854775807 < p1.size + (strL [y]).size) = False := by simp; omega
      have hnx : strL (tagL (bl k) (bl p2)) = strL (lastT (bl k) (bl wd) (j + 1)) := by
        rw [← hp2, bl_append, ← hp1, bl_append, ← hla, bl_strL, bl_strL, ← hy]; rfl
      have htg := fun W h => reftag_any (.agg #[.slice (some ⟨g0, o0, none⟩) 64 c0, .slice (some ⟨g1, o1, none⟩) 8 c1]) k p2 hk0 (by omega) W h
      obtain ⟨S, hS⟩ : ∃ S, strL (lastT (bl k) (bl wd) (j + 1)) = S := ⟨_, rfl⟩
      rw [hnx, hS] at htg
      have hSs : S.size = 32 := by rw [← hS, strL_size, lastT_succ_length]
      obtain ⟨o2, ho2⟩ : ∃ o2, o ++ S = o2 := ⟨_, rfl⟩
      have hcat3 : ∀ W : World, (Op.stringOp .add o S).run Tryd.prog W = .ok (.string o2) W := fun W => by rw [run_string_add_sum W _ _ (by omega), ho2]
      have hns3 : (9223372036854775807 < o.size + S.size) = False := by simp; omega
      have hfin : strL (flat (rowT (bl k) (bl wd) (j + 1))) = o2 := by
        rw [flat_succ, ← strL_append, ho, hS, ho2]
      have HTG := Lib.hid htg; have HS := Lib.hid hS; have HFIN := Lib.hid hfin; have HKR := Lib.hid (HKA.out.on hbel.b)
      clear htg hS hfin hnx hp1 hp2 hla hll ho ho2 hy hyv hcr hSs hp1s hp2s hlas h1s
      go_wp2_with fail
      have hb2 : Below wr.heap.size wr (wr.alloc (.cells #[.int .u8 ((j : Int) + 1)] 5)) := by go_grown
      refine (HTG.out _ (HKR.out.on hb2)).mono ?_
      rintro e w4 ⟨rfl, hb4⟩
      have hbel4 : Bel W w4 := (hbel.on hb2).on hb4
      clear hb2 hb4 hbel HTG HKR e0 e1
      go_wp2_with fail
      exact ⟨⟨j + 1, by omega, by rw [HFIN.out], by rw [HS.out], by simp, hbel4⟩, by simp [intOf]; omega⟩
    · have ej : j = N := by omega
      have l1 : ¬ (o.size : Int) < (m : Int) := by omega
      have l2 : (m : Int) ≤ (o.size : Int) := by omega
      obtain ⟨p, hp⟩ : ∃ p, o.extract 0 m = p := ⟨_, rfl⟩
      have hfin : strL (expL (bl k) (bl wd) m) = p := by
        refine bl_inj ?_
        rw [bl_strL, ← hp, bl_extract, List.drop_zero, ← ho, bl_strL, ej, ← hN]; rfl
      have hsl : ∀ W : World, (Instr.slice 9 (.string o) none (some (.int .i64 (m : Int))) none).run Tryd.prog W = .ok (.string p) W := by
        clear hfs hfin ho; intro W; rw [← hp]; go_simp
      have hend : Below w.heap.size w wr := hb0.trans (hbel.b.mono hb0.size)
      have HFIN := Lib.hid hfin
      clear hfin hp ho hfs hN hb0 hbel HKA HC0
      go_wp2_with fail
      go_ret
      exact ⟨by rw [HFIN.out]; rfl, hend⟩

theorem flat_part (k wd : List UInt8) (n i : Nat) (h : i < n) : ((flat (rowT k wd n)).take (32 * i + 32)).drop (32 * i) = lastT k wd (i + 1) := by
  obtain ⟨t, ht⟩ : ∃ t, flat (rowT k wd n) = flat (rowT k wd (i + 1)) ++ t := by
    induction n with
    | zero => omega
    | succ n ih =>
      by_cases hn : i < n
      · obtain ⟨t, ht⟩ := ih hn
        exact ⟨t ++ lastT k wd (n + 1), by rw [flat_succ, ht, List.append_assoc]⟩
      · obtain rfl : i = n := by omega
        exact ⟨[], by simp⟩
  have hl : (flat (rowT k wd (i + 1))).length = 32 * i + 32 := by rw [flat_row]; omega
  rw [ht, List.take_append_of_le_length (by omega), List.take_of_length_le (by omega), flat_succ, List.drop_left' (flat_row _ _ _)]
theorem expL_all (k wd : List UInt8) (n : Nat) : expL k wd (32 * n) = flat (rowT k wd n) := by
  unfold expL
  rw [show (32 * n + 31) / 32 = n by omega, List.take_of_length_le]
  rw [flat_row]; omega
def RefSplRel (V : World) (n1 : Nat) (k wd : List UInt8) (n : Nat) (v i : Value) (wr : World) : Prop :=
  ∃ j g cap : Nat, j ≤ n ∧ i = .int .i64 (j : Int) ∧ v = .slice (some ⟨g, 0, none⟩) j cap ∧ OwnS wr n1 v (rowT k wd j) ∧ Below n1 V wr

set_option maxHeartbeats 4000000 in
theorem refsplit_any (kv : Value) (k wd : ByteArray) (n : Nat) (hk0 : k.size ≤ 1000000) (hwd : wd.size ≤ 70000) (hn : n ≤ 255) (w : World) (hk : KAt w kv) :
    Calls Tryd.prog 32 #[kv, .string k, .string wd, .int .i64 (n : Int)] w fun e w' => ∃ g cap, e = .returned (.slice (some ⟨g, 0, none⟩) n cap) ∧ StrsAt w' (.slice (some ⟨g, 0, none⟩) n cap) (rowT (bl k) (bl wd) n) ∧ Below w.heap.size w w' := by
  have hKA := id hk
  obtain ⟨k0, k1, rfl, hK0, hK1⟩ := hk
  obtain ⟨g0, o0, c0, rfl, hg0, -⟩ := hK0
  obtain ⟨g1, o1, c1, rfl, hg1, -⟩ := hK1
  simp only [S8.l_length, keysL_length] at hKA ⊢
  have hb0 : Below w.heap.size w (w.alloc (.cells #[.slice (some ⟨g0, o0, none⟩) 64 c0, .slice (some ⟨g1, o1, none⟩) 8 c1] 35)) := by go_grown
  have hc0 : (w.alloc (.cells #[.slice (some ⟨g0, o0, none⟩) 64 c0, .slice (some ⟨g1, o1, none⟩) 8 c1] 35)).heap[w.heap.size]? = some (.cells #[.slice (some ⟨g0, o0, none⟩) 64 c0, .slice (some ⟨g1, o1, none⟩) 8 c1] 35) := heap_alloc_new _ _
  have hKA0 := hKA.on hb0
  have hex := fun W h => refexpand_any (.agg #[.slice (some ⟨g0, o0, none⟩) 64 c0, .slice (some ⟨g1, o1, none⟩) 8 c1]) k wd (32 * n) hk0 hwd (by omega) W h
  rw [expL_all] at hex
  have hfr := flat_row (bl k) (bl wd) n
  obtain ⟨A, hA⟩ : ∃ A, strL (flat (rowT (bl k) (bl wd) n)) = A := ⟨_, rfl⟩
  have hAs : A.size = 32 * n := by rw [← hA, strL_size, hfr]
  have hpart : ∀ j, j < n → A.extract (32 * j) (32 * j + 32) = strL (lastT (bl k) (bl wd) (j + 1)) := fun j hj => bl_inj (by rw [bl_extract, ← hA, bl_strL, bl_strL, flat_part _ _ _ _ hj])
  rw [hA] at hex
  have hc32 : ((32 * n : Nat) : Int) = 32 * (n : Int) := by omega
  rw [hc32] at hex
  have w32 : IntKind.i64.wrap (32 * (n : Int)) = 32 * (n : Int) := IntWalk.i64_in _ (by omega)
  have HEX := Lib.hid hex; have HP := Lib.hid hpart; have HKA := Lib.hid hKA0
  clear hex hpart hKA hKA0 hc32 hA hfr
  go_enter Tryd.func32, Tryd.ntmps32
  go_upto_region 1 with fail
  generalize World.alloc w _ = W at hb0 hc0 HKA ⊢
  have e0 : W.cell? ⟨w.heap.size, 0, none⟩ = some (.slice (some ⟨g0, o0, none⟩) 64 c0) := by rw [cell_of_row _ _ _ _ _ _ hc0]; rfl
  have e1 : W.cell? ⟨w.heap.size, 1, none⟩ = some (.slice (some ⟨g1, o1, none⟩) 8 c1) := by rw [cell_of_row _ _ _ _ _ _ hc0]; rfl
  clear hc0
  go_wp2_with fail
  refine (HEX.out _ HKA.out).mono ?_
  rintro e w2 ⟨rfl, hb2⟩
  have hO0 := OwnS.empty w2 w2.heap.size (Nat.le_refl _)
  have hB2 : Below w.heap.size w w2 := hb0.trans (hb2.mono hb0.size)
  have hb3 : Below w2.heap.size w2 (w2.alloc (.cells #[] 9)) := by go_grown
  have HO := Lib.hid hO0
  clear hO0 hb0 hb2 HEX HKA e0 e1 w32
  go_wp2_with fail
  go_loopw [10, 11] (RefSplRel w2 w2.heap.size (bl k) (bl wd) n) (fun _ i _ => n - (intOf i).toNat)
  case atStart => exact ⟨0, _, _, by omega, rfl, rfl, HO.out, hb3⟩
  case round =>
    clear HO hb3
    obtain ⟨j, g, cap, hj, rfl, rfl, hO, hB⟩ := hrel
    have hsz := hB.size
    by_cases hlt : j < n
    · have l1 : (j : Int) < (n : Int) := by omega
      have w1 : IntKind.i64.wrap (32 * (j : Int)) = 32 * (j : Int) := IntWalk.i64_in _ (by omega)
      have w2' : IntKind.i64.wrap (32 * (j : Int) + 32) = 32 * (j : Int) + 32 := IntWalk.i64_in _ (by omega)
      obtain ⟨S, hS⟩ : ∃ S, strL (lastT (bl k) (bl wd) (j + 1)) = S := ⟨_, rfl⟩
      have hpt := HP.out j hlt
      rw [hS] at hpt
      have hsl : ∀ W : World, (Instr.slice 9 (.string A) (some (.int .i64 (32 * (j : Int)))) (some (.int .i64 (32 * (j : Int) + 32))) none).run Tryd.prog W = .ok (.string S) W := fun W => by
        rw [str_slice (P := Tryd.prog) 9 Tryd.underlying9 A (32 * (j : Int)) (32 * (j : Int) + 32) (32 * j) (32 * j + 32) (by omega) (by omega) (by omega) (by omega) W, hpt]
      have hrow : rowT (bl k) (bl wd) (j + 1) = rowT (bl k) (bl wd) j ++ [S] := by rw [← hS]; rfl
      have hRL := rowT_length (bl k) (bl wd) j
      obtain ⟨R, hR⟩ : ∃ R, rowT (bl k) (bl wd) j = R := ⟨_, rfl⟩
      rw [hR] at hO hrow hRL
      have HO := Lib.hid hO; have HROW := Lib.hid hrow
      clear hO hrow hR hpt hS
      go_wp2_with (at_builtin; refine append_s rfl _ _ rfl w2.heap.size _ R S wr.heap.size rfl (by rw [← hRL]; exact OwnS.alloc (by rw [hRL]; exact HO.out) _) rfl (by simp) (by omega) (by first | omega | (simp; omega)) ?_)
      intro g' cap' w5 hO5 hg5
      have hB5 := HO.out.below hB hsz hg5
      rw [← HROW.out] at hO5
      have HO5 := Lib.hid hO5
      clear hO5 hg5 hB HO
      go_wp2_with fail
      exact ⟨⟨j + 1, g', cap', by omega, by simp, by first | rfl | rw [hRL], by first | exact HO5.out | (rw [hRL] at HO5; exact HO5.out), hB5⟩, by simp [intOf]; omega⟩
    · obtain rfl : j = n := by omega
      have l1 : ¬ (j : Int) < (j : Int) := by omega
      have hstr := hO.strs (rowT_length _ _ _).symm
      have hend : Below w.heap.size w wr := hB2.trans (hB.mono hB2.size)
      have HSTR := Lib.hid hstr
      clear hstr hO hB HP
      go_wp2_with fail
      go_ret
      exact ⟨_, _, rfl, HSTR.out, hend⟩

end Go.Proofs.YtfkfadcfafbmmaaDoor

/- Structs of two cells in memory; more of rows of the call's own. -/
namespace Go.Proofs.YtfkfadcfafbmmaaDoor
open Go.RowKit
set_option maxRecDepth 100000
theorem store2 {w : World} {B : Nat} {a b : Value} {t : TypeId} (h : w.heap[B]? = some (.cells #[a, b] t (0, 0))) (x y : Value) :
    ((w.setCell ⟨B, 0, none⟩ x).setCell ⟨B, 1, none⟩ y).heap[B]? = some (.cells #[x, y] t (0, 0)) := by
  have h1 := heap_setCell_same w B 0 _ t x h
  have h2 := heap_setCell_same _ B 1 _ t y h1
  rw [h2]
  simp
theorem below2 {w0 w : World} {n B : Nat} (h : Below n w0 w) (hB : n ≤ B) (a b : Value) : Below n w0 ((w.setCell ⟨B, 0, none⟩ a).setCell ⟨B, 1, none⟩ b) :=
  (h.setCell (p := ⟨B, 0, none⟩) hB a).setCell (p := ⟨B, 1, none⟩) hB b
theorem OwnS.form {w : World} {base : Nat} {v : Value} {l : List ByteArray} (h : OwnS w base v l) : ∃ a c, v = .slice a l.length c ∧ l.length ≤ c ∧ (0 < l.length → ∃ g, a = some ⟨g, 0, none⟩) := by
  rcases h.2 with ⟨e, h0⟩ | ⟨g, cap, cur, e, -, -, hc, -⟩
  · exact ⟨none, 0, by rw [e, h0], by omega, fun h => by omega⟩
  · exact ⟨_, _, e, hc, fun _ => ⟨g, rfl⟩⟩
theorem own_ne {W : World} {base : Nat} {e : TypeId} {size : Nat} {v : Value} {k : Nat} {xs : List Value} (h : W.ownsRow base e size v k xs) (j : Nat) (hj : j < base) : some j ≠ v.ownBlock := by
  intro e'
  have := (h.lt j e'.symm).1
  omega
theorem own_base {W : World} {base base' : Nat} {e : TypeId} {size : Nat} {v : Value} {k : Nat} {xs : List Value} (h : W.ownsRow base e size v k xs) (hb : base' ≤ base) : W.ownsRow base' e size v k xs := by
  refine ⟨h.1, ?_⟩
  rcases h.2 with hn | ⟨g, cap, cur, hv, hbg, rest⟩
  · exact .inl hn
  · exact .inr ⟨g, cap, cur, hv, Nat.le_trans hb hbg, rest⟩
theorem below_none {W W' : World} (hb : Below W.heap.size W W') : W.grownBy W' none := ⟨hb.os, hb.tape, hb.output, hb.size, fun k hk _ => hb.block k hk⟩
end Go.Proofs.YtfkfadcfafbmmaaDoor

/- Chains of keys in plain mathematics: a chain's steps, one behind the other. -/
namespace Go.Proofs.YtfkfadcfafbmmaaDoor
open Go.RowKit
set_option maxRecDepth 100000
def rtWord : ByteArray := ⟨#[114, 111, 111, 116]⟩
def stWord : ByteArray := ⟨#[115, 116, 101, 112]⟩
/-- the first of two keys of a secret, by a word -/
def spA (k wd : ByteArray) : ByteArray := strL (lastT (bl k) (bl wd) 1)
/-- the second -/
def spB (k wd : ByteArray) : ByteArray := strL (lastT (bl k) (bl wd) 2)
theorem spA_size (k wd : ByteArray) : (spA k wd).size = 32 := by unfold spA; rw [strL_size]; exact ofL_length _
theorem spB_size (k wd : ByteArray) : (spB k wd).size = 32 := by unfold spB; rw [strL_size]; exact ofL_length _
theorem row2 (k wd : ByteArray) : rowT (bl k) (bl wd) 2 = [spA k wd, spB k wd] := rfl
/-- a chain behind so many steps -/
def runC (c : ByteArray) : Nat → ByteArray
  | 0 => c
  | n + 1 => spA (runC c n) stWord
/-- so many steps of a chain: of each the next chain, and a message's key -/
def stepsL (c : ByteArray) : Nat → List (ByteArray × ByteArray)
  | 0 => []
  | n + 1 => stepsL c n ++ [(spA (runC c n) stWord, spB (runC c n) stWord)]
/-- the keys of so many steps -/
def runK (c : ByteArray) (n : Nat) : List ByteArray := (stepsL c n).map Prod.snd
theorem runC_size (c : ByteArray) (hc : c.size = 32) (n : Nat) : (runC c n).size = 32 := by
  cases n with
  | zero => exact hc
  | succ n => exact spA_size _ _
theorem stepsL_length (c : ByteArray) (n : Nat) : (stepsL c n).length = n := by
  induction n with
  | zero => rfl
  | succ n ih => simp [stepsL, ih]
theorem runK_length (c : ByteArray) (n : Nat) : (runK c n).length = n := by simp [runK, stepsL_length]
theorem runK_succ (c : ByteArray) (n : Nat) : runK c (n + 1) = runK c n ++ [spB (runC c n) stWord] := by simp [runK, stepsL]
/-- so many steps, and then others, are as many at once -/
theorem runC_add (c : ByteArray) (a b : Nat) : runC c (a + b) = runC (runC c a) b := by
  induction b with
  | zero => rfl
  | succ b ih => rw [← Nat.add_assoc, runC, ih, runC]
theorem runK_add (c : ByteArray) (a b : Nat) : runK c (a + b) = runK c a ++ runK (runC c a) b := by
  induction b with
  | zero => simp [runK, stepsL]
  | succ b ih => rw [← Nat.add_assoc, runK_succ, ih, runK_succ, runC_add, List.append_assoc]
/-- the chain that the last of some steps comes to -/
def atC (c : ByteArray) (xs : List (ByteArray × ByteArray)) : ByteArray := match xs.getLast? with | none => c | some p => p.1
theorem atC_snoc (c : ByteArray) (xs : List (ByteArray × ByteArray)) (p : ByteArray × ByteArray) : atC c (xs ++ [p]) = p.1 := by unfold atC; simp
theorem atC_steps (c : ByteArray) (n : Nat) : atC c (stepsL c n) = runC c n := by
  cases n with
  | zero => rfl
  | succ n => rw [stepsL, atC_snoc, runC]
end Go.Proofs.YtfkfadcfafbmmaaDoor

/- chain's smallest functions: whether a key may be; a secret split to two. -/
namespace Go.Proofs.YtfkfadcfafbmmaaDoor
open Go.RowKit
set_option maxRecDepth 100000
theorem isKeyC_any (s : ByteArray) (w : World) :
    Calls Tryd.prog 26 #[.string s] w fun e w' => e = .returned (.bool (decide (s.size = 32))) ∧ w = w' := by
  have h : ((s.size : Int) == 32) = decide (s.size = 32) := by
    rw [Bool.eq_iff_iff, beq_iff_eq, decide_eq_true_iff]; omega
  go_enter Tryd.func26, Tryd.ntmps26
  go_wp2
  go_ret
  exact ⟨rfl, rfl⟩
set_option maxHeartbeats 1000000 in
theorem splitC_any (k wd : ByteArray) (hk : k.size ≤ 1000000) (hwd : wd.size ≤ 80000) (w : World) (hF : FirstAt w) (hK : KeysAt w) :
    Calls Tryd.prog 36 #[.string k, .string wd] w fun e w' => e = .returned (.tuple #[.string (spA k wd), .string (spB k wd)]) ∧ Below w.heap.size w w' := by
  have hs := split_good k wd 2 hk hwd (by omega) w hF hK
  rw [row2] at hs
  generalize spA k wd = A at hs ⊢
  generalize spB k wd = B at hs ⊢
  have HS := Lib.hid hs
  clear hs hF hK
  go_enter Tryd.func36, Tryd.ntmps36
  go_wp2_with fail
  refine HS.out.mono ?_
  rintro e w1 ⟨g, cap, rfl, hl, -, hb1⟩
  obtain ⟨b, o, c, e0, hlt, hcl⟩ := hl
  obtain ⟨⟨rfl, rfl⟩, rfl⟩ : (g = b ∧ 0 = o) ∧ cap = c := by simpa using e0
  have c0 : w1.cell? ⟨g, 0, none⟩ = some (.string A) := hcl 0 (by simp)
  have c1 : w1.cell? ⟨g, 1, none⟩ = some (.string B) := hcl 1 (by simp)
  have HB := Lib.hid hb1
  clear HS hb1 hcl e0 hlt
  go_wp2_with fail
  go_quiet (fail)
  go_wp2_with fail
  go_ret2
  exact ⟨rfl, below_drewN HB.out _⟩
end Go.Proofs.YtfkfadcfafbmmaaDoor

/- chain's Root and Step. -/
namespace Go.Proofs.YtfkfadcfafbmmaaDoor
open Go.RowKit
set_option maxRecDepth 100000
/-- a root's step, with a shared point: the next root -/
def rootA (r s : ByteArray) : ByteArray := spA (strL (tagL (bl r) (bl s))) rtWord
/-- a chain -/
def rootB (r s : ByteArray) : ByteArray := spB (strL (tagL (bl r) (bl s))) rtWord
end Go.Proofs.YtfkfadcfafbmmaaDoor

/- The reference 10: a chain's step, a root's. -/
namespace Go.Proofs.YtfkfadcfafbmmaaDoor
open Go.RowKit Go.Sort
set_option maxRecDepth 100000
set_option maxHeartbeats 4000000 in
theorem refstepC_any (kv : Value) (k : ByteArray) (hk0 : k.size ≤ 1000000) (w : World) (hk : KAt w kv) :
    Calls Tryd.prog 21 #[kv, .string k] w fun e w' => e = .returned (.agg #[.string (spA k stWord), .string (spB k stWord)]) ∧ Below w.heap.size w w' := by
  have hKA := id hk
  obtain ⟨k0, k1, rfl, hK0, hK1⟩ := hk
  obtain ⟨g0, o0, c0, rfl, hg0, -⟩ := hK0
  obtain ⟨g1, o1, c1, rfl, hg1, -⟩ := hK1
  simp only [S8.l_length, keysL_length] at hKA ⊢
  have hb0 : Below w.heap.size w ((w.alloc (.cells #[.slice (some ⟨g0, o0, none⟩) 64 c0, .slice (some ⟨g1, o1, none⟩) 8 c1] 35)).alloc (.cells #[.string ⟨#[]⟩, .string ⟨#[]⟩] 55)) := by go_grown
  have hc0 : ((w.alloc (.cells #[.slice (some ⟨g0, o0, none⟩) 64 c0, .slice (some ⟨g1, o1, none⟩) 8 c1] 35)).alloc (.cells #[.string ⟨#[]⟩, .string ⟨#[]⟩] 55)).heap[w.heap.size]? = some (.cells #[.slice (some ⟨g0, o0, none⟩) 64 c0, .slice (some ⟨g1, o1, none⟩) 8 c1] 35) := heap_alloc2_old _ _ _
  have hr0 : ((w.alloc (.cells #[.slice (some ⟨g0, o0, none⟩) 64 c0, .slice (some ⟨g1, o1, none⟩) 8 c1] 35)).alloc (.cells #[.string ⟨#[]⟩, .string ⟨#[]⟩] 55)).heap[w.heap.size + 1]? = some (.cells #[.string ⟨#[]⟩, .string ⟨#[]⟩] 55) := heap_alloc2_new _ _ _
  have hKA0 := hKA.on hb0
  obtain ⟨W, hW⟩ : ∃ W, (w.alloc (.cells #[.slice (some ⟨g0, o0, none⟩) 64 c0, .slice (some ⟨g1, o1, none⟩) 8 c1] 35)).alloc (.cells #[.string ⟨#[]⟩, .string ⟨#[]⟩] 55) = W := ⟨_, rfl⟩
  rw [hW] at hb0 hc0 hr0 hKA0
  have hs := refsplit_any _ k stWord 2 hk0 (by decide) (by omega) W hKA0
  rw [row2] at hs
  generalize spA k stWord = A at hs ⊢
  generalize spB k stWord = B at hs ⊢
  unfold stWord at hs
  have e0 : W.cell? ⟨w.heap.size, 0, none⟩ = some (.slice (some ⟨g0, o0, none⟩) 64 c0) := by rw [cell_of_row _ _ _ _ _ _ hc0]; rfl
  have e1 : W.cell? ⟨w.heap.size, 1, none⟩ = some (.slice (some ⟨g1, o1, none⟩) 8 c1) := by rw [cell_of_row _ _ _ _ _ _ hc0]; rfl
  have HS := Lib.hid hs; have HB0 := Lib.hid hb0; have HR0 := Lib.hid hr0; have HW := Lib.hid hW
  clear hs hb0 hr0 hc0 hKA hKA0 hW hk0
  go_enter Tryd.func21, Tryd.ntmps21
  go_upto_region 1 with fail
  rw [HW.out]
  have hlW : w.heap.size + 1 < W.heap.size := (Array.getElem?_eq_some_iff.1 HR0.out).1
  clear HW
  go_wp2_with fail
  refine HS.out.mono ?_
  rintro e w1 ⟨g, cap, rfl, hl, hb1⟩
  have hBw := HB0.out.trans (hb1.mono HB0.out.size)
  have hr1 : w1.heap[w.heap.size + 1]? = some (.cells #[.string ⟨#[]⟩, .string ⟨#[]⟩] 55) := by rw [hb1.block _ hlW]; exact HR0.out
  obtain ⟨b, o, c, ee, hlt, hcl⟩ := hl
  obtain ⟨⟨rfl, rfl⟩, rfl⟩ : (g = b ∧ 0 = o) ∧ cap = c := by simpa using ee
  have c0 : w1.cell? ⟨g, 0, none⟩ = some (.string A) := hcl 0 (by simp)
  have c1 : w1.cell? ⟨g, 1, none⟩ = some (.string B) := hcl 1 (by simp)
  have q0 := cell_regrown c0; have q1 := cell_regrown c1
  have HR1 := Lib.hid hr1; have HBW := Lib.hid hBw
  clear HS HB0 HR0 hb1 hBw hr1 ee hcl c0 c1 e0 e1 hlW
  go_upto_region 2 with fail
  refine wp_region_last_below 7 _ (by kernel_rfl) rfl rfl rfl rfl (by kernel_rfl) (by kernel_rfl) ?_
  simp only [List.take_succ_cons, List.take_zero]
  iterate 7 (quiet_step (fail))
  refine wpQuiet_nil ?_
  intro _ hw'
  obtain ⟨⟨dq, osq⟩, hw''⟩ := hw'
  subst hw''
  have hb := below_regrown w1 dq osq
  have hR : w.heap.size + 1 < w1.heap.size := (Array.getElem?_eq_some_iff.1 HR1.out).1
  have hBW := HBW.out.trans (hb.mono HBW.out.size)
  have hr2 : (grow (redrawn w1 dq) osq).heap[w.heap.size + 1]? = some (.cells #[.string ⟨#[]⟩, .string ⟨#[]⟩] 55) := by rw [hb.block _ hR]; exact HR1.out
  clear q0 q1 hb hR HR1 HBW hlt
  generalize grow (redrawn w1 dq) osq = W1 at hBW hr2 ⊢
  have r0 : W1.cell? ⟨w.heap.size + 1, 0, none⟩ = some (.string ⟨#[]⟩) := by rw [cell_of_row _ _ _ _ _ _ hr2]; rfl
  have r1 : W1.cell? ⟨w.heap.size + 1, 1, none⟩ = some (.string ⟨#[]⟩) := by rw [cell_of_row _ _ _ _ _ _ hr2]; rfl
  have f0 := frozen_of_row W1 (w.heap.size + 1) 0 _ _ hr2
  have f1 := frozen_of_row W1 (w.heap.size + 1) 1 _ _ hr2
  have HSS := Lib.hid (store2 hr2 (.string A) (.string B)); have HBS := Lib.hid (below2 hBW (Nat.le_succ _) (.string A) (.string B))
  clear hr2 hBW
  go_wp2_with fail
  clear r0 r1 f0 f1
  generalize World.setCell (World.setCell W1 _ _) _ _ = V at HSS HBS ⊢
  have s0 : V.cell? ⟨w.heap.size + 1, 0, none⟩ = some (.string A) := by rw [cell_of_row _ _ _ _ _ _ HSS.out]; rfl
  have s1 : V.cell? ⟨w.heap.size + 1, 1, none⟩ = some (.string B) := by rw [cell_of_row _ _ _ _ _ _ HSS.out]; rfl
  refine bodyPost_ret (v := .agg #[.string A, .string B]) (by simp [results, Tryd.results21, go_sem, s0, s1]) rfl ⟨rfl, HBS.out⟩
end Go.Proofs.YtfkfadcfafbmmaaDoor

/- Tables of kept keys in plain mathematics: what may be, a key put, found, taken away. -/
namespace Go.Proofs.YtfkfadcfafbmmaaDoor
open Go.RowKit
set_option maxRecDepth 100000
/-- a kept key -/
structure Kk where
  r : ByteArray
  n : Nat
  k : ByteArray
  deriving DecidableEq
def sizedK (x : Kk) : Prop := x.r.size = 32 ∧ x.k.size = 32
instance (x : Kk) : Decidable (sizedK x) := inferInstanceAs (Decidable (_ ∧ _))
/-- is it that ratchet's, of that number? -/
def isK (r : ByteArray) (n : Nat) (x : Kk) : Bool := decide (x.r = r ∧ x.n = n)
/-- the place of a ratchet's number -/
def atK (l : List Kk) (r : ByteArray) (n : Nat) : Option Nat := l.findIdx? (isK r n)
/-- no two of the same ratchet and number -/
def aloneK : List Kk → Prop
  | [] => True
  | x :: l => (∀ y ∈ l, ¬ (x.r = y.r ∧ x.n = y.n)) ∧ aloneK l
structure rightK (l : List Kk) : Prop where
  few : l.length ≤ 20
  sized : ∀ x ∈ l, sizedK x
  alone : aloneK l
def putK (l : List Kk) (x : Kk) : List Kk := (if l.length < 20 then l else l.drop 1) ++ [x]
def withoutK (l : List Kk) (i : Nat) : List Kk := l.eraseIdx i

theorem atK_none {l : List Kk} {r : ByteArray} {n : Nat} : atK l r n = none ↔ ∀ x ∈ l, ¬ (x.r = r ∧ x.n = n) := by
  unfold atK
  rw [List.findIdx?_eq_none_iff]
  constructor
  · intro h x hx e
    have := h x hx
    simp [isK, e] at this
  · intro h x hx
    have := h x hx
    simp only [isK, decide_eq_false_iff_not]
    exact this
theorem aloneK_append {l m : List Kk} : aloneK (l ++ m) ↔ aloneK l ∧ aloneK m ∧ ∀ x ∈ l, ∀ y ∈ m, ¬ (x.r = y.r ∧ x.n = y.n) := by
  induction l with
  | nil => simp [aloneK]
  | cons a l ih =>
    rw [List.cons_append, aloneK, aloneK, ih]
    constructor
    · rintro ⟨h1, h2, h3, h4⟩
      refine ⟨⟨fun y hy => h1 y (List.mem_append_left _ hy), h2⟩, h3, fun x hx y hy => ?_⟩
      rcases List.mem_cons.1 hx with rfl | hx
      · exact h1 y (List.mem_append_right _ hy)
      · exact h4 x hx y hy
    · rintro ⟨⟨h1, h2⟩, h3, h4⟩
      refine ⟨fun y hy => ?_, h2, h3, fun x hx y hy => h4 x (List.mem_cons_of_mem _ hx) y hy⟩
      rcases List.mem_append.1 hy with hy | hy
      · exact h1 y hy
      · exact h4 a List.mem_cons_self y hy
theorem aloneK_drop {l : List Kk} (h : aloneK l) (i : Nat) : aloneK (l.drop i) := by
  rw [← List.take_append_drop i l, aloneK_append] at h
  exact h.2.1
theorem aloneK_take {l : List Kk} (h : aloneK l) (i : Nat) : aloneK (l.take i) := by
  rw [← List.take_append_drop i l, aloneK_append] at h
  exact h.1
/-- what is left of a table where a key is put -/
def keptK (l : List Kk) : List Kk := if l.length < 20 then l else l.drop 1
theorem putK_eq (l : List Kk) (x : Kk) : putK l x = keptK l ++ [x] := rfl
theorem keptK_mem {l : List Kk} {x : Kk} (h : x ∈ keptK l) : x ∈ l := by
  unfold keptK at h
  split at h
  · exact h
  · exact List.mem_of_mem_drop h
theorem keptK_length {l : List Kk} (h : l.length ≤ 20) : (keptK l).length ≤ 19 := by
  unfold keptK
  split
  · omega
  · rw [List.length_drop]; omega
theorem rightK_kept {l : List Kk} (h : rightK l) : rightK (keptK l) := by
  refine ⟨by have := keptK_length h.few; omega, fun x hx => h.sized x (keptK_mem hx), ?_⟩
  unfold keptK
  split
  · exact h.alone
  · exact aloneK_drop h.alone 1
/-- a table that may be stays one -/
theorem rightK_put {l : List Kk} {x : Kk} (h : rightK l) (hx : sizedK x) (ha : atK l x.r x.n = none) : rightK (putK l x) := by
  have hk := rightK_kept h
  rw [putK_eq]
  refine ⟨by rw [List.length_append, List.length_singleton]; have := keptK_length h.few; omega, fun y hy => ?_, ?_⟩
  · rcases List.mem_append.1 hy with hy | hy
    · exact hk.sized y hy
    · rw [List.mem_singleton.1 hy]; exact hx
  · rw [aloneK_append]
    refine ⟨hk.alone, ⟨fun y hy => absurd hy List.not_mem_nil, trivial⟩, fun a hal y hy => ?_⟩
    rw [List.mem_singleton.1 hy]
    exact atK_none.1 ha a (keptK_mem hal)
theorem rightK_erase {l : List Kk} (h : rightK l) (i : Nat) : rightK (withoutK l i) := by
  have e : withoutK l i = l.take i ++ l.drop (i + 1) := List.eraseIdx_eq_take_drop_succ ..
  have hsub : ∀ x ∈ withoutK l i, x ∈ l := by
    intro x hx
    rw [e] at hx
    rcases List.mem_append.1 hx with hx | hx
    · exact List.mem_of_mem_take hx
    · exact List.mem_of_mem_drop hx
  refine ⟨?_, fun x hx => h.sized x (hsub x hx), ?_⟩
  · have := List.length_eraseIdx_le l i
    have := h.few
    unfold withoutK; omega
  · rw [e, aloneK_append]
    have h2 := h.alone
    rw [← List.take_append_drop (i + 1) l, aloneK_append] at h2
    refine ⟨aloneK_take h.alone i, h2.2.1, fun a ha b hb => h2.2.2 a ?_ b hb⟩
    rw [List.take_add_one]
    exact List.mem_append_left _ ha
/-- what was put stands last -/
theorem atK_put {l : List Kk} {x : Kk} (ha : atK l x.r x.n = none) : atK (putK l x) x.r x.n = some (keptK l).length := by
  have h1 : atK (keptK l) x.r x.n = none := atK_none.2 fun y hy => atK_none.1 ha y (keptK_mem hy)
  unfold atK at h1 ⊢
  rw [putK_eq, List.findIdx?_append, h1]
  simp [isK]
theorem without_put (l : List Kk) (x : Kk) : withoutK (putK l x) (keptK l).length = keptK l := by
  unfold withoutK
  rw [putK_eq, List.eraseIdx_append_of_length_le (Nat.le_refl _)]
  simp
theorem put_last (l : List Kk) (x : Kk) : (putK l x)[(keptK l).length]? = some x := by rw [putK_eq]; simp
/-- taken once: it is not there any more -/
theorem atK_kept {l : List Kk} {r : ByteArray} {n : Nat} (ha : atK l r n = none) : atK (keptK l) r n = none := atK_none.2 fun y hy => atK_none.1 ha y (keptK_mem hy)

end Go.Proofs.YtfkfadcfafbmmaaDoor
