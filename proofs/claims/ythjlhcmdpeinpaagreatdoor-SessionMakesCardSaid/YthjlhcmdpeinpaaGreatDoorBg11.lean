/- The texts Frefe, Gspec, Ha, Hb, Hc, Hd, one behind the other. -/
import Derived.Test.YthjlhcmdpeinpaaGreatDoorBg10
import Derived.Test.YthjlhcmdpeinpaaGreatDoorBg9
import Derived.Test.YthjlhcmdpeinpaaGreatDoorBg1
import Derived.Test.YthjlhcmdpeinpaaGreatDoorRows
import Derived.Test.YthjlhcmdpeinpaaGreatDoorBg3
import Derived.Test.YthjlhcmdpeinpaaGreatDoorGg1
import Derived.Test.YthjlhcmdpeinpaaGreatDoorGg9
/- The contracts of the reference 04's Expand, Split and Texts. -/
namespace Go.Proofs.YthjlhcmdpeinpaaGreatDoor
open Go.RowKit Go.Sort
set_option maxRecDepth 100000
theorem flat_succ (k wd : List UInt8) (j : Nat) : flat (rowT k wd (j + 1)) = flat (rowT k wd j) ++ lastT k wd (j + 1) := by
  unfold flat
  rw [rowT, List.flatMap_append, List.flatMap_singleton, bl_strL]
theorem lastT_succ_length (k wd : List UInt8) (j : Nat) : (lastT k wd (j + 1)).length = 32 := ofL_length _
def RefExpRel (W : World) (k wd : List UInt8) (N : Nat) (o l n : Value) (wr : World) : Prop :=
  ∃ j : Nat, j ≤ N ∧ o = .string (strL (flat (rowT k wd j))) ∧ l = .string (strL (lastT k wd j)) ∧ n = .int .i64 ((j : Int) + 1) ∧ Bel W wr

set_option maxHeartbeats 4000000 in
theorem refexpand_any (kv : Value) (k wd : ByteArray) (m : Nat) (hk0 : k.size ≤ 1000000) (hwd : wd.size ≤ 70000) (hm : m ≤ 8160) (w : World) (hk : KAt w kv) :
    Calls Tryz.prog 113 #[kv, .string k, .string wd, .int .i64 (m : Int)] w fun e w' => e = .returned (.string (strL (expL (bl k) (bl wd) m))) ∧ Below w.heap.size w w' := by
  have hKA := id hk
  obtain ⟨k0, k1, rfl, hK0, hK1⟩ := hk
  obtain ⟨g0, o0, c0, rfl, hg0, -⟩ := hK0
  obtain ⟨g1, o1, c1, rfl, hg1, -⟩ := hK1
  simp only [S8.l_length, keysL_length] at hKA ⊢
  obtain ⟨N, hN⟩ : ∃ N, (m + 31) / 32 = N := ⟨_, rfl⟩
  have hb0 : Below w.heap.size w (w.alloc (.cells #[.slice (some ⟨g0, o0, none⟩) 64 c0, .slice (some ⟨g1, o1, none⟩) 8 c1] 39)) := by go_grown
  have hc0 : (w.alloc (.cells #[.slice (some ⟨g0, o0, none⟩) 64 c0, .slice (some ⟨g1, o1, none⟩) 8 c1] 39)).heap[w.heap.size]? = some (.cells #[.slice (some ⟨g0, o0, none⟩) 64 c0, .slice (some ⟨g1, o1, none⟩) 8 c1] 39) := heap_alloc_new _ _
  have HKA := Lib.hid (hKA.on hb0)
  clear hKA
  go_enter Tryz.func113, Tryz.ntmps113
  go_upto_region 1 with fail
  generalize World.alloc w _ = W at hb0 hc0 HKA ⊢
  have HC0 := Lib.hid hc0
  have hltW : w.heap.size < W.heap.size := (Array.getElem?_eq_some_iff.1 hc0).1
  clear hc0
  go_wp2_with fail
  go_loopw [9, 10, 11] (RefExpRel W (bl k) (bl wd) N) (fun _ _ n _ => N + 1 - (intOf n).toNat)
  case atStart => exact ⟨0, by omega, rfl, rfl, rfl, Bel.refl _⟩
  case round =>
    obtain ⟨j, hj, rfl, rfl, rfl, hbel⟩ := hrel
    have hfs : (strL (flat (rowT (bl k) (bl wd) j))).size = 32 * j := by rw [strL_size, flat_row]
    obtain ⟨o, ho⟩ : ∃ o, strL (flat (rowT (bl k) (bl wd) j)) = o := ⟨_, rfl⟩
    rw [ho] at hfs ⊢
    by_cases hlt : j < N
    · have l1 : (o.size : Int) < (m : Int) := by omega
      have hcr : wr.heap[w.heap.size]? = some (.cells #[.slice (some ⟨g0, o0, none⟩) 64 c0, .slice (some ⟨g1, o1, none⟩) 8 c1] 39) := by rw [hbel.b.block _ hltW]; exact HC0.out
      have e0 : wr.cell? ⟨w.heap.size, 0, none⟩ = some (.slice (some ⟨g0, o0, none⟩) 64 c0) := by rw [cell_of_row _ _ _ _ _ _ hcr]; rfl
      have e1 : wr.cell? ⟨w.heap.size, 1, none⟩ = some (.slice (some ⟨g1, o1, none⟩) 8 c1) := by rw [cell_of_row _ _ _ _ _ _ hcr]; rfl
      obtain ⟨y, hy⟩ : ∃ y, UInt8.ofNat (j + 1) = y := ⟨_, rfl⟩
      have hyv : ((j : Int) + 1) = (y.toNat : Int) := by
        have h := byte_of (j + 1)
        rw [hy] at h
        rw [← h, IntKind.wrap_u8]
        omega
      have hone := one_text y ((j : Int) + 1) hyv
      have w8 : IntKind.u8.wrap ((j : Int) + 1) = (j : Int) + 1 := by rw [IntKind.wrap_u8]; omega
      have w64 : IntKind.i64.wrap ((j : Int) + 1 + 1) = (j : Int) + 1 + 1 := IntWalk.i64_in _ (by omega)
      have hll := lastT_length (bl k) (bl wd) j
      obtain ⟨la, hla⟩ : ∃ la, strL (lastT (bl k) (bl wd) j) = la := ⟨_, rfl⟩
      have hlas : la.size ≤ 32 := by rw [← hla, strL_size]; exact hll
      rw [hla]
      obtain ⟨p1, hp1⟩ : ∃ p1, la ++ wd = p1 := ⟨_, rfl⟩
      have hp1s : p1.size ≤ 70100 := by rw [← hp1, ByteArray.size_append]; omega
      have hcat1 : ∀ W : World, (Op.stringOp .add la wd).run Tryz.prog W = .ok (.string p1) W := fun W => by rw [run_string_add_sum W _ _ (by omega), hp1]
      have hns1 : (9223372036854775807 < la.size + wd.size) = False := by simp; omega
      have h1s : (strL [y]).size = 1 := by rw [strL_size]; rfl
      obtain ⟨p2, hp2⟩ : ∃ p2, p1 ++ strL [y] = p2 := ⟨_, rfl⟩
      have hp2s : p2.size ≤ 70200 := by rw [← hp2, ByteArray.size_append]; omega
      have hcat2 : ∀ W : World, (Op.stringOp .add p1 (strL [y])).run Tryz.prog W = .ok (.string p2) W := fun W => by rw [run_string_add_sum W _ _ (by omega), hp2]
      have hns2 : (9223372036854775807 < p1.size + (strL [y]).size) = False := by simp; omega
      have hnx : strL (tagL (bl k) (bl p2)) = strL (lastT (bl k) (bl wd) (j + 1)) := by
        rw [← hp2, bl_append, ← hp1, bl_append, ← hla, bl_strL, bl_strL, ← hy]; rfl
      have htg := fun W h => reftag_any (.agg #[.slice (some ⟨g0, o0, none⟩) 64 c0, .slice (some ⟨g1, o1, none⟩) 8 c1]) k p2 hk0 (by omega) W h
      obtain ⟨S, hS⟩ : ∃ S, strL (lastT (bl k) (bl wd) (j + 1)) = S := ⟨_, rfl⟩
      rw [hnx, hS] at htg
      have hSs : S.size = 32 := by rw [← hS, strL_size, lastT_succ_length]
      obtain ⟨o2, ho2⟩ : ∃ o2, o ++ S = o2 := ⟨_, rfl⟩
      have hcat3 : ∀ W : World, (Op.stringOp .add o S).run Tryz.prog W = .ok (.string o2) W := fun W => by rw [run_string_add_sum W _ _ (by omega), ho2]
      have hns3 : (9223372036854775807 < o.size + S.size) = False := by simp; omega
      have hfin : strL (flat (rowT (bl k) (bl wd) (j + 1))) = o2 := by
        rw [flat_succ, ← strL_append, ho, hS, ho2]
      have HTG := Lib.hid htg; have HS := Lib.hid hS; have HFIN := Lib.hid hfin; have HKR := Lib.hid (HKA.out.on hbel.b)
      clear htg hS hfin hnx hp1 hp2 hla hll ho ho2 hy hyv hcr hSs hp1s hp2s hlas h1s
      go_wp2_with fail
      have hb2 : Below wr.heap.size wr (wr.alloc (.cells #[.int .u8 ((j : Int) + 1)] 5)) := by go_grown
      refine (HTG.out _ (HKR.out.on hb2)).mono ?_
      rintro e w4 ⟨rfl, hb4⟩
      have hbel4 : Bel W w4 := (hbel.on hb2).on hb4
      clear hb2 hb4 hbel HTG HKR e0 e1
      go_wp2_with fail
      exact ⟨⟨j + 1, by omega, by rw [HFIN.out], by rw [HS.out], by simp, hbel4⟩, by simp [intOf]; omega⟩
    · have ej : j = N := by omega
      have l1 : ¬ (o.size : Int) < (m : Int) := by omega
      have l2 : (m : Int) ≤ (o.size : Int) := by omega
      obtain ⟨p, hp⟩ : ∃ p, o.extract 0 m = p := ⟨_, rfl⟩
      have hfin : strL (expL (bl k) (bl wd) m) = p := by
        refine bl_inj ?_
        rw [bl_strL, ← hp, bl_extract, List.drop_zero, ← ho, bl_strL, ej, ← hN]; rfl
      have hsl : ∀ W : World, (Instr.slice 9 (.string o) none (some (.int .i64 (m : Int))) none).run Tryz.prog W = .ok (.string p) W := by
        clear hfs hfin ho; intro W; rw [← hp]; go_simp
      have hend : Below w.heap.size w wr := hb0.trans (hbel.b.mono hb0.size)
      have HFIN := Lib.hid hfin
      clear hfin hp ho hfs hN hb0 hbel HKA HC0
      go_wp2_with fail
      go_ret
      exact ⟨by rw [HFIN.out]; rfl, hend⟩

theorem flat_part (k wd : List UInt8) (n i : Nat) (h : i < n) : ((flat (rowT k wd n)).take (32 * i + 32)).drop (32 * i) = lastT k wd (i + 1) := by
  obtain ⟨t, ht⟩ : ∃ t, flat (rowT k wd n) = flat (rowT k wd (i + 1)) ++ t := by
    induction n with
    | zero => omega
    | succ n ih =>
      by_cases hn : i < n
      · obtain ⟨t, ht⟩ := ih hn
        exact ⟨t ++ lastT k wd (n + 1), by rw [flat_succ, ht, List.append_assoc]⟩
      · obtain rfl : i = n := by omega
        exact ⟨[], by simp⟩
  have hl : (flat (rowT k wd (i + 1))).length = 32 * i + 32 := by rw [flat_row]; omega
  rw [ht, List.take_append_of_le_length (by omega), List.take_of_length_le (by omega), flat_succ, List.drop_left' (flat_row _ _ _)]
theorem expL_all (k wd : List UInt8) (n : Nat) : expL k wd (32 * n) = flat (rowT k wd n) := by
  unfold expL
  rw [show (32 * n + 31) / 32 = n by omega, List.take_of_length_le]
  rw [flat_row]; omega
def RefSplRel (V : World) (n1 : Nat) (k wd : List UInt8) (n : Nat) (v i : Value) (wr : World) : Prop :=
  ∃ j g cap : Nat, j ≤ n ∧ i = .int .i64 (j : Int) ∧ v = .slice (some ⟨g, 0, none⟩) j cap ∧ OwnS wr n1 v (rowT k wd j) ∧ Below n1 V wr

set_option maxHeartbeats 4000000 in
theorem refsplit_any (kv : Value) (k wd : ByteArray) (n : Nat) (hk0 : k.size ≤ 1000000) (hwd : wd.size ≤ 70000) (hn : n ≤ 255) (w : World) (hk : KAt w kv) :
    Calls Tryz.prog 74 #[kv, .string k, .string wd, .int .i64 (n : Int)] w fun e w' => ∃ g cap, e = .returned (.slice (some ⟨g, 0, none⟩) n cap) ∧ StrsAt w' (.slice (some ⟨g, 0, none⟩) n cap) (rowT (bl k) (bl wd) n) ∧ Below w.heap.size w w' := by
  have hKA := id hk
  obtain ⟨k0, k1, rfl, hK0, hK1⟩ := hk
  obtain ⟨g0, o0, c0, rfl, hg0, -⟩ := hK0
  obtain ⟨g1, o1, c1, rfl, hg1, -⟩ := hK1
  simp only [S8.l_length, keysL_length] at hKA ⊢
  have hb0 : Below w.heap.size w (w.alloc (.cells #[.slice (some ⟨g0, o0, none⟩) 64 c0, .slice (some ⟨g1, o1, none⟩) 8 c1] 39)) := by go_grown
  have hc0 : (w.alloc (.cells #[.slice (some ⟨g0, o0, none⟩) 64 c0, .slice (some ⟨g1, o1, none⟩) 8 c1] 39)).heap[w.heap.size]? = some (.cells #[.slice (some ⟨g0, o0, none⟩) 64 c0, .slice (some ⟨g1, o1, none⟩) 8 c1] 39) := heap_alloc_new _ _
  have hKA0 := hKA.on hb0
  have hex := fun W h => refexpand_any (.agg #[.slice (some ⟨g0, o0, none⟩) 64 c0, .slice (some ⟨g1, o1, none⟩) 8 c1]) k wd (32 * n) hk0 hwd (by omega) W h
  rw [expL_all] at hex
  have hfr := flat_row (bl k) (bl wd) n
  obtain ⟨A, hA⟩ : ∃ A, strL (flat (rowT (bl k) (bl wd) n)) = A := ⟨_, rfl⟩
  have hAs : A.size = 32 * n := by rw [← hA, strL_size, hfr]
  have hpart : ∀ j, j < n → A.extract (32 * j) (32 * j + 32) = strL (lastT (bl k) (bl wd) (j + 1)) := fun j hj => bl_inj (by rw [bl_extract, ← hA, bl_strL, bl_strL, flat_part _ _ _ _ hj])
  rw [hA] at hex
  have hc32 : ((32 * n : Nat) : Int) = 32 * (n : Int) := by omega
  rw [hc32] at hex
  have w32 : IntKind.i64.wrap (32 * (n : Int)) = 32 * (n : Int) := IntWalk.i64_in _ (by omega)
  have HEX := Lib.hid hex; have HP := Lib.hid hpart; have HKA := Lib.hid hKA0
  clear hex hpart hKA hKA0 hc32 hA hfr
  go_enter Tryz.func74, Tryz.ntmps74
  go_upto_region 1 with fail
  generalize World.alloc w _ = W at hb0 hc0 HKA ⊢
  have e0 : W.cell? ⟨w.heap.size, 0, none⟩ = some (.slice (some ⟨g0, o0, none⟩) 64 c0) := by rw [cell_of_row _ _ _ _ _ _ hc0]; rfl
  have e1 : W.cell? ⟨w.heap.size, 1, none⟩ = some (.slice (some ⟨g1, o1, none⟩) 8 c1) := by rw [cell_of_row _ _ _ _ _ _ hc0]; rfl
  clear hc0
  go_wp2_with fail
  refine (HEX.out _ HKA.out).mono ?_
  rintro e w2 ⟨rfl, hb2⟩
  have hO0 := OwnS.empty w2 w2.heap.size (Nat.le_refl _)
  have hB2 : Below w.heap.size w w2 := hb0.trans (hb2.mono hb0.size)
  have hb3 : Below w2.heap.size w2 (w2.alloc (.cells #[] 9)) := by go_grown
  have HO := Lib.hid hO0
  clear hO0 hb0 hb2 HEX HKA e0 e1 w32
  go_wp2_with fail
  go_loopw [10, 11] (RefSplRel w2 w2.heap.size (bl k) (bl wd) n) (fun _ i _ => n - (intOf i).toNat)
  case atStart => exact ⟨0, _, _, by omega, rfl, rfl, HO.out, hb3⟩
  case round =>
    clear HO hb3
    obtain ⟨j, g, cap, hj, rfl, rfl, hO, hB⟩ := hrel
    have hsz := hB.size
    by_cases hlt : j < n
    · have l1 : (j : Int) < (n : Int) := by omega
      have w1 : IntKind.i64.wrap (32 * (j : Int)) = 32 * (j : Int) := IntWalk.i64_in _ (by omega)
      have w2' : IntKind.i64.wrap (32 * (j : Int) + 32) = 32 * (j : Int) + 32 := IntWalk.i64_in _ (by omega)
      obtain ⟨S, hS⟩ : ∃ S, strL (lastT (bl k) (bl wd) (j + 1)) = S := ⟨_, rfl⟩
      have hpt := HP.out j hlt
      rw [hS] at hpt
      have hsl : ∀ W : World, (Instr.slice 9 (.string A) (some (.int .i64 (32 * (j : Int)))) (some (.int .i64 (32 * (j : Int) + 32))) none).run Tryz.prog W = .ok (.string S) W := fun W => by
        rw [str_slice (P := Tryz.prog) 9 Tryz.underlying9 A (32 * (j : Int)) (32 * (j : Int) + 32) (32 * j) (32 * j + 32) (by omega) (by omega) (by omega) (by omega) W, hpt]
      have hrow : rowT (bl k) (bl wd) (j + 1) = rowT (bl k) (bl wd) j ++ [S] := by rw [← hS]; rfl
      have hRL := rowT_length (bl k) (bl wd) j
      obtain ⟨R, hR⟩ : ∃ R, rowT (bl k) (bl wd) j = R := ⟨_, rfl⟩
      rw [hR] at hO hrow hRL
      have HO := Lib.hid hO; have HROW := Lib.hid hrow
      clear hO hrow hR hpt hS
      go_wp2_with (at_builtin; refine append_s rfl _ _ rfl w2.heap.size _ R S wr.heap.size rfl (by rw [← hRL]; exact OwnS.alloc (by rw [hRL]; exact HO.out) _) rfl (by simp) (by omega) (by first | omega | (simp; omega)) ?_)
      intro g' cap' w5 hO5 hg5
      have hB5 := HO.out.below hB hsz hg5
      rw [← HROW.out] at hO5
      have HO5 := Lib.hid hO5
      clear hO5 hg5 hB HO
      go_wp2_with fail
      exact ⟨⟨j + 1, g', cap', by omega, by simp, by first | rfl | rw [hRL], by first | exact HO5.out | (rw [hRL] at HO5; exact HO5.out), hB5⟩, by simp [intOf]; omega⟩
    · obtain rfl : j = n := by omega
      have l1 : ¬ (j : Int) < (j : Int) := by omega
      have hstr := hO.strs (rowT_length _ _ _).symm
      have hend : Below w.heap.size w wr := hB2.trans (hB.mono hB2.size)
      have HSTR := Lib.hid hstr
      clear hstr hO hB HP
      go_wp2_with fail
      go_ret
      exact ⟨_, _, rfl, HSTR.out, hend⟩

end Go.Proofs.YthjlhcmdpeinpaaGreatDoor

/- ChaCha20 by the document's words, over lists of bytes and of words. Nothing of the program stands here. -/
namespace Go.Proofs.YthjlhcmdpeinpaaGreatDoor
open Go.RowKit
set_option maxRecDepth 100000
/-- turned left -/
def rl (x : BitVec 32) (n : Nat) : BitVec 32 := x <<< n ||| x >>> (32 - n)
/-- four words -/
structure Q4 where
  a : BitVec 32
  b : BitVec 32
  c : BitVec 32
  d : BitVec 32
def qA (n : Nat) (q : Q4) : Q4 := ⟨q.a + q.b, q.b, q.c, rl (q.d ^^^ (q.a + q.b)) n⟩
def qB (n : Nat) (q : Q4) : Q4 := ⟨q.a, rl (q.b ^^^ (q.c + q.d)) n, q.c + q.d, q.d⟩
/-- mixed -/
def qtr (q : Q4) : Q4 := qB 7 (qA 8 (qB 12 (qA 16 q)))
/-- a word of four bytes, the lowest first -/
def wordLE (a b c d : UInt8) : BitVec 32 := BitVec.ofNat 32 (a.toNat + 256 * b.toNat + 65536 * c.toNat + 16777216 * d.toNat)
theorem wordLE_toNat (a b c d : UInt8) : (wordLE a b c d).toNat = a.toNat + 256 * b.toNat + 65536 * c.toNat + 16777216 * d.toNat := by
  have ha := a.toNat_lt
  have hb := b.toNat_lt
  have hc := c.toNat_lt
  have hd := d.toNat_lt
  unfold wordLE
  rw [BitVec.toNat_ofNat, Nat.mod_eq_of_lt (by omega)]
def leW (b : List UInt8) (t : Nat) : BitVec 32 := wordLE (b.getD (4 * t) 0) (b.getD (4 * t + 1) 0) (b.getD (4 * t + 2) 0) (b.getD (4 * t + 3) 0)
def leWs (b : List UInt8) : Nat → List (BitVec 32)
  | 0 => []
  | n + 1 => leWs b n ++ [leW b n]
theorem leWs_length (b : List UInt8) (n : Nat) : (leWs b n).length = n := by
  induction n with
  | zero => rfl
  | succ n ih => simp [leWs, ih]
/-- a block's words at first -/
def firstC (k : List UInt8) (n : BitVec 32) (nc : List UInt8) : List (BitVec 32) := [1634760805, 857760878, 2036477234, 1797285236] ++ leWs k 8 ++ [n] ++ leWs nc 3
theorem firstC_length (k : List UInt8) (n : BitVec 32) (nc : List UInt8) : (firstC k n nc).length = 16 := by
  simp [firstC, leWs_length]
/-- four of some words mixed -/
def mixC (l : List (BitVec 32)) (a b c d : Nat) : List (BitVec 32) :=
  (((l.set a (qtr ⟨l.getD a 0, l.getD b 0, l.getD c 0, l.getD d 0⟩).a).set b (qtr ⟨l.getD a 0, l.getD b 0, l.getD c 0, l.getD d 0⟩).b).set c (qtr ⟨l.getD a 0, l.getD b 0, l.getD c 0, l.getD d 0⟩).c).set d (qtr ⟨l.getD a 0, l.getD b 0, l.getD c 0, l.getD d 0⟩).d
theorem mixC_length (l : List (BitVec 32)) (a b c d : Nat) : (mixC l a b c d).length = l.length := by simp [mixC]
def roundC (l : List (BitVec 32)) : List (BitVec 32) :=
  mixC (mixC (mixC (mixC (mixC (mixC (mixC (mixC l 0 4 8 12) 1 5 9 13) 2 6 10 14) 3 7 11 15) 0 5 10 15) 1 6 11 12) 2 7 8 13) 3 4 9 14
theorem roundC_length (l : List (BitVec 32)) : (roundC l).length = l.length := by simp [roundC, mixC_length]
def roundsC (l : List (BitVec 32)) : Nat → List (BitVec 32)
  | 0 => l
  | n + 1 => roundC (roundsC l n)
theorem roundsC_length (l : List (BitVec 32)) (n : Nat) : (roundsC l n).length = l.length := by
  induction n with
  | zero => rfl
  | succ n ih => rw [roundsC, roundC_length, ih]
def le4 (x : BitVec 32) : List UInt8 := [UInt8.ofNat x.toNat, UInt8.ofNat (x.toNat / 256), UInt8.ofNat (x.toNat / 65536), UInt8.ofNat (x.toNat / 16777216)]
def sumC (f l : List (BitVec 32)) : Nat → List UInt8
  | 0 => []
  | n + 1 => sumC f l n ++ le4 (f.getD n 0 + l.getD n 0)
theorem sumC_length (f l : List (BitVec 32)) (n : Nat) : (sumC f l n).length = 4 * n := by
  induction n with
  | zero => rfl
  | succ n ih => rw [sumC, List.length_append, ih]; simp [le4]; omega
/-- a block -/
def blockC (k : List UInt8) (n : BitVec 32) (nc : List UInt8) : List UInt8 := sumC (firstC k n nc) (roundsC (firstC k n nc) 10) 16
theorem blockC_length (k : List UInt8) (n : BitVec 32) (nc : List UInt8) : (blockC k n nc).length = 64 := sumC_length _ _ 16
/-- the first so many blocks -/
def blocksC (k nc : List UInt8) : Nat → List UInt8
  | 0 => []
  | n + 1 => blocksC k nc n ++ blockC k (BitVec.ofNat 32 (n + 1)) nc
theorem blocksC_length (k nc : List UInt8) (n : Nat) : (blocksC k nc n).length = 64 * n := by
  induction n with
  | zero => rfl
  | succ n ih => rw [blocksC, List.length_append, ih, blockC_length]; omega
theorem blocksC_pre (k nc : List UInt8) (m n : Nat) (h : m ≤ n) : ∃ t, blocksC k nc n = blocksC k nc m ++ t := by
  induction h with
  | refl => exact ⟨[], by simp⟩
  | @step n _ ih =>
    obtain ⟨t, ht⟩ := ih
    have e : blocksC k nc (n + 1) = blocksC k nc n ++ blockC k (BitVec.ofNat 32 (n + 1)) nc := rfl
    exact ⟨t ++ blockC k (BitVec.ofNat 32 (n + 1)) nc, by rw [e, ht, List.append_assoc]⟩
/-- a stream -/
def streamC (k nc : List UInt8) (m : Nat) : List UInt8 := (blocksC k nc ((m + 63) / 64)).take m
theorem streamC_length (k nc : List UInt8) (m : Nat) : (streamC k nc m).length = m := by
  unfold streamC
  rw [List.length_take, blocksC_length]; omega
/-- whatever more blocks there are -/
theorem streamC_of (k nc : List UInt8) (m n : Nat) (h : m ≤ 64 * n) : (blocksC k nc n).take m = streamC k nc m := by
  obtain ⟨t, ht⟩ := blocksC_pre k nc ((m + 63) / 64) n (by omega)
  unfold streamC
  rw [ht, List.take_append_of_le_length (by rw [blocksC_length]; omega)]
/-- a text's bytes, each xor another's -/
def xorB (s t : List UInt8) : List UInt8 := List.zipWith (fun a b => a ^^^ b) s t
theorem xorB_length (s t : List UInt8) (h : s.length ≤ t.length) : (xorB s t).length = s.length := by
  unfold xorB
  rw [List.length_zipWith, Nat.min_eq_left h]
/-- a text xor a stream -/
def xorC (k nc s : List UInt8) : List UInt8 := xorB s (streamC k nc s.length)
theorem xorC_length (k nc s : List UInt8) : (xorC k nc s).length = s.length := xorB_length _ _ (by rw [streamC_length]; exact Nat.le_refl _)
end Go.Proofs.YthjlhcmdpeinpaaGreatDoor

/- The contracts of stream's smallest: turning left, Quarter, fit, wordOf. -/
namespace Go.Proofs.YthjlhcmdpeinpaaGreatDoor
open Go.RowKit
set_option maxRecDepth 100000
theorem and31p (n : Nat) (h : n < 32) : bits .and .u64 (IntKind.u64.wrap (n : Int)) 31 = (n : Int) := by
  have e : IntKind.u64.wrap (n : Int) = (n : Int) := by rw [IntKind.wrap_u64]; omega
  rw [e]
  show IntKind.u64.wrap (((BitVec.ofInt 64 (n : Int) &&& BitVec.ofInt 64 ((31 : Nat) : Int)).toNat : Nat) : Int) = _
  rw [BitVec.toNat_and, BitVec.ofInt_natCast, BitVec.ofInt_natCast, BitVec.toNat_ofNat, BitVec.toNat_ofNat]
  rw [Nat.mod_eq_of_lt (a := n) (by omega), Nat.mod_eq_of_lt (a := 31) (by omega)]
  rw [show n &&& 31 = n % 32 from Nat.and_two_pow_sub_one_eq_mod _ 5]
  rw [IntKind.wrap_u64]
  omega

set_option maxHeartbeats 400000 in
theorem rotlp_any (x : BitVec 32) (n : Nat) (h0 : 0 < n) (h1 : n < 32) (w : World) :
    Calls Tryz.prog 235 #[.int .u32 (x.toNat : Int), .int .i64 (n : Int)] w fun e w' => e = .returned (.int .u32 ((rl x n).toNat : Int)) ∧ w = w' := by
  have hK := and31p n h1
  rw [show IntKind.u64.wrap (n : Int) = (n : Int) by rw [IntKind.wrap_u64]; omega] at hK
  have es : ((32 : Int) - (n : Int)).toNat = 32 - n := by omega
  have hm1 : (n : Int) < 32 := by omega
  have hm0 : (0 : Int) < (n : Int) := by omega
  have e1 := shl32 x n
  have e2 := shr32 x (32 - n)
  have e3 := bits_or32 (x <<< n) (x >>> (32 - n))
  change _ = (((rl x n).toNat : Nat) : Int) at e3
  generalize rl x n = r at e3 ⊢
  generalize x <<< n = s at e1 e3 ⊢
  generalize x >>> (32 - n) = t at e2 e3 ⊢
  go_enter Tryz.func235, Tryz.ntmps235
  go_wp2
  go_ret
  exact ⟨rfl, rfl⟩

theorem fit_any (k n : ByteArray) (w : World) :
    Calls Tryz.prog 176 #[.string k, .string n] w fun e w' => e = .returned (.bool (decide (k.size = 32 ∧ n.size = 12))) ∧ w = w' := by
  go_enter Tryz.func176, Tryz.ntmps176
  go_wp2
  all_goals (go_ret; refine ⟨ret_bool ?_, rfl⟩)
  · have h : k.size = 32 := by omega
    rw [Bool.eq_iff_iff, decide_eq_true_iff, beq_iff_eq]; omega
  · have h : ¬ k.size = 32 := by omega
    simp [h]

theorem results_tmp4 {fn : Func} {t u v x : Tmp} (h : fn.results = #[.tmp t, .tmp u, .tmp v, .tmp x]) (tmps : Array Value) (P : Program) (w : World) :
    (results fn tmps).run P w = .ok (.tuple #[tmps.getD t undef, tmps.getD u undef, tmps.getD v undef, tmps.getD x undef]) w := by
  simp [results, h]
/-- four words as the law's and the code's results lie -/
def Q4.v (q : Q4) : Value := .tuple #[.int .u32 (q.a.toNat : Int), .int .u32 (q.b.toNat : Int), .int .u32 (q.c.toNat : Int), .int .u32 (q.d.toNat : Int)]
set_option maxHeartbeats 400000 in
theorem quarter_any (a b c d : BitVec 32) (w : World) :
    Calls Tryz.prog 237 #[.int .u32 (a.toNat : Int), .int .u32 (b.toNat : Int), .int .u32 (c.toNat : Int), .int .u32 (d.toNat : Int)] w fun e w' => e = .returned (qtr ⟨a, b, c, d⟩).v ∧ w = w' := by
  obtain ⟨a1, ea1⟩ : ∃ z, a + b = z := ⟨_, rfl⟩
  obtain ⟨x1, ex1⟩ : ∃ z, d ^^^ a1 = z := ⟨_, rfl⟩
  obtain ⟨d1, ed1⟩ : ∃ z, rl x1 16 = z := ⟨_, rfl⟩
  obtain ⟨c1, ec1⟩ : ∃ z, c + d1 = z := ⟨_, rfl⟩
  obtain ⟨y1, ey1⟩ : ∃ z, b ^^^ c1 = z := ⟨_, rfl⟩
  obtain ⟨b1, eb1⟩ : ∃ z, rl y1 12 = z := ⟨_, rfl⟩
  obtain ⟨a2, ea2⟩ : ∃ z, a1 + b1 = z := ⟨_, rfl⟩
  obtain ⟨x2, ex2⟩ : ∃ z, d1 ^^^ a2 = z := ⟨_, rfl⟩
  obtain ⟨d2, ed2⟩ : ∃ z, rl x2 8 = z := ⟨_, rfl⟩
  obtain ⟨c2, ec2⟩ : ∃ z, c1 + d2 = z := ⟨_, rfl⟩
  obtain ⟨y2, ey2⟩ : ∃ z, b1 ^^^ c2 = z := ⟨_, rfl⟩
  obtain ⟨b2, eb2⟩ : ∃ z, rl y2 7 = z := ⟨_, rfl⟩
  have hq : qtr ⟨a, b, c, d⟩ = ⟨a2, b2, c2, d2⟩ := by
    show qB 7 (qA 8 (qB 12 (qA 16 ⟨a, b, c, d⟩))) = _
    simp only [qA, qB, ea1, ex1, ed1, ec1, ey1, eb1, ea2, ex2, ed2, ec2, ey2, eb2]
  rw [hq]
  have h1 := add_mod32 a b a1 ea1
  have h2 := bits_xor32 d a1
  have h3 := Lib.hid (rotlp_any x1 16 (by omega) (by omega) w)
  have h4 := add_mod32 c d1 c1 ec1
  have h5 := bits_xor32 b c1
  have h6 := Lib.hid (rotlp_any y1 12 (by omega) (by omega) w)
  have h7 := add_mod32 a1 b1 a2 ea2
  have h8 := bits_xor32 d1 a2
  have h9 := Lib.hid (rotlp_any x2 8 (by omega) (by omega) w)
  have h10 := add_mod32 c1 d2 c2 ec2
  have h11 := bits_xor32 b1 c2
  have h12 := Lib.hid (rotlp_any y2 7 (by omega) (by omega) w)
  rw [ex1] at h2
  rw [ed1] at h3
  rw [ey1] at h5
  rw [eb1] at h6
  rw [ex2] at h8
  rw [ed2] at h9
  rw [ey2] at h11
  rw [eb2] at h12
  clear hq ea1 ex1 ed1 ec1 ey1 eb1 ea2 ex2 ed2 ec2 ey2 eb2
  go_enter Tryz.func237, Tryz.ntmps237
  go_wp2_with fail
  simp only [h1]
  refine h3.out.mono ?_
  rintro e w' ⟨rfl, rfl⟩
  go_wp2_with fail
  simp only [h4]
  refine h6.out.mono ?_
  rintro e w' ⟨rfl, rfl⟩
  go_wp2_with fail
  simp only [h7]
  refine h9.out.mono ?_
  rintro e w' ⟨rfl, rfl⟩
  go_wp2_with fail
  simp only [h10]
  refine h12.out.mono ?_
  rintro e w' ⟨rfl, rfl⟩
  go_wp2
  (try simp only [Exit.inBlock, Exit.then])
  refine bodyPost_ret (results_tmp4 rfl _ _ _) rfl ⟨rfl, rfl⟩

theorem wordLE_or (a b c d : UInt8) : bits .or .u32 (bits .or .u32 (bits .or .u32 (a.toNat : Int) ((b.toNat : Int) * 256)) ((c.toNat : Int) * 65536)) ((d.toNat : Int) * 16777216) = ((wordLE a b c d).toNat : Int) := by
  have ha := a.toNat_lt
  have hb := b.toNat_lt
  have hc := c.toNat_lt
  have hd := d.toNat_lt
  have e1 : bits .or .u32 (a.toNat : Int) ((b.toNat : Int) * 256) = ((b.toNat * 256 + a.toNat : Nat) : Int) := by
    have := bits_or_nat a.toNat (b.toNat * 256) (by omega) (by omega)
    rw [show ((b.toNat * 256 : Nat) : Int) = (b.toNat : Int) * 256 by omega] at this
    rw [this, Nat.or_comm]
    have h := or_sum b.toNat a.toNat 8 (by omega)
    rw [show (2 : Nat) ^ 8 = 256 from rfl] at h
    rw [h]
  have e2 : bits .or .u32 ((b.toNat * 256 + a.toNat : Nat) : Int) ((c.toNat : Int) * 65536) = ((c.toNat * 65536 + (b.toNat * 256 + a.toNat) : Nat) : Int) := by
    have := bits_or_nat (b.toNat * 256 + a.toNat) (c.toNat * 65536) (by omega) (by omega)
    rw [show ((c.toNat * 65536 : Nat) : Int) = (c.toNat : Int) * 65536 by omega] at this
    rw [this, Nat.or_comm]
    have h := or_sum c.toNat (b.toNat * 256 + a.toNat) 16 (by omega)
    rw [show (2 : Nat) ^ 16 = 65536 from rfl] at h
    rw [h]
  have e3 : bits .or .u32 ((c.toNat * 65536 + (b.toNat * 256 + a.toNat) : Nat) : Int) ((d.toNat : Int) * 16777216) = ((wordLE a b c d).toNat : Int) := by
    have := bits_or_nat (c.toNat * 65536 + (b.toNat * 256 + a.toNat)) (d.toNat * 16777216) (by omega) (by omega)
    rw [show ((d.toNat * 16777216 : Nat) : Int) = (d.toNat : Int) * 16777216 by omega] at this
    rw [this, Nat.or_comm]
    have h := or_sum d.toNat (c.toNat * 65536 + (b.toNat * 256 + a.toNat)) 24 (by omega)
    rw [show (2 : Nat) ^ 24 = 16777216 from rfl] at h
    rw [h, wordLE_toNat]
    exact congrArg Nat.cast (by omega)
  rw [e1, e2, e3]

set_option maxHeartbeats 400000 in
theorem sWordOf_any (s : ByteArray) (h : s.size = 4) (w : World) :
    Calls Tryz.prog 231 #[.string s] w fun e w' => e = .returned (.int .u32 ((wordLE s[0] s[1] s[2] s[3]).toNat : Int)) ∧ ∃ n, w' = w.drewN n := by
  have b1 : (0 : Int) < (s.size : Int) := by omega
  have b2 : (1 : Int) < (s.size : Int) := by omega
  have b3 : (2 : Int) < (s.size : Int) := by omega
  have b4 : (3 : Int) < (s.size : Int) := by omega
  have c1 := s[0].toNat_lt
  have c2 := s[1].toNat_lt
  have c3 := s[2].toNat_lt
  have c4 := s[3].toNat_lt
  have g0 : s[0]? = some s[0] := by simp
  go_enter Tryz.func231, Tryz.ntmps231
  go_wp2
  go_quiet (fail)
  go_wp2
  go_ret
  exact ⟨ret_u32 (wordLE_or _ _ _ _), _, rfl⟩
/-- a word of a text's four bytes at 4t -/
theorem sWordOf_at (s : ByteArray) (t : Nat) (h : 4 * t + 4 ≤ s.size) (w : World) :
    Calls Tryz.prog 231 #[.string (s.extract (4 * t) (4 * t + 4))] w fun e w' => e = .returned (.int .u32 ((leW (bl s) t).toNat : Int)) ∧ ∃ n, w' = w.drewN n := by
  have hs : (s.extract (4 * t) (4 * t + 4)).size = 4 := by rw [ByteArray.size_extract]; omega
  have e : wordLE (s.extract (4 * t) (4 * t + 4))[0] (s.extract (4 * t) (4 * t + 4))[1] (s.extract (4 * t) (4 * t + 4))[2] (s.extract (4 * t) (4 * t + 4))[3] = leW (bl s) t := by
    unfold leW
    rw [bl_get s (4 * t) (by omega), bl_get s (4 * t + 1) (by omega), bl_get s (4 * t + 2) (by omega), bl_get s (4 * t + 3) (by omega)]
    simp only [ByteArray.getElem_extract]
    rfl
  rw [← e]
  exact sWordOf_any _ hs w
end Go.Proofs.YthjlhcmdpeinpaaGreatDoor

/- The contract of stream's read: a text's words put into a block. -/
namespace Go.Proofs.YthjlhcmdpeinpaaGreatDoor
open Go.RowKit
set_option maxRecDepth 100000
/-- a text's first k words put in from a place on -/
def putW (l : List (BitVec 32)) (at0 : Nat) (b : List UInt8) : Nat → List (BitVec 32)
  | 0 => l
  | k + 1 => (putW l at0 b k).set (at0 + k) (leW b k)
theorem putW_length (l : List (BitVec 32)) (at0 : Nat) (b : List UInt8) (k : Nat) : (putW l at0 b k).length = l.length := by
  induction k with
  | zero => rfl
  | succ k ih => rw [putW, List.length_set, ih]
def RdR (w : World) (B : Nat) (l : List (BitVec 32)) (at0 : Nat) (b : List UInt8) (n : Nat) (i : Value) (wr : World) : Prop :=
  ∃ k : Nat, k ≤ n ∧ i = .int .i64 (k : Int) ∧ BlkW wr B 245 (putW l at0 b k) ∧ Below B w wr

set_option maxHeartbeats 400000 in
theorem sRead_any (B : Nat) (l : List (BitVec 32)) (at0 n : Nat) (s : ByteArray) (hl : l.length = 16) (hs : s.size = 4 * n) (hat : at0 + n ≤ 16) (w : World) (hB : BlkW w B 245 l) :
    Calls Tryz.prog 219 #[.pointer (some ⟨B, 0, none⟩), .int .i64 (at0 : Int), .string s] w fun e w' => e = .returned (.tuple #[]) ∧ BlkW w' B 245 (putW l at0 (bl s) n) ∧ Below B w w' := by
  have hq : Int.tdiv (s.size : Int) 4 = (n : Int) := by rw [hs]; exact Int.tdiv_eq_of_eq_mul_right (by omega) (by omega)
  have HS := Lib.hid hs
  have HB := Lib.hid hB
  have HL := Lib.hid hl
  clear hs hB hl
  go_enter Tryz.func219, Tryz.ntmps219
  go_wp2_with fail
  go_loopw [10] (RdR w B l at0 (bl s) n) (fun i _ => n - (intOf i).toNat)
  case atStart => exact ⟨0, by omega, rfl, HB.out, Below.refl _ _⟩
  case round =>
    clear HB
    obtain ⟨k, hk, rfl, hB, hb⟩ := hrel
    by_cases hlt : k < n
    · have h1 : (k : Int) < (n : Int) := by omega
      have hs := HS.out
      have hl := HL.out
      have e1 : IntKind.i64.wrap (4 * (k : Int)) = 4 * (k : Int) := IntWalk.i64_in _ (by omega)
      have e2 : IntKind.i64.wrap (4 * (k : Int) + 4) = 4 * (k : Int) + 4 := IntWalk.i64_in _ (by omega)
      have e3 : IntKind.i64.wrap ((at0 : Int) + (k : Int)) = (at0 : Int) + (k : Int) := IntWalk.i64_in _ (by omega)
      have e4 : (at0 : Int) + (k : Int) < 16 := by omega
      have e5 : (0 : Int) ≤ (at0 : Int) + (k : Int) := by omega
      have e6 : ((at0 : Int) + (k : Int)).toNat = at0 + k := by omega
      have hsl := fun W : World => str_slice (P := Tryz.prog) 9 Tryz.underlying9 s (4 * (k : Int)) (4 * (k : Int) + 4) (4 * k) (4 * k + 4) (by omega) (by omega) (by omega) (by omega) W
      have hwd := sWordOf_at s k (by omega)
      obtain ⟨x, hx⟩ : ∃ x, leW (bl s) k = x := ⟨_, rfl⟩
      rw [hx] at hwd
      have HW := Lib.hid hwd
      have HX := Lib.hid hx
      have HB := Lib.hid hB
      clear hs hl hwd hx hB hq
      go_wp2_with fail
      refine wp_region_last_drewN 14 _ (by kernel_rfl) rfl rfl rfl rfl (by kernel_rfl) (by kernel_rfl) ?_
      simp only [List.take_succ_cons, List.take_zero]
      iterate 14 (quiet_step (exact Calls.quiet_of (HW.out _)))
      refine wpQuiet_nil ?_
      intro _ hw'
      obtain ⟨nq, hw''⟩ := hw'
      subst hw''
      have hB1 : BlkW (wr.drewN nq) B 245 (putW l at0 (bl s) k) := HB.out
      have hb1 := below_drewN hb nq
      clear HB hb HW hsl
      generalize wr.drewN nq = W at hB1 hb1 ⊢
      have z1 := hB1.cell (at0 + k) (by rw [putW_length, HL.out]; omega)
      have z2 := hB1.frozen (at0 + k)
      have hS := hB1.set (at0 + k) x
      rw [show (putW l at0 (bl s) k).set (at0 + k) x = putW l at0 (bl s) (k + 1) by rw [← HX.out]; rfl] at hS
      have hbS := hb1.setCell (p := ⟨B, at0 + k, none⟩) (Nat.le_refl B) (.int .u32 (x.toNat : Int))
      go_wp2_with fail
      refine ⟨⟨k + 1, by omega, by simp, hS, hbS⟩, by simp [intOf]; omega⟩
    · obtain rfl : k = n := by omega
      have HB := Lib.hid hB
      clear hB
      go_wp2_with fail
      go_end0
      exact ⟨rfl, HB.out, hb⟩
end Go.Proofs.YthjlhcmdpeinpaaGreatDoor

/- The contract of stream's mix: four of a block's words mixed. -/
namespace Go.Proofs.YthjlhcmdpeinpaaGreatDoor
open Go.RowKit
set_option maxRecDepth 100000
def schMix : List (Nat × Nat) := [(0, 0), (1, 0), (2, 0), (3, 0), (4, 0), (5, 0), (6, 0), (7, 0), (8, 0), (9, 0), (10, 0), (11, 0), (13, 0), (14, 0), (15, 0), (16, 0), (18, 0), (19, 0), (20, 0), (21, 0), (23, 0), (24, 0), (25, 0), (26, 0), (34, 0), (37, 0), (40, 0), (43, 0),
  (12, 1), (17, 1), (22, 1), (27, 1), (28, 2), (29, 2), (30, 0), (31, 0), (32, 0), (33, 0), (35, 2), (36, 2), (38, 2), (39, 2), (41, 2), (42, 2), (44, 2), (45, 2)]
def noOp : Oper := { dst := none, op := .move (.tmp 0), type := 0, pos := "", after := #[], guard := none }
theorem agg_u32 (w : World) : (isAgg 112).run Tryz.prog w = .ok false w := run_isAgg_plain Tryz.underlying112 rfl w
set_option maxHeartbeats 4000000 in
theorem sMix_any (B : Nat) (l : List (BitVec 32)) (a b c d : Nat) (hl : l.length = 16) (ha : a < 16) (hb : b < 16) (hc : c < 16) (hd : d < 16) (hab : a ≠ b) (hac : a ≠ c) (had : a ≠ d) (hbc : b ≠ c) (hbd : b ≠ d) (hcd : c ≠ d) (w : World) (hB : BlkW w B 245 l) :
    Calls Tryz.prog 232 #[.pointer (some ⟨B, 0, none⟩), .int .i64 (a : Int), .int .i64 (b : Int), .int .i64 (c : Int), .int .i64 (d : Int)] w fun e w' => e = .returned (.tuple #[]) ∧ BlkW w' B 245 (mixC l a b c d) ∧ Below B w w' := by
  obtain ⟨q, hq⟩ : ∃ q, qtr ⟨l.getD a 0, l.getD b 0, l.getD c 0, l.getD d 0⟩ = q := ⟨_, rfl⟩
  have HQ := quarter_any (l.getD a 0) (l.getD b 0) (l.getD c 0) (l.getD d 0)
  rw [hq] at HQ
  have hmix : mixC l a b c d = (((l.set a q.a).set b q.b).set c q.c).set d q.d := by unfold mixC; rw [hq]
  rw [hmix]
  clear hq hmix
  have x1 := hB.cell a (by omega)
  have x2 := hB.cell b (by omega)
  have x3 := hB.cell c (by omega)
  have x4 := hB.cell d (by omega)
  generalize l.getD a 0 = la at HQ x1
  generalize l.getD b 0 = lb at HQ x2
  generalize l.getD c 0 = lc at HQ x3
  generalize l.getD d 0 = ld at HQ x4
  replace HQ := Lib.hid HQ
  have i1 : (a : Int) < 16 := by omega
  have i2 : (b : Int) < 16 := by omega
  have i3 : (c : Int) < 16 := by omega
  have i4 : (d : Int) < 16 := by omega
  have HB := Lib.hid hB
  clear hB
  go_enter Tryz.func232, Tryz.ntmps232
  go_wp2_with fail
  refine wp_region_sch 112 schMix noOp (by kernel_rfl) agg_u32 (by kernel_rfl) (by kernel_rfl) (by kernel_rfl) (by kernel_rfl) ?_
  simp only [pickS, schMix, List.map_cons, List.map_nil, List.getD_cons_succ, List.getD_cons_zero]
  iterate 32 (refine wpS_step (fun K hK => ?_); simp only [schStep]; go_simp; refine hK _ _ ?_; clear hK K)
  refine wpS_step (fun K hK => ?_)
  simp only [schStep]
  go_simp
  refine (HQ.out _).mono ?_
  rintro e w' ⟨rfl, rfl⟩
  refine hK _ _ ?_
  clear hK K
  simp only [Q4.v]
  iterate 5 (refine wpS_step (fun K hK => ?_); simp only [schStep]; go_simp; refine hK _ _ ?_; clear hK K)
  have hW0 : BlkW w.drew B 245 l := HB.out
  have hb0 : Below B w w.drew := (Below.refl _ _).drew
  clear HB HQ x1 x2 x3 x4
  generalize w.drew = W at hW0 hb0 ⊢
  have z1 := hW0.cell a (by omega)
  have f1 := hW0.frozen a
  have hW1 := hW0.set a q.a
  have hb1 := hb0.setCell (p := ⟨B, a, none⟩) (Nat.le_refl B) (.int .u32 (q.a.toNat : Int))
  obtain ⟨W1, e1⟩ : ∃ W1, W.setCell ⟨B, a, none⟩ (.int .u32 (q.a.toNat : Int)) = W1 := ⟨_, rfl⟩
  rw [e1] at hW1 hb1
  have z2 := hW1.cell b (by simp; omega)
  have f2 := hW1.frozen b
  have hW2 := hW1.set b q.b
  have hb2 := hb1.setCell (p := ⟨B, b, none⟩) (Nat.le_refl B) (.int .u32 (q.b.toNat : Int))
  obtain ⟨W2, e2⟩ : ∃ W2, W1.setCell ⟨B, b, none⟩ (.int .u32 (q.b.toNat : Int)) = W2 := ⟨_, rfl⟩
  rw [e2] at hW2 hb2
  have z3 := hW2.cell c (by simp; omega)
  have f3 := hW2.frozen c
  have hW3 := hW2.set c q.c
  have hb3 := hb2.setCell (p := ⟨B, c, none⟩) (Nat.le_refl B) (.int .u32 (q.c.toNat : Int))
  obtain ⟨W3, e3⟩ : ∃ W3, W2.setCell ⟨B, c, none⟩ (.int .u32 (q.c.toNat : Int)) = W3 := ⟨_, rfl⟩
  rw [e3] at hW3 hb3
  have z4 := hW3.cell d (by simp; omega)
  have f4 := hW3.frozen d
  have hW4 := hW3.set d q.d
  have hb4 := hb3.setCell (p := ⟨B, d, none⟩) (Nat.le_refl B) (.int .u32 (q.d.toNat : Int))
  have H4 := Lib.hid hW4
  clear hW0 hb0 hW1 hb1 hW2 hb2 hW3 hb3 hW4
  iterate 8 (refine wpS_step (fun K hK => ?_); simp only [schStep]; go_simp; refine hK _ _ ?_; clear hK K)
  refine ⟨rfl, ?_⟩
  go_end0
  exact ⟨rfl, H4.out, hb4⟩
end Go.Proofs.YthjlhcmdpeinpaaGreatDoor

/- The contract of stream's mixAll: ten rounds of a block's words. -/
namespace Go.Proofs.YthjlhcmdpeinpaaGreatDoor
open Go.RowKit
set_option maxRecDepth 100000
/-- a block of sixteen words, and what lay below it -/
structure Mx (w : World) (B : Nat) (l : List (BitVec 32)) (wr : World) : Prop where
  blk : BlkW wr B 245 l
  len : l.length = 16
  bel : Below B w wr
theorem mix_lit {w wr : World} {B : Nat} {l : List (BitVec 32)} (h : Mx w B l wr) (a b c d : Int) (na nb nc nd : Nat) (ea : a = na) (eb : b = nb) (ec : c = nc) (ed : d = nd)
    (hlt : na < 16 ∧ nb < 16 ∧ nc < 16 ∧ nd < 16) (hne : na ≠ nb ∧ na ≠ nc ∧ na ≠ nd ∧ nb ≠ nc ∧ nb ≠ nd ∧ nc ≠ nd) :
    Calls Tryz.prog 232 #[.pointer (some ⟨B, 0, none⟩), .int .i64 a, .int .i64 b, .int .i64 c, .int .i64 d] wr fun e w' => e = .returned (.tuple #[]) ∧ Mx w B (mixC l na nb nc nd) w' := by
  subst ea eb ec ed
  obtain ⟨h1, h2, h3, h4⟩ := hlt
  obtain ⟨n1, n2, n3, n4, n5, n6⟩ := hne
  refine (sMix_any B l na nb nc nd h.len h1 h2 h3 h4 n1 n2 n3 n4 n5 n6 wr h.blk).mono ?_
  rintro e w' ⟨rfl, hb, hl⟩
  exact ⟨rfl, hb, by rw [mixC_length]; exact h.len, h.bel.trans hl⟩
def MaR (w : World) (B : Nat) (l : List (BitVec 32)) (i : Value) (wr : World) : Prop := ∃ k : Nat, k ≤ 10 ∧ i = .int .i64 (k : Int) ∧ Mx w B (roundsC l k) wr

set_option maxHeartbeats 2000000 in
theorem mixAll_any (B : Nat) (l : List (BitVec 32)) (hl : l.length = 16) (w : World) (hB : BlkW w B 245 l) :
    Calls Tryz.prog 220 #[.pointer (some ⟨B, 0, none⟩)] w fun e w' => e = .returned (.tuple #[]) ∧ BlkW w' B 245 (roundsC l 10) ∧ Below B w w' := by
  have H := Lib.hid (Mx.mk (w := w) hB hl (Below.refl _ _))
  clear hB hl
  go_enter Tryz.func220, Tryz.ntmps220
  go_wp2_with fail
  go_loopw [2] (MaR w B l) (fun i _ => 10 - (intOf i).toNat)
  case atStart => exact ⟨0, by omega, rfl, H.out⟩
  case round =>
    clear H
    obtain ⟨k, hk, rfl, h⟩ := hrel
    by_cases hlt : k < 10
    · have h1 : (k : Int) < 10 := by omega
      obtain ⟨r0, er⟩ : ∃ r, roundsC l k = r := ⟨_, rfl⟩
      have hst : roundsC l (k + 1) = roundC r0 := by rw [← er]; rfl
      rw [er] at h
      have HS := Lib.hid hst
      have H := Lib.hid h
      clear hst h er
      go_wp2_with fail
      refine (mix_lit H.out 0 4 8 12 0 4 8 12 rfl rfl rfl rfl (by decide) (by decide)).mono ?_
      clear H
      rintro e w0 ⟨rfl, h⟩
      have H := Lib.hid h
      clear h
      go_wp2_with fail
      refine (mix_lit H.out 1 5 9 13 1 5 9 13 rfl rfl rfl rfl (by decide) (by decide)).mono ?_
      clear H
      rintro e w1 ⟨rfl, h⟩
      have H := Lib.hid h
      clear h
      go_wp2_with fail
      refine (mix_lit H.out 2 6 10 14 2 6 10 14 rfl rfl rfl rfl (by decide) (by decide)).mono ?_
      clear H
      rintro e w2 ⟨rfl, h⟩
      have H := Lib.hid h
      clear h
      go_wp2_with fail
      refine (mix_lit H.out 3 7 11 15 3 7 11 15 rfl rfl rfl rfl (by decide) (by decide)).mono ?_
      clear H
      rintro e w3 ⟨rfl, h⟩
      have H := Lib.hid h
      clear h
      go_wp2_with fail
      refine (mix_lit H.out 0 5 10 15 0 5 10 15 rfl rfl rfl rfl (by decide) (by decide)).mono ?_
      clear H
      rintro e w4 ⟨rfl, h⟩
      have H := Lib.hid h
      clear h
      go_wp2_with fail
      refine (mix_lit H.out 1 6 11 12 1 6 11 12 rfl rfl rfl rfl (by decide) (by decide)).mono ?_
      clear H
      rintro e w5 ⟨rfl, h⟩
      have H := Lib.hid h
      clear h
      go_wp2_with fail
      refine (mix_lit H.out 2 7 8 13 2 7 8 13 rfl rfl rfl rfl (by decide) (by decide)).mono ?_
      clear H
      rintro e w6 ⟨rfl, h⟩
      have H := Lib.hid h
      clear h
      go_wp2_with fail
      refine (mix_lit H.out 3 4 9 14 3 4 9 14 rfl rfl rfl rfl (by decide) (by decide)).mono ?_
      clear H
      rintro e w7 ⟨rfl, h⟩
      have H := Lib.hid h
      clear h
      go_wp2_with fail
      exact ⟨⟨k + 1, by omega, by simp, by rw [HS.out]; exact H.out⟩, by simp [intOf]; omega⟩
    · obtain rfl : k = 10 := by omega
      have H := Lib.hid h
      clear h
      go_wp2_with fail
      go_end0
      exact ⟨rfl, H.out.blk, H.out.bel⟩
end Go.Proofs.YthjlhcmdpeinpaaGreatDoor
