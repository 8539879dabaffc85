/- The texts Ewr, Esum, Etexts, one behind the other. -/
import Derived.Test.YtdnjieffbgmagaaDoorBg7
import Derived.Test.YtdnjieffbgmagaaDoorBg5
import Derived.Test.YtdnjieffbgmagaaDoorBg1
import Derived.Test.YtdnjieffbgmagaaDoorQl
import Derived.Carry
import Derived.Lib.SmallJoins
/- The contract of the reference's Write. -/
namespace Go.Proofs.YtdnjieffbgmagaaDoor
open Go.RowKit
set_option maxRecDepth 100000
def WrRel (n : Nat) (W : World) (s : S8) (b : List UInt8) (al v : Value) (wr : World) : Prop :=
  ∃ (z : ByteArray) (u : S8) (g o c : Nat), al = .string z ∧ v = .slice (some ⟨g, o, none⟩) 8 c ∧ mixAll u (bl z) = mixAll s b ∧ restOf (bl z) = restOf b ∧ z.size ≤ 2000000 ∧ WsAt wr v u.l ∧ g ≠ n + 2 ∧ Below (n + 3) W wr
/-- a sum on its way, as a value -/
def HashV (w : World) (v : Value) (u : S8) (r : List UInt8) (q : Nat) : Prop := ∃ (g o c : Nat) (x : ByteArray), v = .agg #[.slice (some ⟨g, o, none⟩) 8 c, .string x, .int .u64 (q : Int)] ∧ WsAt w (.slice (some ⟨g, o, none⟩) 8 c) u.l ∧ bl x = r
theorem HashV.on {w w' : World} {v : Value} {u : S8} {r : List UInt8} {q : Nat} (h : HashV w v u r q) (hb : Below w.heap.size w w') : HashV w' v u r q := by
  obtain ⟨g, o, c, x, rfl, h1, h2⟩ := h
  exact ⟨g, o, c, x, rfl, h1.on hb, h2⟩

set_option maxHeartbeats 4000000 in
theorem refwrite_any (kv v : Value) (s : S8) (x y : ByteArray) (hx : x.size ≤ 1000000) (hy : y.size ≤ 1000000) (m : Nat) (_hm : m < 18446744073709551616) (w : World) (hk : KAt w kv) (hv : WsAt w v s.l) :
    Calls Tryd.prog 76 #[kv, .agg #[v, .string x, .int .u64 (m : Int)], .string y] w fun e w' =>
      ∃ r, e = .returned r ∧ HashV w' r (mixAll s (bl x ++ bl y)) (restOf (bl x ++ bl y)) ((m + y.size) % 18446744073709551616) ∧ Below w.heap.size w w' := by
  obtain ⟨gv, ov, cv, rfl, hgv, hcv⟩ := id hv
  have hKA := id hk
  obtain ⟨k0, k1, rfl, hK0, hK1⟩ := hk
  obtain ⟨g0, o0, c0, rfl, hg0, -⟩ := hK0
  obtain ⟨g1, o1, c1, rfl, hg1, -⟩ := hK1
  simp only [S8.l_length, keysL_length] at hv hcv hKA ⊢
  have hcat : ∀ W : World, (Op.stringOp .add x y).run Tryd.prog W = .ok (.string (x ++ y)) W := fun W => run_string_add_sum W x y (by omega)
  have hns : (9223372036854775807 < x.size + y.size) = False := by simp; omega
  have hxy : (x ++ y).size ≤ 2000000 := by rw [ByteArray.size_append]; omega
  clear hcv
  have hb0 : Below w.heap.size w (((w.alloc (.cells #[.slice (some ⟨g0, o0, none⟩) 64 c0, .slice (some ⟨g1, o1, none⟩) 8 c1] 49)).alloc (.cells #[.slice (some ⟨gv, ov, none⟩) 8 cv, .string x, .int .u64 (m : Int)] 118)).alloc (.cells #[.slice none 0 0, .string ⟨#[]⟩, .int .u64 0] 118)) := by go_grown
  go_enter Tryd.func76, Tryd.ntmps76
  go_wp2_with fail
  have hK0 : (((w.alloc (.cells #[.slice (some ⟨g0, o0, none⟩) 64 c0, .slice (some ⟨g1, o1, none⟩) 8 c1] 49)).alloc (.cells #[.slice (some ⟨gv, ov, none⟩) 8 cv, .string x, .int .u64 (m : Int)] 118)).alloc (.cells #[.slice none 0 0, .string ⟨#[]⟩, .int .u64 0] 118)).heap[w.heap.size]? = some (.cells #[.slice (some ⟨g0, o0, none⟩) 64 c0, .slice (some ⟨g1, o1, none⟩) 8 c1] 49) := by
    rw [(show Below (w.alloc (.cells #[.slice (some ⟨g0, o0, none⟩) 64 c0, .slice (some ⟨g1, o1, none⟩) 8 c1] 49)).heap.size (w.alloc (.cells #[.slice (some ⟨g0, o0, none⟩) 64 c0, .slice (some ⟨g1, o1, none⟩) 8 c1] 49)) (((w.alloc (.cells #[.slice (some ⟨g0, o0, none⟩) 64 c0, .slice (some ⟨g1, o1, none⟩) 8 c1] 49)).alloc (.cells #[.slice (some ⟨gv, ov, none⟩) 8 cv, .string x, .int .u64 (m : Int)] 118)).alloc (.cells #[.slice none 0 0, .string ⟨#[]⟩, .int .u64 0] 118)) by go_grown).block _ (by simp)]
    exact heap_alloc_new _ _
  have hH0 : (((w.alloc (.cells #[.slice (some ⟨g0, o0, none⟩) 64 c0, .slice (some ⟨g1, o1, none⟩) 8 c1] 49)).alloc (.cells #[.slice (some ⟨gv, ov, none⟩) 8 cv, .string x, .int .u64 (m : Int)] 118)).alloc (.cells #[.slice none 0 0, .string ⟨#[]⟩, .int .u64 0] 118)).heap[w.heap.size + 1]? = some (.cells #[.slice (some ⟨gv, ov, none⟩) 8 cv, .string x, .int .u64 (m : Int)] 118) := by
    have h := heap_alloc2_new w (.cells #[.slice (some ⟨g0, o0, none⟩) 64 c0, .slice (some ⟨g1, o1, none⟩) 8 c1] 49) (.cells #[.slice (some ⟨gv, ov, none⟩) 8 cv, .string x, .int .u64 (m : Int)] 118)
    rw [(show Below ((w.alloc (.cells #[.slice (some ⟨g0, o0, none⟩) 64 c0, .slice (some ⟨g1, o1, none⟩) 8 c1] 49)).alloc (.cells #[.slice (some ⟨gv, ov, none⟩) 8 cv, .string x, .int .u64 (m : Int)] 118)).heap.size ((w.alloc (.cells #[.slice (some ⟨g0, o0, none⟩) 64 c0, .slice (some ⟨g1, o1, none⟩) 8 c1] 49)).alloc (.cells #[.slice (some ⟨gv, ov, none⟩) 8 cv, .string x, .int .u64 (m : Int)] 118)) (((w.alloc (.cells #[.slice (some ⟨g0, o0, none⟩) 64 c0, .slice (some ⟨g1, o1, none⟩) 8 c1] 49)).alloc (.cells #[.slice (some ⟨gv, ov, none⟩) 8 cv, .string x, .int .u64 (m : Int)] 118)).alloc (.cells #[.slice none 0 0, .string ⟨#[]⟩, .int .u64 0] 118)) by go_grown).block _ (by simp)]
    exact h
  have hR0 : (((w.alloc (.cells #[.slice (some ⟨g0, o0, none⟩) 64 c0, .slice (some ⟨g1, o1, none⟩) 8 c1] 49)).alloc (.cells #[.slice (some ⟨gv, ov, none⟩) 8 cv, .string x, .int .u64 (m : Int)] 118)).alloc (.cells #[.slice none 0 0, .string ⟨#[]⟩, .int .u64 0] 118)).heap[w.heap.size + 2]? = some (.cells #[.slice none 0 0, .string ⟨#[]⟩, .int .u64 0] 118) := by
    have h := heap_alloc2_new (w.alloc (.cells #[.slice (some ⟨g0, o0, none⟩) 64 c0, .slice (some ⟨g1, o1, none⟩) 8 c1] 49)) (.cells #[.slice (some ⟨gv, ov, none⟩) 8 cv, .string x, .int .u64 (m : Int)] 118) (.cells #[.slice none 0 0, .string ⟨#[]⟩, .int .u64 0] 118)
    simpa using h
  have hs0 : (((w.alloc (.cells #[.slice (some ⟨g0, o0, none⟩) 64 c0, .slice (some ⟨g1, o1, none⟩) 8 c1] 49)).alloc (.cells #[.slice (some ⟨gv, ov, none⟩) 8 cv, .string x, .int .u64 (m : Int)] 118)).alloc (.cells #[.slice none 0 0, .string ⟨#[]⟩, .int .u64 0] 118)).heap.size = w.heap.size + 3 := by simp
  generalize World.alloc (World.alloc (World.alloc w _) _) _ = W at hb0 hK0 hH0 hR0 hs0 ⊢
  have HK0 := Lib.hid hK0; have HH0 := Lib.hid hH0; have HR0 := Lib.hid hR0
  have hv0 := hv.on hb0
  have hKA0 := hKA.on hb0
  have HV0 := Lib.hid hv0; have HKA0 := Lib.hid hKA0
  clear hK0 hH0 hR0 hv0 hKA0 hKA hv hcat hns
  go_loopw [7, 8] (WrRel w.heap.size W s (bl x ++ bl y)) (fun a _ _ => sizeOfStr a)
  case atStart => exact ⟨x ++ y, s, gv, ov, cv, rfl, rfl, by rw [bl_append], by rw [bl_append], hxy, HV0.out, by omega, Below.refl _ _⟩
  case round =>
    clear HV0 hxy
    obtain ⟨z, u, g, o, c, rfl, rfl, hmx, hrs, hz, hW, hg, hB⟩ := hrel
    have hsz := hB.size
    have hK : wr.heap[w.heap.size]? = some (.cells #[.slice (some ⟨g0, o0, none⟩) 64 c0, .slice (some ⟨g1, o1, none⟩) 8 c1] 49) := by rw [hB.block _ (by omega)]; exact HK0.out
    have c0' : wr.cell? ⟨w.heap.size, 0, none⟩ = some (.slice (some ⟨g0, o0, none⟩) 64 c0) := by rw [cell_of_row _ _ _ _ _ _ hK]; rfl
    have c1' : wr.cell? ⟨w.heap.size, 1, none⟩ = some (.slice (some ⟨g1, o1, none⟩) 8 c1) := by rw [cell_of_row _ _ _ _ _ _ hK]; rfl
    have hKAr : KAt wr (.agg #[.slice (some ⟨g0, o0, none⟩) 64 c0, .slice (some ⟨g1, o1, none⟩) 8 c1]) := HKA0.out.on (hB.mono (by omega))
    have HW := Lib.hid hW; have HKA := Lib.hid hKAr; have HMX := Lib.hid hmx; have HRS := Lib.hid hrs
    clear hW hKAr hmx hrs hK
    by_cases hlt : 64 ≤ z.size
    · have h1 : (64 : Int) ≤ (z.size : Int) := by omega
      have hg1 : decide ((64 : Int) ≤ (z.size : Int)) = true := by simpa using h1
      have h64 : (z.extract 0 64).size = 64 := by rw [ByteArray.size_extract]; omega
      have H64 := Lib.hid h64
      clear h64
      have hS : (fun w' : World => w'.cell? ⟨w.heap.size, 0, none⟩ = some (.slice (some ⟨g0, o0, none⟩) 64 c0) ∧ w'.cell? ⟨w.heap.size, 1, none⟩ = some (.slice (some ⟨g1, o1, none⟩) 8 c1)) wr := ⟨c0', c1'⟩
      go_wp2_with fail
      go_region_held3 (fun w' : World => w'.cell? ⟨w.heap.size, 0, none⟩ = some (.slice (some ⟨g0, o0, none⟩) 64 c0) ∧ w'.cell? ⟨w.heap.size, 1, none⟩ = some (.slice (some ⟨g1, o1, none⟩) 8 c1)) (first | go_keep | with_reducible assumption) ((go_at_call 83; refine (mix_any _ _ u _ H64.out _ ?_ ?_).mono ?_; exact HKA.out; exact HW.out; rintro e w2 ⟨g2, rfl, hO, hb⟩; have hS2 : w2.cell? ⟨w.heap.size, 0, none⟩ = some (.slice (some ⟨g0, o0, none⟩) 64 c0) ∧ w2.cell? ⟨w.heap.size, 1, none⟩ = some (.slice (some ⟨g1, o1, none⟩) 8 c1) := ⟨by rw [hb.cell (p := ⟨w.heap.size, 0, none⟩) (by show w.heap.size < wr.heap.size; omega)]; exact c0', by rw [hb.cell (p := ⟨w.heap.size, 1, none⟩) (by show w.heap.size < wr.heap.size; omega)]; exact c1'⟩))
      have hB2 : Below (w.heap.size + 3) W w2 := hB.trans (Below.mono (show Below wr.heap.size wr w2 from ⟨hb.os, hb.tape, hb.output, hb.size, hb.block⟩) (by omega))
      have hne : g2 ≠ w.heap.size + 2 := by
        have h8 : 0 < (mixS u (bl (z.extract 0 64))).l.length := by rw [S8.l_length]; omega
        exact hO.ne h8 (w.heap.size + 2) (by show w.heap.size + 2 < wr.heap.size; omega) _ _ _ rfl
      have hW2 : WsAt w2 (.slice (some ⟨g2, 0, none⟩) 8 8) (mixS u (bl (z.extract 0 64))).l := hO.ws (by rw [S8.l_length]; omega)
      have HQ := Lib.hid (And.intro hB2 (And.intro hne hW2))
      clear hB2 hne hW2 hO hb hS2 hS HW HKA H64 c0' c1'
      go_wp2_with fail
      have q1 : bl (z.extract 0 64) = (bl z).take 64 := by rw [bl_extract]; rfl
      have q2 : bl (z.extract 64 z.size) = (bl z).drop 64 := by rw [bl_extract, List.take_of_length_le (by rw [bl_length]; exact Nat.le_refl _)]
      refine ⟨⟨z.extract 64 z.size, mixS u (bl (z.extract 0 64)), g2, 0, 8, rfl, rfl, ?_, ?_, by rw [ByteArray.size_extract]; omega, HQ.out.2.2, HQ.out.2.1, HQ.out.1⟩, ?_⟩
      · rw [q2, q1, ← mixAll_step u (bl z) (by rw [bl_length]; exact hlt)]; exact HMX.out
      · rw [q2, ← restOf_step (bl z) (by rw [bl_length]; exact hlt)]; exact HRS.out
      · show (z.extract 64 z.size).size < z.size
        rw [ByteArray.size_extract]; omega
    · have h1 : ¬ (64 : Int) ≤ (z.size : Int) := by omega
      have hg1 : decide ((64 : Int) ≤ (z.size : Int)) = false := by simpa using h1
      have hlen : (bl z).length < 64 := by rw [bl_length]; omega
      have hmx := HMX.out
      have hrs := HRS.out
      rw [mixAll_end u (bl z) hlen] at hmx
      rw [restOf_end (bl z) hlen] at hrs
      have hH : wr.heap[w.heap.size + 1]? = some (.cells #[.slice (some ⟨gv, ov, none⟩) 8 cv, .string x, .int .u64 (m : Int)] 118) := by rw [hB.block _ (by omega)]; exact HH0.out
      have hR : wr.heap[w.heap.size + 2]? = some (.cells #[.slice none 0 0, .string ⟨#[]⟩, .int .u64 0] 118) := by rw [hB.block _ (by omega)]; exact HR0.out
      have m2 : wr.cell? ⟨w.heap.size + 1, 2, none⟩ = some (.int .u64 (m : Int)) := by rw [cell_of_row _ _ _ _ _ _ hH]; rfl
      have d0 : wr.cell? ⟨w.heap.size + 2, 0, none⟩ = some (.slice none 0 0) := by rw [cell_of_row _ _ _ _ _ _ hR]; rfl
      have d1 : wr.cell? ⟨w.heap.size + 2, 1, none⟩ = some (.string ⟨#[]⟩) := by rw [cell_of_row _ _ _ _ _ _ hR]; rfl
      have d2 : wr.cell? ⟨w.heap.size + 2, 2, none⟩ = some (.int .u64 0) := by rw [cell_of_row _ _ _ _ _ _ hR]; rfl
      have f0 := frozen_of_row wr (w.heap.size + 2) 0 _ _ hR
      have f1 := frozen_of_row wr (w.heap.size + 2) 1 _ _ hR
      have f2 := frozen_of_row wr (w.heap.size + 2) 2 _ _ hR
      obtain ⟨q, hq⟩ : ∃ q, (m + y.size) % 18446744073709551616 = q := ⟨_, rfl⟩
      have wq : IntKind.u64.wrap ((m : Int) + (y.size : Int)) = (q : Int) := by rw [IntKind.wrap_u64]; omega
      have wy : IntKind.u64.wrap (y.size : Int) = (y.size : Int) := by rw [IntKind.wrap_u64]; omega
      have hqm : ((m : Int) + (y.size : Int)) % 18446744073709551616 = (q : Int) := by omega
      have hwr : w.heap.size + 2 < wr.heap.size := (Array.getElem?_eq_some_iff.1 hR).1
      have hn1 : ∀ b k c', Value.slice (some ⟨g, o, none⟩) 8 c = .slice (some b) k c' → b.block ≠ w.heap.size + 2 := by
        intro b k c' e
        cases e
        exact hg
      have hBw : Below w.heap.size w wr := hb0.trans (hB.mono (by omega))
      have e0 := setCell_far (i := 2) (u := .int .u64 (q : Int)) (setCell_far (i := 1) (u := .string z) (World.cell?_setCell_same _ ⟨w.heap.size + 2, 0, none⟩ (.slice (some ⟨g, o, none⟩) 8 c) d0) (by omega)) (by omega)
      have e1 := setCell_far (i := 2) (u := .int .u64 (q : Int)) (World.cell?_setCell_same _ ⟨w.heap.size + 2, 1, none⟩ (.string z) (setCell_far (i := 0) (u := .slice (some ⟨g, o, none⟩) 8 c) d1 (by omega))) (by omega)
      have e2 := World.cell?_setCell_same _ ⟨w.heap.size + 2, 2, none⟩ (.int .u64 (q : Int)) (setCell_far (i := 1) (u := .string z) (setCell_far (i := 0) (u := .slice (some ⟨g, o, none⟩) 8 c) d2 (by omega)) (by omega))
      have q0 := ((HW.out.set (w.heap.size + 2) 0 hn1 (.slice (some ⟨g, o, none⟩) 8 c)).set (w.heap.size + 2) 1 hn1 (.string z)).set (w.heap.size + 2) 2 hn1 (.int .u64 (q : Int))
      have hbl : Below w.heap.size w _ := ((hBw.setCell (p := ⟨w.heap.size + 2, 0, none⟩) (by show w.heap.size ≤ w.heap.size + 2; omega) (.slice (some ⟨g, o, none⟩) 8 c)).setCell (p := ⟨w.heap.size + 2, 1, none⟩) (by show w.heap.size ≤ w.heap.size + 2; omega) (.string z)).setCell (p := ⟨w.heap.size + 2, 2, none⟩) (by show w.heap.size ≤ w.heap.size + 2; omega) (.int .u64 (q : Int))
      have E0 := Lib.hid e0; have E1 := Lib.hid e1; have E2 := Lib.hid e2; have Q0 := Lib.hid q0
      have HM := Lib.hid hmx; have HR := Lib.hid hrs; have HQ := Lib.hid hq
      clear e0 e1 e2 q0 hmx hrs hq hH hR hn1 HW HKA HMX HRS hB hb0 hBw c0' c1' hlen
      go_wp2_with fail
      have e0 := E0.out; have e1 := E1.out; have e2 := E2.out
      refine bodyPost_ret (v := .agg #[.slice (some ⟨g, o, none⟩) 8 c, .string z, .int .u64 (q : Int)]) (by simp [results, Tryd.results76, go_sem, e0, e1, e2]) rfl ⟨_, rfl, ⟨g, o, c, z, by rw [HQ.out], by rw [← HM.out]; exact Q0.out, HR.out⟩, hbl⟩
end Go.Proofs.YtdnjieffbgmagaaDoor

/- The contracts of the reference's Sum and Of. -/
namespace Go.Proofs.YtdnjieffbgmagaaDoor
open Go.RowKit
set_option maxRecDepth 100000
def tailL (k : Nat) : List UInt8 := 128 :: List.replicate k 0
theorem tailL_length (k : Nat) : (tailL k).length = k + 1 := by simp [tailL]
def TailRel (W : World) (r : Nat) (t : Value) (wr : World) : Prop :=
  ∃ k : Nat, k ≤ padZ r ∧ t = .string (strL (tailL k)) ∧ Bel W wr
theorem padZ_end (r k : Nat) (_hr : r < 64) (hk : k ≤ padZ r) : (r + (k + 1)) % 64 = 56 ↔ k = padZ r := by
  unfold padZ at *
  omega
theorem padZ_mod (m : Nat) : padZ (m % 64) = padZ m := by unfold padZ; omega
def SumRel (W : World) (u : S8) (o i : Value) (wr : World) : Prop :=
  ∃ k : Nat, k ≤ 8 ∧ i = .int .i64 (k : Int) ∧ o = .string (strL (tellL (u.l.take k))) ∧ Bel W wr
def sizeOfS : Value → Nat | .string x => x.size | _ => 0

theorem field_words (a : Option Addr) (n c : Nat) (x : ByteArray) (q : Int) (W : World) : (Instr.field 118 (.agg #[.slice a n c, .string x, .int .u64 q]) 0).run Tryd.prog W = .ok (.slice a n c) W := by kernel_rfl

set_option maxHeartbeats 4000000 in
theorem refsum_any (kv v : Value) (s : S8) (x : ByteArray) (m : Nat) (hm : m < 18446744073709551616) (hx : x.size < 64) (hr : m % 64 = x.size) (w : World) (hk : KAt w kv) (hv : WsAt w v s.l) :
    Calls Tryd.prog 75 #[kv, .agg #[v, .string x, .int .u64 (m : Int)]] w fun e w' => e = .returned (.string (strL (sumL s (bl x) m))) ∧ Below w.heap.size w w' := by
  obtain ⟨gv, ov, cv, rfl, hgv, -⟩ := id hv
  have hKA := id hk
  obtain ⟨k0, k1, rfl, hK0, hK1⟩ := hk
  obtain ⟨g0, o0, c0, rfl, hg0, -⟩ := hK0
  obtain ⟨g1, o1, c1, rfl, hg1, -⟩ := hK1
  simp only [S8.l_length, keysL_length] at hv hKA ⊢
  have h128 := one_text 128 128 rfl
  have h0 := one_text 0 0 rfl
  go_enter Tryd.func75, Tryd.ntmps75
  go_upto_region 1 with fail
  have hb0 : Below w.heap.size w ((w.alloc (.cells #[.slice (some ⟨g0, o0, none⟩) 64 c0, .slice (some ⟨g1, o1, none⟩) 8 c1] 49)).alloc (.cells #[.slice (some ⟨gv, ov, none⟩) 8 cv, .string x, .int .u64 (m : Int)] 118)) := by go_grown
  have hK0 : ((w.alloc (.cells #[.slice (some ⟨g0, o0, none⟩) 64 c0, .slice (some ⟨g1, o1, none⟩) 8 c1] 49)).alloc (.cells #[.slice (some ⟨gv, ov, none⟩) 8 cv, .string x, .int .u64 (m : Int)] 118)).heap[w.heap.size]? = some (.cells #[.slice (some ⟨g0, o0, none⟩) 64 c0, .slice (some ⟨g1, o1, none⟩) 8 c1] 49) := heap_alloc2_old _ _ _
  have hH0 : ((w.alloc (.cells #[.slice (some ⟨g0, o0, none⟩) 64 c0, .slice (some ⟨g1, o1, none⟩) 8 c1] 49)).alloc (.cells #[.slice (some ⟨gv, ov, none⟩) 8 cv, .string x, .int .u64 (m : Int)] 118)).heap[w.heap.size + 1]? = some (.cells #[.slice (some ⟨gv, ov, none⟩) 8 cv, .string x, .int .u64 (m : Int)] 118) := heap_alloc2_new _ _ _
  generalize World.alloc (World.alloc w _) _ = W at hb0 hK0 hH0 ⊢
  have hs0 : w.heap.size + 1 < W.heap.size := (Array.getElem?_eq_some_iff.1 hH0).1
  have HK0 := Lib.hid hK0; have HH0 := Lib.hid hH0
  have HV0 := Lib.hid (hv.on hb0); have HKA0 := Lib.hid (hKA.on hb0)
  clear hK0 hH0 hKA hv
  go_wp2_with fail
  go_loopw [5] (TailRel W x.size) (fun t _ => padZ x.size + 1 - sizeOfS t)
  case atStart => exact ⟨0, by omega, rfl, by first | exact Bel.refl _ | exact ⟨by go_grown⟩⟩
  case round =>
    obtain ⟨k, hk, rfl, hbel⟩ := hrel
    have hH : wr.heap[w.heap.size + 1]? = some (.cells #[.slice (some ⟨gv, ov, none⟩) 8 cv, .string x, .int .u64 (m : Int)] 118) := by rw [hbel.b.block _ (by omega)]; exact HH0.out
    have d1 : wr.cell? ⟨w.heap.size + 1, 1, none⟩ = some (.string x) := by rw [cell_of_row _ _ _ _ _ _ hH]; rfl
    have hend := padZ_end x.size k hx hk
    obtain ⟨t, ht⟩ : ∃ t, strL (tailL k) = t := ⟨_, rfl⟩
    have hts : t.size = k + 1 := by rw [← ht, strL_size, tailL_length]
    have hpz : padZ x.size < 64 := by unfold padZ; omega
    rw [ht]
    have HT := Lib.hid ht; have HHH := Lib.hid hH
    clear ht hH
    have w1 : IntKind.i64.wrap ((x.size : Int) + (t.size : Int)) = (x.size : Int) + (t.size : Int) := IntWalk.i64_in _ (by omega)
    by_cases hlt : k = padZ x.size
    · have hz : ((x.size : Int) + (t.size : Int)) % 64 = 56 := by have := hend.2 hlt; omega
      have HZ := Lib.hid hlt
      obtain ⟨q, hq⟩ : ∃ q, 8 * m % 18446744073709551616 = q := ⟨_, rfl⟩
      have wq : IntKind.u64.wrap (8 * (m : Int)) = (q : Int) := by rw [IntKind.wrap_u64]; omega
      have hqm : 8 * (m : Int) % 18446744073709551616 = (q : Int) := by omega
      have hhi := fun W => high_any q 8 (by omega) (by omega) W
      obtain ⟨hs, hhs⟩ : ∃ hs, strL (lowB q 8) = hs := ⟨_, rfl⟩
      rw [hhs] at hhi
      have hhz : hs.size = 8 := by rw [← hhs, strL_size, lowB_length]
      obtain ⟨t2, ht2⟩ : ∃ t2, t ++ hs = t2 := ⟨_, rfl⟩
      have hcat : ∀ W : World, (Op.stringOp .add t hs).run Tryd.prog W = .ok (.string t2) W := fun W => by
        rw [run_string_add_sum W _ _ (by omega), ht2]
      have hns : (9223372036854775807 < t.size + hs.size) = False := by simp; omega
      have ht2s : t2.size ≤ 1000000 := by rw [← ht2, ByteArray.size_append]; omega
      have hbl : bl x ++ bl t2 = bl x ++ padL m := by
        rw [← ht2, bl_append, ← HT.out, ← hhs, bl_strL, bl_strL, lowB_eight, hlt, ← hr, padZ_mod, ← hq]
        rfl
      have hwr := fun W h1 h2 => refwrite_any (.agg #[.slice (some ⟨g0, o0, none⟩) 64 c0, .slice (some ⟨g1, o1, none⟩) 8 c1]) (.slice (some ⟨gv, ov, none⟩) 8 cv) s x t2 (by omega) ht2s m hm W h1 h2
      rw [hbl] at hwr
      have hsum : sumL s (bl x) m = tellL (mixAll s (bl x ++ padL m)).l := rfl
      obtain ⟨u, hu⟩ : ∃ u, mixAll s (bl x ++ padL m) = u := ⟨_, rfl⟩
      rw [hu] at hwr hsum
      have HHI := Lib.hid hhi; have HWR := Lib.hid hwr; have HSUM := Lib.hid hsum
      have hK : wr.heap[w.heap.size]? = some (.cells #[.slice (some ⟨g0, o0, none⟩) 64 c0, .slice (some ⟨g1, o1, none⟩) 8 c1] 49) := by rw [hbel.b.block _ (by omega)]; exact HK0.out
      have e0 : wr.cell? ⟨w.heap.size, 0, none⟩ = some (.slice (some ⟨g0, o0, none⟩) 64 c0) := by rw [cell_of_row _ _ _ _ _ _ hK]; rfl
      have e1 : wr.cell? ⟨w.heap.size, 1, none⟩ = some (.slice (some ⟨g1, o1, none⟩) 8 c1) := by rw [cell_of_row _ _ _ _ _ _ hK]; rfl
      have e2 : wr.cell? ⟨w.heap.size + 1, 0, none⟩ = some (.slice (some ⟨gv, ov, none⟩) 8 cv) := by rw [cell_of_row _ _ _ _ _ _ HHH.out]; rfl
      have e3 : wr.cell? ⟨w.heap.size + 1, 2, none⟩ = some (.int .u64 (m : Int)) := by rw [cell_of_row _ _ _ _ _ _ HHH.out]; rfl
      have hsz := hbel.b.size
      have HKA := Lib.hid (HKA0.out.on hbel.b); have HV := Lib.hid (HV0.out.on hbel.b)
      have hS : (fun w' : World => w'.cell? ⟨w.heap.size, 0, none⟩ = some (.slice (some ⟨g0, o0, none⟩) 64 c0) ∧ w'.cell? ⟨w.heap.size, 1, none⟩ = some (.slice (some ⟨g1, o1, none⟩) 8 c1) ∧ w'.cell? ⟨w.heap.size + 1, 0, none⟩ = some (.slice (some ⟨gv, ov, none⟩) 8 cv) ∧ w'.cell? ⟨w.heap.size + 1, 1, none⟩ = some (.string x) ∧ w'.cell? ⟨w.heap.size + 1, 2, none⟩ = some (.int .u64 (m : Int))) wr := ⟨e0, e1, e2, d1, e3⟩
      clear hend hlt hq hhi hhs ht2 hbl hwr hsum hu hK HKA0 HV0
      have keep5 : ∀ (w1 w2 : World), (w1.cell? ⟨w.heap.size, 0, none⟩ = some (.slice (some ⟨g0, o0, none⟩) 64 c0) ∧ w1.cell? ⟨w.heap.size, 1, none⟩ = some (.slice (some ⟨g1, o1, none⟩) 8 c1) ∧ w1.cell? ⟨w.heap.size + 1, 0, none⟩ = some (.slice (some ⟨gv, ov, none⟩) 8 cv) ∧ w1.cell? ⟨w.heap.size + 1, 1, none⟩ = some (.string x) ∧ w1.cell? ⟨w.heap.size + 1, 2, none⟩ = some (.int .u64 (m : Int))) → Below w1.heap.size w1 w2 → w.heap.size + 1 < w1.heap.size → (w2.cell? ⟨w.heap.size, 0, none⟩ = some (.slice (some ⟨g0, o0, none⟩) 64 c0) ∧ w2.cell? ⟨w.heap.size, 1, none⟩ = some (.slice (some ⟨g1, o1, none⟩) 8 c1) ∧ w2.cell? ⟨w.heap.size + 1, 0, none⟩ = some (.slice (some ⟨gv, ov, none⟩) 8 cv) ∧ w2.cell? ⟨w.heap.size + 1, 1, none⟩ = some (.string x) ∧ w2.cell? ⟨w.heap.size + 1, 2, none⟩ = some (.int .u64 (m : Int))) := by
        rintro w1 w2 ⟨a0, a1, a2, a3, a4⟩ hb hlt
        refine ⟨?_, ?_, ?_, ?_, ?_⟩
        · rw [hb.cell (p := ⟨w.heap.size, 0, none⟩) (by show w.heap.size < _; omega)]; exact a0
        · rw [hb.cell (p := ⟨w.heap.size, 1, none⟩) (by show w.heap.size < _; omega)]; exact a1
        · rw [hb.cell (p := ⟨w.heap.size + 1, 0, none⟩) hlt]; exact a2
        · rw [hb.cell (p := ⟨w.heap.size + 1, 1, none⟩) hlt]; exact a3
        · rw [hb.cell (p := ⟨w.heap.size + 1, 2, none⟩) hlt]; exact a4
      have HKEEP := Lib.hid keep5
      have hfld := field_words
      clear keep5
      go_wp2_with fail
      go_region_held3 (fun w' : World => w'.cell? ⟨w.heap.size, 0, none⟩ = some (.slice (some ⟨g0, o0, none⟩) 64 c0) ∧ w'.cell? ⟨w.heap.size, 1, none⟩ = some (.slice (some ⟨g1, o1, none⟩) 8 c1) ∧ w'.cell? ⟨w.heap.size + 1, 0, none⟩ = some (.slice (some ⟨gv, ov, none⟩) 8 cv) ∧ w'.cell? ⟨w.heap.size + 1, 1, none⟩ = some (.string x) ∧ w'.cell? ⟨w.heap.size + 1, 2, none⟩ = some (.int .u64 (m : Int))) (first | go_keep | with_reducible assumption)
        (first | (go_at_call 82; refine (HHI.out _).mono ?_; rintro e w2 ⟨rfl, hb2⟩; have hS2 := HKEEP.out _ w2 (by exact ⟨e0, e1, e2, d1, e3⟩) hb2.b (by show w.heap.size + 1 < wr.heap.size; omega)) | (go_at_call 76; refine (HWR.out _ (KAt.on (by exact HKA.out) hb2.b) (WsAt.on (by exact HV.out) hb2.b)).mono ?_; rintro e w3 ⟨r, rfl, hHV, hb3⟩; have hS3 := HKEEP.out w2 w3 hS2 hb3 (by have h2s : wr.heap.size ≤ w2.heap.size := hb2.b.size; omega); obtain ⟨g, o, c, xr, rfl, hWr, -⟩ := hHV))
      have h2s : wr.heap.size ≤ w2.heap.size := hb2.b.size
      have hB3 : Below w.heap.size w w3 := hb0.trans (Below.mono (hbel.b.trans (Below.mono (show Below wr.heap.size wr w3 from (show Below wr.heap.size wr w2 from ⟨hb2.b.os, hb2.b.tape, hb2.b.output, hb2.b.size, hb2.b.block⟩).trans (hb3.mono h2s)) hsz)) (by omega))
      have HW3 := Lib.hid hWr
      clear hWr hb3 hb2 hS2 hS3 HHI HWR HK0 HH0 HKEEP hfld hcat hns hz w1 HZ HT HHH d1 e0 e1 e2 e3 hS HKA HV hbel h128 h0 hhz ht2s wq hqm hts hk
      go_wp2_with fail
      go_loopw [6, 34] (SumRel w3 u) (fun _ i _ => 8 - (intOf i).toNat)
      case atStart => exact ⟨0, by omega, rfl, rfl, Bel.refl _⟩
      case round =>
        obtain ⟨j, hj, rfl, rfl, hbl2⟩ := hrel
        by_cases hjl : j < 8
        · have l1 : (j : Int) < 8 := by omega
          obtain ⟨g', o', c', e', hg', hc'⟩ := HW3.out
          obtain ⟨⟨rfl, rfl⟩, -, rfl⟩ : (g = g' ∧ o = o') ∧ 8 = u.l.length ∧ c = c' := by simpa using e'
          have cj := hc' j hjl
          rw [← hbl2.b.cell (p := ⟨g, o + j, none⟩) hg'] at cj
          have htake : tellL (u.l.take (j + 1)) = tellL (u.l.take j) ++ be4 (u.l.getD j 0) := by
            have hj8 : j < u.l.length := hjl
            have hgd : u.l.getD j 0 = u.l[j] := by simp [List.getD, hj8]
            rw [hgd, List.take_add_one, List.getElem?_eq_getElem hj8, Option.toList_some]
            unfold tellL
            rw [List.flatMap_append, List.flatMap_singleton]
          have hls : (strL (tellL (u.l.take j))).size ≤ 32 := by
            rw [strL_size, tellL_length, List.length_take]; omega
          obtain ⟨y, hy⟩ : ∃ y, u.l.getD j 0 = y := ⟨_, rfl⟩
          rw [hy] at cj htake
          have hhi := fun W => high_any y.toNat 4 (by have := y.isLt; omega) (by omega) W
          rw [lowB_four] at hhi
          obtain ⟨hs, hhs⟩ : ∃ hs, strL (be4 y) = hs := ⟨_, rfl⟩
          rw [hhs] at hhi
          have hhz : hs.size = 4 := by rw [← hhs, strL_size]; rfl
          obtain ⟨p, hp⟩ : ∃ p, strL (tellL (u.l.take j)) = p := ⟨_, rfl⟩
          rw [hp] at hls ⊢
          obtain ⟨p2, hp2⟩ : ∃ p2, p ++ hs = p2 := ⟨_, rfl⟩
          have hcat : ∀ W : World, (Op.stringOp .add p hs).run Tryd.prog W = .ok (.string p2) W := fun W => by
            rw [run_string_add_sum W _ _ (by omega), hp2]
          have hns : (9223372036854775807 < p.size + hs.size) = False := by simp; omega
          have hfin : p2 = strL (tellL (u.l.take (j + 1))) := by rw [← hp2, ← hp, ← hhs, strL_append, htake]
          have wy : IntKind.u64.wrap (y.toNat : Int) = (y.toNat : Int) := by rw [IntKind.wrap_u64]; have := y.isLt; omega
          have HHI := Lib.hid hhi; have HFIN := Lib.hid hfin
          clear hhi hfin hp2 hp hhs hy htake hc' e'
          go_wp2_with fail
          refine (HHI.out _).mono ?_
          rintro e w4 ⟨rfl, hb4⟩
          go_wp2_with fail
          exact ⟨⟨j + 1, by omega, by simp, by rw [HFIN.out], hbl2.on hb4.b⟩, by simp [intOf]; omega⟩
        · obtain rfl : j = 8 := by omega
          go_wp2_with fail
          go_ret
          refine ⟨?_, hB3.trans (hbl2.b.mono hB3.size)⟩
          rw [HSUM.out, List.take_of_length_le (by rw [S8.l_length]; omega)]
          rfl
    · have hz : ¬ ((x.size : Int) + (t.size : Int)) % 64 = 56 := by intro h; exact hlt (hend.1 (by omega))
      obtain ⟨t', ht'⟩ : ∃ t', t ++ strL [0] = t' := ⟨_, rfl⟩
      have hcat : ∀ W : World, (Op.stringOp .add t (strL [0])).run Tryd.prog W = .ok (.string t') W := fun W => by
        rw [run_string_add_sum W _ _ (by have : (strL [0]).size = 1 := by rw [strL_size]; rfl
                                         omega), ht']
      have hns : (9223372036854775807 < t.size + (strL [0]).size) = False := by
        have : (strL [0]).size = 1 := by rw [strL_size]; rfl
        simp; omega
      have ht2 : t' = strL (tailL (k + 1)) := by
        rw [← ht', ← HT.out, strL_append]
        unfold tailL
        rw [List.cons_append, ← List.replicate_succ']
      have HT2 := Lib.hid ht2
      clear hend ht2 ht'
      go_wp2_with fail
      have hs2 : t'.size = k + 2 := by rw [HT2.out, strL_size, tailL_length]
      exact ⟨⟨k + 1, by omega, by rw [HT2.out], hbel.alloc _⟩, by show padZ x.size + 1 - t'.size < padZ x.size + 1 - t.size; omega⟩

set_option maxHeartbeats 4000000 in
theorem refof_any (kv : Value) (x : ByteArray) (hx : x.size ≤ 1000000) (w : World) (hk : KAt w kv) :
    Calls Tryd.prog 67 #[kv, .string x] w fun e w' => e = .returned (.string (strL (sumL (mixAll firstS (bl x)) (restOf (bl x)) x.size))) ∧ Below w.heap.size w w' := by
  have hKA := id hk
  obtain ⟨k0, k1, rfl, hK0, hK1⟩ := hk
  obtain ⟨g0, o0, c0, rfl, hg0, -⟩ := hK0
  obtain ⟨g1, o1, c1, rfl, hg1, -⟩ := hK1
  simp only [S8.l_length, keysL_length] at hKA ⊢
  have hnw := fun W h => refnew_any (.agg #[.slice (some ⟨g0, o0, none⟩) 64 c0, .slice (some ⟨g1, o1, none⟩) 8 c1]) W h
  have hwr := fun v W h1 h2 => refwrite_any (.agg #[.slice (some ⟨g0, o0, none⟩) 64 c0, .slice (some ⟨g1, o1, none⟩) 8 c1]) v firstS ⟨#[]⟩ x (by show 0 ≤ 1000000; omega) hx 0 (by omega) W h1 h2
  have hmt : bl ⟨#[]⟩ ++ bl x = bl x := rfl
  have hz : ((0 : Nat) : Int) = 0 := rfl
  have hxs : (0 + x.size) % 18446744073709551616 = x.size := by omega
  rw [hmt, hxs, hz] at hwr
  obtain ⟨u, hu⟩ : ∃ u, mixAll firstS (bl x) = u := ⟨_, rfl⟩
  obtain ⟨r, hr⟩ : ∃ r, restOf (bl x) = r := ⟨_, rfl⟩
  have hrl : r.length = x.size % 64 := by rw [← hr, restOf_length, bl_length]
  rw [hu, hr] at hwr
  rw [hu, hr]
  have HNW := Lib.hid hnw; have HWR := Lib.hid hwr
  clear hnw hwr hmt hz hxs hu hr
  go_enter Tryd.func67, Tryd.ntmps67
  go_upto_region 1 with fail
  have hb0 : Below w.heap.size w (w.alloc (.cells #[.slice (some ⟨g0, o0, none⟩) 64 c0, .slice (some ⟨g1, o1, none⟩) 8 c1] 49)) := by go_grown
  have hK0 : (w.alloc (.cells #[.slice (some ⟨g0, o0, none⟩) 64 c0, .slice (some ⟨g1, o1, none⟩) 8 c1] 49)).heap[w.heap.size]? = some (.cells #[.slice (some ⟨g0, o0, none⟩) 64 c0, .slice (some ⟨g1, o1, none⟩) 8 c1] 49) := heap_alloc_new _ _
  generalize World.alloc w _ = W at hb0 hK0 ⊢
  have e0 : W.cell? ⟨w.heap.size, 0, none⟩ = some (.slice (some ⟨g0, o0, none⟩) 64 c0) := by rw [cell_of_row _ _ _ _ _ _ hK0]; rfl
  have e1 : W.cell? ⟨w.heap.size, 1, none⟩ = some (.slice (some ⟨g1, o1, none⟩) 8 c1) := by rw [cell_of_row _ _ _ _ _ _ hK0]; rfl
  have hlt : w.heap.size < W.heap.size := (Array.getElem?_eq_some_iff.1 hK0).1
  have HKA := Lib.hid (hKA.on hb0)
  clear hKA hK0
  have hS : (fun w' : World => w'.cell? ⟨w.heap.size, 0, none⟩ = some (.slice (some ⟨g0, o0, none⟩) 64 c0) ∧ w'.cell? ⟨w.heap.size, 1, none⟩ = some (.slice (some ⟨g1, o1, none⟩) 8 c1)) W := ⟨e0, e1⟩
  have keep2 : ∀ (w1 w2 : World), (w1.cell? ⟨w.heap.size, 0, none⟩ = some (.slice (some ⟨g0, o0, none⟩) 64 c0) ∧ w1.cell? ⟨w.heap.size, 1, none⟩ = some (.slice (some ⟨g1, o1, none⟩) 8 c1)) → Below w1.heap.size w1 w2 → w.heap.size < w1.heap.size → (w2.cell? ⟨w.heap.size, 0, none⟩ = some (.slice (some ⟨g0, o0, none⟩) 64 c0) ∧ w2.cell? ⟨w.heap.size, 1, none⟩ = some (.slice (some ⟨g1, o1, none⟩) 8 c1)) := by
    rintro w1 w2 ⟨a0, a1⟩ hb hlt
    refine ⟨?_, ?_⟩
    · rw [hb.cell (p := ⟨w.heap.size, 0, none⟩) hlt]; exact a0
    · rw [hb.cell (p := ⟨w.heap.size, 1, none⟩) hlt]; exact a1
  have HKEEP := Lib.hid keep2
  clear keep2
  go_region_held3 (fun w' : World => w'.cell? ⟨w.heap.size, 0, none⟩ = some (.slice (some ⟨g0, o0, none⟩) 64 c0) ∧ w'.cell? ⟨w.heap.size, 1, none⟩ = some (.slice (some ⟨g1, o1, none⟩) 8 c1)) (first | go_keep | with_reducible assumption)
    (first | (go_at_call 77; refine (HNW.out _ (by exact HKA.out)).mono ?_; rintro e w2 ⟨v1, rfl, hV1, hb2⟩; have hS2 := HKEEP.out _ w2 (by exact ⟨e0, e1⟩) hb2 (by exact hlt); have h2s : W.heap.size ≤ w2.heap.size := hb2.size; have hk2 := KAt.on (by exact HKA.out) hb2) | (go_at_call 76; refine (HWR.out _ _ hk2 hV1).mono ?_; rintro e w3 ⟨v2, rfl, ⟨g, o, c, xr, rfl, hWr, hxr⟩, hb3⟩; have hS3 := HKEEP.out w2 w3 hS2 hb3 (by omega); have hk3 := hk2.on hb3) | (go_at_call 75; refine (refsum_any _ _ u xr x.size (by omega) (by rw [← bl_length, hxr]; omega) (by rw [← hrl, ← hxr, bl_length]) _ hk3 hWr).mono ?_; rintro e w4 ⟨rfl, hb4⟩; have hS4 := HKEEP.out w3 w4 hS3 hb4 (by have := hb3.size; omega)))
  have hB : Below w.heap.size w w4 := hb0.trans (Below.mono (show Below W.heap.size W w4 from (show Below W.heap.size W w2 from ⟨hb2.os, hb2.tape, hb2.output, hb2.size, hb2.block⟩).trans ((hb3.trans (hb4.mono hb3.size)).mono h2s)) (by omega))
  clear hb0 hb2 hb3 hb4 HKEEP HWR HNW hS2 hS3 hS4 hS
  go_wp2_with fail
  go_ret
  exact ⟨rfl, hB⟩
end Go.Proofs.YtdnjieffbgmagaaDoor

/- DigestTexts: any text's sum, a new one, and which two are the same, is as the document says. -/
namespace Go.Proofs.YtdnjieffbgmagaaDoor
open Go.RowKit Go.Sort
set_option maxRecDepth 100000
theorem KAt.bel {w0 w : World} {v : Value} (h : KAt w0 v) (hb : Bel w0 w) : KAt w v := h.on hb.b
end Go.Proofs.YtdnjieffbgmagaaDoor
