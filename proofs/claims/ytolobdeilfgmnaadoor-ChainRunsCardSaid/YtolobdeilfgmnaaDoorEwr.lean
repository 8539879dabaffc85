/- The contract of the reference's Write. -/
import Derived.Test.YtolobdeilfgmnaaDoorEwrite
namespace Go.Proofs.YtolobdeilfgmnaaDoor
open Go.RowKit
set_option maxRecDepth 100000
def WrRel (n : Nat) (W : World) (s : S8) (b : List UInt8) (al v : Value) (wr : World) : Prop :=
  ∃ (z : ByteArray) (u : S8) (g o c : Nat), al = .string z ∧ v = .slice (some ⟨g, o, none⟩) 8 c ∧ mixAll u (bl z) = mixAll s b ∧ restOf (bl z) = restOf b ∧ z.size ≤ 2000000 ∧ WsAt wr v u.l ∧ g ≠ n + 2 ∧ Below (n + 3) W wr
/-- a sum on its way, as a value -/
def HashV (w : World) (v : Value) (u : S8) (r : List UInt8) (q : Nat) : Prop := ∃ (g o c : Nat) (x : ByteArray), v = .agg #[.slice (some ⟨g, o, none⟩) 8 c, .string x, .int .u64 (q : Int)] ∧ WsAt w (.slice (some ⟨g, o, none⟩) 8 c) u.l ∧ bl x = r
theorem HashV.on {w w' : World} {v : Value} {u : S8} {r : List UInt8} {q : Nat} (h : HashV w v u r q) (hb : Below w.heap.size w w') : HashV w' v u r q := by
  obtain ⟨g, o, c, x, rfl, h1, h2⟩ := h
  exact ⟨g, o, c, x, rfl, h1.on hb, h2⟩

set_option maxHeartbeats 4000000 in
theorem refwrite_any (kv v : Value) (s : S8) (x y : ByteArray) (hx : x.size ≤ 1000000) (hy : y.size ≤ 1000000) (m : Nat) (_hm : m < 18446744073709551616) (w : World) (hk : KAt w kv) (hv : WsAt w v s.l) :
    Calls Tryd.prog 40 #[kv, .agg #[v, .string x, .int .u64 (m : Int)], .string y] w fun e w' =>
      ∃ r, e = .returned r ∧ HashV w' r (mixAll s (bl x ++ bl y)) (restOf (bl x ++ bl y)) ((m + y.size) % 18446744073709551616) ∧ Below w.heap.size w w' := by
  obtain ⟨gv, ov, cv, rfl, hgv, hcv⟩ := id hv
  have hKA := id hk
  obtain ⟨k0, k1, rfl, hK0, hK1⟩ := hk
  obtain ⟨g0, o0, c0, rfl, hg0, -⟩ := hK0
  obtain ⟨g1, o1, c1, rfl, hg1, -⟩ := hK1
  simp only [S8.l_length, keysL_length] at hv hcv hKA ⊢
  have hcat : ∀ W : World, (Op.stringOp .add x y).run Tryd.prog W = .ok (.string (x ++ y)) W := fun W => run_string_add_sum W x y (by omega)
  have hns : (9223372036854775807 < x.size + y.size) = False := by simp; omega
  have hxy : (x ++ y).size ≤ 2000000 := by rw [ByteArray.size_append]; omega
  clear hcv
  have hb0 : Below w.heap.size w (((w.alloc (.cells #[.slice (some ⟨g0, o0, none⟩) 64 c0, .slice (some ⟨g1, o1, none⟩) 8 c1] 29)).alloc (.cells #[.slice (some ⟨gv, ov, none⟩) 8 cv, .string x, .int .u64 (m : Int)] 72)).alloc (.cells #[.slice none 0 0, .string ⟨#[]⟩, .int .u64 0] 72)) := by go_grown
  go_enter Tryd.func40, Tryd.ntmps40
  go_wp2_with fail
  have hK0 : (((w.alloc (.cells #[.slice (some ⟨g0, o0, none⟩) 64 c0, .slice (some ⟨g1, o1, none⟩) 8 c1] 29)).alloc (.cells #[.slice (some ⟨gv, ov, none⟩) 8 cv, .string x, .int .u64 (m : Int)] 72)).alloc (.cells #[.slice none 0 0, .string ⟨#[]⟩, .int .u64 0] 72)).heap[w.heap.size]? = some (.cells #[.slice (some ⟨g0, o0, none⟩) 64 c0, .slice (some ⟨g1, o1, none⟩) 8 c1] 29) := by
    rw [(show Below (w.alloc (.cells #[.slice (some ⟨g0, o0, none⟩) 64 c0, .slice (some ⟨g1, o1, none⟩) 8 c1] 29)).heap.size (w.alloc (.cells #[.slice (some ⟨g0, o0, none⟩) 64 c0, .slice (some ⟨g1, o1, none⟩) 8 c1] 29)) (((w.alloc (.cells #[.slice (some ⟨g0, o0, none⟩) 64 c0, .slice (some ⟨g1, o1, none⟩) 8 c1] 29)).alloc (.cells #[.slice (some ⟨gv, ov, none⟩) 8 cv, .string x, .int .u64 (m : Int)] 72)).alloc (.cells #[.slice none 0 0, .string ⟨#[]⟩, .int .u64 0] 72)) by go_grown).block _ (by simp)]
    exact heap_alloc_new _ _
  have hH0 : (((w.alloc (.cells #[.slice (some ⟨g0, o0, none⟩) 64 c0, .slice (some ⟨g1, o1, none⟩) 8 c1] 29)).alloc (.cells #[.slice (some ⟨gv, ov, none⟩) 8 cv, .string x, .int .u64 (m : Int)] 72)).alloc (.cells #[.slice none 0 0, .string ⟨#[]⟩, .int .u64 0] 72)).heap[w.heap.size + 1]? = some (.cells #[.slice (some ⟨gv, ov, none⟩) 8 cv, .string x, .int .u64 (m : Int)] 72) := by
    have h := heap_alloc2_new w (.cells #[.slice (some ⟨g0, o0, none⟩) 64 c0, .slice (some ⟨g1, o1, none⟩) 8 c1] 29) (.cells #[.slice (some ⟨gv, ov, none⟩) 8 cv, .string x, .int .u64 (m : Int)] 72)
    rw [(show Below ((w.alloc (.cells #[.slice (some ⟨g0, o0, none⟩) 64 c0, .slice (some ⟨g1, o1, none⟩) 8 c1] 29)).alloc (.cells #[.slice (some ⟨gv, ov, none⟩) 8 cv, .string x, .int .u64 (m : Int)] 72)).heap.size ((w.alloc (.cells #[.slice (some ⟨g0, o0, none⟩) 64 c0, .slice (some ⟨g1, o1, none⟩) 8 c1] 29)).alloc (.cells #[.slice (some ⟨gv, ov, none⟩) 8 cv, .string x, .int .u64 (m : Int)] 72)) (((w.alloc (.cells #[.slice (some ⟨g0, o0, none⟩) 64 c0, .slice (some ⟨g1, o1, none⟩) 8 c1] 29)).alloc (.cells #[.slice (some ⟨gv, ov, none⟩) 8 cv, .string x, .int .u64 (m : Int)] 72)).alloc (.cells #[.slice none 0 0, .string ⟨#[]⟩, .int .u64 0] 72)) by go_grown).block _ (by simp)]
    exact h
  have hR0 : (((w.alloc (.cells #[.slice (some ⟨g0, o0, none⟩) 64 c0, .slice (some ⟨g1, o1, none⟩) 8 c1] 29)).alloc (.cells #[.slice (some ⟨gv, ov, none⟩) 8 cv, .string x, .int .u64 (m : Int)] 72)).alloc (.cells #[.slice none 0 0, .string ⟨#[]⟩, .int .u64 0] 72)).heap[w.heap.size + 2]? = some (.cells #[.slice none 0 0, .string ⟨#[]⟩, .int .u64 0] 72) := by
    have h := heap_alloc2_new (w.alloc (.cells #[.slice (some ⟨g0, o0, none⟩) 64 c0, .slice (some ⟨g1, o1, none⟩) 8 c1] 29)) (.cells #[.slice (some ⟨gv, ov, none⟩) 8 cv, .string x, .int .u64 (m : Int)] 72) (.cells #[.slice none 0 0, .string ⟨#[]⟩, .int .u64 0] 72)
    simpa using h
  have hs0 : (((w.alloc (.cells #[.slice (some ⟨g0, o0, none⟩) 64 c0, .slice (some ⟨g1, o1, none⟩) 8 c1] 29)).alloc (.cells #[.slice (some ⟨gv, ov, none⟩) 8 cv, .string x, .int .u64 (m : Int)] 72)).alloc (.cells #[.slice none 0 0, .string ⟨#[]⟩, .int .u64 0] 72)).heap.size = w.heap.size + 3 := by simp
  generalize World.alloc (World.alloc (World.alloc w _) _) _ = W at hb0 hK0 hH0 hR0 hs0 ⊢
  have HK0 := Lib.hid hK0; have HH0 := Lib.hid hH0; have HR0 := Lib.hid hR0
  have hv0 := hv.on hb0
  have hKA0 := hKA.on hb0
  have HV0 := Lib.hid hv0; have HKA0 := Lib.hid hKA0
  clear hK0 hH0 hR0 hv0 hKA0 hKA hv hcat hns
  go_loopw [7, 8] (WrRel w.heap.size W s (bl x ++ bl y)) (fun a _ _ => sizeOfStr a)
  case atStart => exact ⟨x ++ y, s, gv, ov, cv, rfl, rfl, by rw [bl_append], by rw [bl_append], hxy, HV0.out, by omega, Below.refl _ _⟩
  case round =>
    clear HV0 hxy
    obtain ⟨z, u, g, o, c, rfl, rfl, hmx, hrs, hz, hW, hg, hB⟩ := hrel
    have hsz := hB.size
    have hK : wr.heap[w.heap.size]? = some (.cells #[.slice (some ⟨g0, o0, none⟩) 64 c0, .slice (some ⟨g1, o1, none⟩) 8 c1] 29) := by rw [hB.block _ (by omega)]; exact HK0.out
    have c0' : wr.cell? ⟨w.heap.size, 0, none⟩ = some (.slice (some ⟨g0, o0, none⟩) 64 c0) := by rw [cell_of_row _ _ _ _ _ _ hK]; rfl
    have c1' : wr.cell? ⟨w.heap.size, 1, none⟩ = some (.slice (some ⟨g1, o1, none⟩) 8 c1) := by rw [cell_of_row _ _ _ _ _ _ hK]; rfl
    have hKAr : KAt wr (.agg #[.slice (some ⟨g0, o0, none⟩) 64 c0, .slice (some ⟨g1, o1, none⟩) 8 c1]) := HKA0.out.on (hB.mono (by omega))
    have HW := Lib.hid hW; have HKA := Lib.hid hKAr; have HMX := Lib.hid hmx; have HRS := Lib.hid hrs
    clear hW hKAr hmx hrs hK
    by_cases hlt : 64 ≤ z.size
    · have h1 : (64 : Int) ≤ (z.size : Int) := by omega
      have hg1 : decide ((64 : Int) ≤ (z.size : Int)) = true := by simpa using h1
      have h64 : (z.extract 0 64).size = 64 := by rw [ByteArray.size_extract]; omega
      have H64 := Lib.hid h64
      clear h64
      have hS : (fun w' : World => w'.cell? ⟨w.heap.size, 0, none⟩ = some (.slice (some ⟨g0, o0, none⟩) 64 c0) ∧ w'.cell? ⟨w.heap.size, 1, none⟩ = some (.slice (some ⟨g1, o1, none⟩) 8 c1)) wr := ⟨c0', c1'⟩
      go_wp2_with fail
      go_region_held3 (fun w' : World => w'.cell? ⟨w.heap.size, 0, none⟩ = some (.slice (some ⟨g0, o0, none⟩) 64 c0) ∧ w'.cell? ⟨w.heap.size, 1, none⟩ = some (.slice (some ⟨g1, o1, none⟩) 8 c1)) (first | go_keep | with_reducible assumption) ((go_at_call 46; refine (mix_any _ _ u _ H64.out _ ?_ ?_).mono ?_; exact HKA.out; exact HW.out; rintro e w2 ⟨g2, rfl, hO, hb⟩; have hS2 : w2.cell? ⟨w.heap.size, 0, none⟩ = some (.slice (some ⟨g0, o0, none⟩) 64 c0) ∧ w2.cell? ⟨w.heap.size, 1, none⟩ = some (.slice (some ⟨g1, o1, none⟩) 8 c1) := ⟨by rw [hb.cell (p := ⟨w.heap.size, 0, none⟩) (by show w.heap.size < wr.heap.size; omega)]; exact c0', by rw [hb.cell (p := ⟨w.heap.size, 1, none⟩) (by show w.heap.size < wr.heap.size; omega)]; exact c1'⟩))
      have hB2 : Below (w.heap.size + 3) W w2 := hB.trans (Below.mono (show Below wr.heap.size wr w2 from ⟨hb.os, hb.tape, hb.output, hb.size, hb.block⟩) (by omega))
      have hne : g2 ≠ w.heap.size + 2 := by
        have h8 : 0 < (mixS u (bl (z.extract 0 64))).l.length := by rw [S8.l_length]; omega
        exact hO.ne h8 (w.heap.size + 2) (by show w.heap.size + 2 < wr.heap.size; omega) _ _ _ rfl
      have hW2 : WsAt w2 (.slice (some ⟨g2, 0, none⟩) 8 8) (mixS u (bl (z.extract 0 64))).l := hO.ws (by rw [S8.l_length]; omega)
      have HQ := Lib.hid (And.intro hB2 (And.intro hne hW2))
      clear hB2 hne hW2 hO hb hS2 hS HW HKA H64 c0' c1'
      go_wp2_with fail
      have q1 : bl (z.extract 0 64) = (bl z).take 64 := by rw [bl_extract]; rfl
      have q2 : bl (z.extract 64 z.size) = (bl z).drop 64 := by rw [bl_extract, List.take_of_length_le (by rw [bl_length]; exact Nat.le_refl _)]
      refine ⟨⟨z.extract 64 z.size, mixS u (bl (z.extract 0 64)), g2, 0, 8, rfl, rfl, ?_, ?_, by rw [ByteArray.size_extract]; omega, HQ.out.2.2, HQ.out.2.1, HQ.out.1⟩, ?_⟩
      · rw [q2, q1, ← mixAll_step u (bl z) (by rw [bl_length]; exact hlt)]; exact HMX.out
      · rw [q2, ← restOf_step (bl z) (by rw [bl_length]; exact hlt)]; exact HRS.out
      · show (z.extract 64 z.size).size < z.size
        rw [ByteArray.size_extract]; omega
    · have h1 : ¬ (64 : Int) ≤ (z.size : Int) := by omega
      have hg1 : decide ((64 : Int) ≤ (z.size : Int)) = false := by simpa using h1
      have hlen : (bl z).length < 64 := by rw [bl_length]; omega
      have hmx := HMX.out
      have hrs := HRS.out
      rw [mixAll_end u (bl z) hlen] at hmx
      rw [restOf_end (bl z) hlen] at hrs
      have hH : wr.heap[w.heap.size + 1]? = some (.cells #[.slice (some ⟨gv, ov, none⟩) 8 cv, .string x, .int .u64 (m : Int)] 72) := by rw [hB.block _ (by omega)]; exact HH0.out
      have hR : wr.heap[w.heap.size + 2]? = some (.cells #[.slice none 0 0, .string ⟨#[]⟩, .int .u64 0] 72) := by rw [hB.block _ (by omega)]; exact HR0.out
      have m2 : wr.cell? ⟨w.heap.size + 1, 2, none⟩ = some (.int .u64 (m : Int)) := by rw [cell_of_row _ _ _ _ _ _ hH]; rfl
      have d0 : wr.cell? ⟨w.heap.size + 2, 0, none⟩ = some (.slice none 0 0) := by rw [cell_of_row _ _ _ _ _ _ hR]; rfl
      have d1 : wr.cell? ⟨w.heap.size + 2, 1, none⟩ = some (.string ⟨#[]⟩) := by rw [cell_of_row _ _ _ _ _ _ hR]; rfl
      have d2 : wr.cell? ⟨w.heap.size + 2, 2, none⟩ = some (.int .u64 0) := by rw [cell_of_row _ _ _ _ _ _ hR]; rfl
      have f0 := frozen_of_row wr (w.heap.size + 2) 0 _ _ hR
      have f1 := frozen_of_row wr (w.heap.size + 2) 1 _ _ hR
      have f2 := frozen_of_row wr (w.heap.size + 2) 2 _ _ hR
      obtain ⟨q, hq⟩ : ∃ q, (m + y.size) % 18446744073709551616 = q := ⟨_, rfl⟩
      have wq : IntKind.u64.wrap ((m : Int) + (y.size : Int)) = (q : Int) := by rw [IntKind.wrap_u64]; omega
      have wy : IntKind.u64.wrap (y.size : Int) = (y.size : Int) := by rw [IntKind.wrap_u64]; omega
      have hqm : ((m : Int) + (y.size : Int)) % 18446744073709551616 = (q : Int) := by omega
      have hwr : w.heap.size + 2 < wr.heap.size := (Array.getElem?_eq_some_iff.1 hR).1
      have hn1 : ∀ b k c', Value.slice (some ⟨g, o, none⟩) 8 c = .slice (some b) k c' → b.block ≠ w.heap.size + 2 := by
        intro b k c' e
        cases e
        exact hg
      have hBw : Below w.heap.size w wr := hb0.trans (hB.mono (by omega))
      have e0 := setCell_far (i := 2) (u := .int .u64 (q : Int)) (setCell_far (i := 1) (u := .string z) (World.cell?_setCell_same _ ⟨w.heap.size + 2, 0, none⟩ (.slice (some ⟨g, o, none⟩) 8 c) d0) (by omega)) (by omega)
      have e1 := setCell_far (i := 2) (u := .int .u64 (q : Int)) (World.cell?_setCell_same _ ⟨w.heap.size + 2, 1, none⟩ (.string z) (setCell_far (i := 0) (u := .slice (some ⟨g, o, none⟩) 8 c) d1 (by omega))) (by omega)
      have e2 := World.cell?_setCell_same _ ⟨w.heap.size + 2, 2, none⟩ (.int .u64 (q : Int)) (setCell_far (i := 1) (u := .string z) (setCell_far (i := 0) (u := .slice (some ⟨g, o, none⟩) 8 c) d2 (by omega)) (by omega))
      have q0 := ((HW.out.set (w.heap.size + 2) 0 hn1 (.slice (some ⟨g, o, none⟩) 8 c)).set (w.heap.size + 2) 1 hn1 (.string z)).set (w.heap.size + 2) 2 hn1 (.int .u64 (q : Int))
      have hbl : Below w.heap.size w _ := ((hBw.setCell (p := ⟨w.heap.size + 2, 0, none⟩) (by show w.heap.size ≤ w.heap.size + 2; omega) (.slice (some ⟨g, o, none⟩) 8 c)).setCell (p := ⟨w.heap.size + 2, 1, none⟩) (by show w.heap.size ≤ w.heap.size + 2; omega) (.string z)).setCell (p := ⟨w.heap.size + 2, 2, none⟩) (by show w.heap.size ≤ w.heap.size + 2; omega) (.int .u64 (q : Int))
      have E0 := Lib.hid e0; have E1 := Lib.hid e1; have E2 := Lib.hid e2; have Q0 := Lib.hid q0
      have HM := Lib.hid hmx; have HR := Lib.hid hrs; have HQ := Lib.hid hq
      clear e0 e1 e2 q0 hmx hrs hq hH hR hn1 HW HKA HMX HRS hB hb0 hBw c0' c1' hlen
      go_wp2_with fail
      have e0 := E0.out; have e1 := E1.out; have e2 := E2.out
      refine bodyPost_ret (v := .agg #[.slice (some ⟨g, o, none⟩) 8 c, .string z, .int .u64 (q : Int)]) (by simp [results, Tryd.results40, go_sem, e0, e1, e2]) rfl ⟨_, rfl, ⟨g, o, c, z, by rw [HQ.out], by rw [← HM.out]; exact Q0.out, HR.out⟩, hbl⟩
end Go.Proofs.YtolobdeilfgmnaaDoor