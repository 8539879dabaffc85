/- The contracts of slices.Equal and digest.Like. -/
import Derived.Test.YtohoenkdfconpaaDoorDopen
namespace Go.Proofs.YtohoenkdfconpaaDoor
open Go.RowKit
set_option maxRecDepth 100000

set_option maxHeartbeats 4000000 in
theorem equal_any (a b : Option Addr) (n m c d : Nat) (la lb : List (BitVec 32)) (hn : n ≤ maxLen) (hm : m ≤ maxLen) (w : World) (ha : WSl w a n la) (hb : WSl w b m lb) :
    Calls Tryd.prog 44 #[.slice a n c, .slice b m d] w fun e w' => e = .returned (.bool (decide (la = lb))) ∧ Below w.heap.size w w' := by
  unfold maxLen at hn hm
  by_cases hnm : n = m
  · subst hnm
    go_enter Tryd.func44, Tryd.ntmps44
    go_wp2_with fail
    have hla := ha.1
    have hlb := hb.1
    go_loopw [13] (SameRel w la lb n) (fun i _ => n - (intOf i).toNat)
    case atStart => exact ⟨0, by omega, rfl, rfl, Bel.refl _⟩
    case round =>
      obtain ⟨k, hk, rfl, heq, hbel⟩ := hrel
      by_cases hlt : k < n
      · obtain ⟨ba, oa, rfl, hba, hca⟩ := ha.2 (by omega)
        obtain ⟨bb, ob, rfl, hbb, hcb⟩ := hb.2 (by omega)
        have e0 : wr.cell? ⟨ba, oa + k, none⟩ = some (.int .u32 ((la.getD k 0).toNat : Int)) := by rw [hbel.b.cell (p := ⟨ba, oa + k, none⟩) hba]; exact hca k hlt
        have e1 : wr.cell? ⟨bb, ob + k, none⟩ = some (.int .u32 ((lb.getD k 0).toNat : Int)) := by rw [hbel.b.cell (p := ⟨bb, ob + k, none⟩) hbb]; exact hcb k hlt
        have l1 : (k : Int) < (n : Int) := by omega
        have HLA := Lib.hid hla; have HLB := Lib.hid hlb; have HEQ := Lib.hid heq
        clear hca hcb ha hb hla hlb heq
        obtain ⟨xa, hxa⟩ : ∃ z, la.getD k 0 = z := ⟨_, rfl⟩
        obtain ⟨xb, hxb⟩ : ∃ z, lb.getD k 0 = z := ⟨_, rfl⟩
        rw [hxa] at e0
        rw [hxb] at e1
        have HXA := Lib.hid hxa; have HXB := Lib.hid hxb
        clear hxa hxb
        by_cases hx : xa = xb
        · have b9 : ((xa.toNat : Int) != (xb.toNat : Int)) = false := by rw [hx]; simp
          have HX := Lib.hid hx
          clear hx
          go_wp2
          go_quiet (fail)
          go_wp2
          refine ⟨⟨k + 1, by omega, by simp, ?_, ⟨below_drewN hbel.b _⟩⟩, by simp [intOf]; omega⟩
          have ka : k < la.length := by rw [HLA.out]; exact hlt
          have kb : k < lb.length := by rw [HLB.out]; exact hlt
          rw [List.take_succ_eq_append_getElem ka, List.take_succ_eq_append_getElem kb, HEQ.out]
          have q1 := HXA.out; have q2 := HXB.out
          rw [List.getD_eq_getElem?_getD, List.getElem?_eq_getElem ka, Option.getD_some] at q1
          rw [List.getD_eq_getElem?_getD, List.getElem?_eq_getElem kb, Option.getD_some] at q2
          rw [q1, q2, HX.out]
        · have b9 : ((xa.toNat : Int) != (xb.toNat : Int)) = true := by
            rw [bne_iff_ne]; intro h; exact hx (BitVec.eq_of_toNat_eq (by omega))
          go_wp2
          go_quiet (fail)
          go_wp2
          go_ret
          refine ⟨ret_bool ?_, below_drewN hbel.b _⟩
          rw [eq_comm, decide_eq_false_iff_not]
          rintro rfl
          exact hx (HXA.out.symm.trans HXB.out)
      · go_wp2
        obtain rfl : k = n := by omega
        rw [List.take_of_length_le (by omega), List.take_of_length_le (by omega)] at heq
        go_ret
        exact ⟨ret_bool (by simp [heq]), hbel.b⟩
  · have b1 : ((n : Int) != (m : Int)) = true := by rw [bne_iff_ne]; omega
    have hs : decide (la = lb) = false := by
      have : la ≠ lb := by rintro rfl; exact hnm (ha.1.symm.trans hb.1)
      simp [this]
    rw [hs]
    clear hs
    go_enter Tryd.func44, Tryd.ntmps44
    go_wp2
    go_ret
    exact ⟨rfl, by go_grown⟩

set_option maxHeartbeats 4000000 in
theorem like_any (a b : Option Addr) (n m c d : Nat) (la lb : List (BitVec 32)) (x y : ByteArray) (p q : Nat) (hn : n ≤ maxLen) (hm : m ≤ maxLen) (w : World) (ha : WSl w a n la) (hb : WSl w b m lb) :
    Calls Tryd.prog 25 #[.agg #[.slice a n c, .string x, .int .u64 (p : Int)], .agg #[.slice b m d, .string y, .int .u64 (q : Int)]] w fun e w' => e = .returned (.bool (sameB la lb x y p q)) ∧ Below w.heap.size w w' := by
  have heq := fun W h1 h2 => equal_any a b n m c d la lb hn hm W h1 h2
  have HE := Lib.hid heq
  clear heq
  go_enter Tryd.func25, Tryd.ntmps25
  go_upto_region 1 with fail
  have hb0 : Below w.heap.size w ((w.alloc (.cells #[.slice a n c, .string x, .int .u64 (p : Int)] 25)).alloc (.cells #[.slice b m d, .string y, .int .u64 (q : Int)] 25)) := by go_grown
  have h0 : ((w.alloc (.cells #[.slice a n c, .string x, .int .u64 (p : Int)] 25)).alloc (.cells #[.slice b m d, .string y, .int .u64 (q : Int)] 25)).heap[w.heap.size]? = some (.cells #[.slice a n c, .string x, .int .u64 (p : Int)] 25) := heap_alloc2_old _ _ _
  have h1 : ((w.alloc (.cells #[.slice a n c, .string x, .int .u64 (p : Int)] 25)).alloc (.cells #[.slice b m d, .string y, .int .u64 (q : Int)] 25)).heap[w.heap.size + 1]? = some (.cells #[.slice b m d, .string y, .int .u64 (q : Int)] 25) := heap_alloc2_new _ _ _
  generalize World.alloc (World.alloc w _) _ = W at hb0 h0 h1 ⊢
  have hlt : w.heap.size + 1 < W.heap.size := (Array.getElem?_eq_some_iff.1 h1).1
  have c0 : W.cell? ⟨w.heap.size, 0, none⟩ = some (.slice a n c) := by rw [cell_of_row _ _ _ _ _ _ h0]; rfl
  have c1 : W.cell? ⟨w.heap.size + 1, 0, none⟩ = some (.slice b m d) := by rw [cell_of_row _ _ _ _ _ _ h1]; rfl
  have HA := Lib.hid (ha.on hb0); have HB := Lib.hid (hb.on hb0); have H0 := Lib.hid h0; have H1 := Lib.hid h1
  clear ha hb h0 h1
  go_wp2_with fail
  refine (HE.out _ HA.out HB.out).mono ?_
  rintro e w1 ⟨rfl, hb1⟩
  have g0 : w1.heap[w.heap.size]? = some (.cells #[.slice a n c, .string x, .int .u64 (p : Int)] 25) := by rw [hb1.block _ (by omega)]; exact H0.out
  have g1 : w1.heap[w.heap.size + 1]? = some (.cells #[.slice b m d, .string y, .int .u64 (q : Int)] 25) := by rw [hb1.block _ hlt]; exact H1.out
  have d0 : w1.cell? ⟨w.heap.size, 1, none⟩ = some (.string x) := by rw [cell_of_row _ _ _ _ _ _ g0]; rfl
  have d1 : w1.cell? ⟨w.heap.size + 1, 1, none⟩ = some (.string y) := by rw [cell_of_row _ _ _ _ _ _ g1]; rfl
  have d2 : w1.cell? ⟨w.heap.size, 2, none⟩ = some (.int .u64 (p : Int)) := by rw [cell_of_row _ _ _ _ _ _ g0]; rfl
  have d3 : w1.cell? ⟨w.heap.size + 1, 2, none⟩ = some (.int .u64 (q : Int)) := by rw [cell_of_row _ _ _ _ _ _ g1]; rfl
  have hbw : Below w.heap.size w w1 := hb0.trans (hb1.mono (by omega))
  clear HA HB H0 H1 g0 g1 c0 c1 HE hb1 hb0
  by_cases hl : la = lb
  · have e1 : decide (la = lb) = true := by simp [hl]
    rw [e1]
    by_cases hxy : x = y
    · subst hxy
      have hs : sameB la lb x x p q = ((p : Int) == (q : Int)) := by
        unfold sameB
        rw [Bool.eq_iff_iff]
        simp [hl]
        omega
      have HS := Lib.hid hs
      clear hs hl e1
      go_wp2_with fail
      go_ret
      exact ⟨by rw [HS.out]; first | rfl | simp, hbw⟩
    · have b2 : ¬ x.toList = y.toList := by rw [Lib.toList_data, Lib.toList_data]; intro h; exact hxy (bl_inj h)
      have b2' : (x.toList == y.toList) = false := by rw [beq_eq_false_iff_ne]; exact b2
      have hs : sameB la lb x y p q = false := by unfold sameB; simp [hxy]
      have HS := Lib.hid hs
      clear hs hl e1
      go_wp2_with fail
      go_ret
      exact ⟨by rw [HS.out]; rfl, hbw⟩
  · have e1 : decide (la = lb) = false := by simp [hl]
    have hs : sameB la lb x y p q = false := by unfold sameB; simp [hl]
    rw [e1]
    have HS := Lib.hid hs
    clear hs hl e1
    go_wp2_with fail
    go_ret
    exact ⟨by rw [HS.out]; rfl, hbw⟩
end Go.Proofs.YtohoenkdfconpaaDoor
