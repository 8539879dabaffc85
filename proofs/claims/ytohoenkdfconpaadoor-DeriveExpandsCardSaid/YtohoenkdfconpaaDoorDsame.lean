/- The contract of the reference's Same: whether two sums on their way are the same. -/
import Derived.Test.YtohoenkdfconpaaDoorDcut
namespace Go.Proofs.YtohoenkdfconpaaDoor
open Go.RowKit

/-- a slice of n words, nil or not, that reads as l -/
def WSl (w : World) (a : Option Addr) (n : Nat) (l : List (BitVec 32)) : Prop :=
  l.length = n ∧ (0 < n → ∃ b off : Nat, a = some ⟨b, off, none⟩ ∧ b < w.heap.size ∧ ∀ i, i < n → w.cell? ⟨b, off + i, none⟩ = some (.int .u32 ((l.getD i 0).toNat : Int)))
theorem WSl.on {w w' : World} {a : Option Addr} {n : Nat} {l : List (BitVec 32)} (h : WSl w a n l) (hb : Below w.heap.size w w') : WSl w' a n l := by
  refine ⟨h.1, fun h0 => ?_⟩
  obtain ⟨b, off, ha, hlt, hc⟩ := h.2 h0
  refine ⟨b, off, ha, Nat.lt_of_lt_of_le hlt hb.size, fun i hi => ?_⟩
  rw [hb.cell (p := ⟨b, off + i, none⟩) hlt]
  exact hc i hi
theorem WSl.of8 {w : World} {D : Nat} {t : TypeId} {l : List (BitVec 32)} (h : BlkW w D t l) (n : Nat) (hn : n = l.length) : WSl w (some ⟨D, 0, none⟩) n l := by
  subst hn
  refine ⟨rfl, fun _ => ⟨D, 0, rfl, h.lt, fun i hi => ?_⟩⟩
  rw [Nat.zero_add]; exact h.cell i hi
theorem WSl.ws {w : World} {a : Option Addr} {n c : Nat} {l : List (BitVec 32)} (h : WSl w a n l) (h0 : 0 < n) : WsAt w (.slice a n c) l := by
  obtain ⟨b, off, rfl, hlt, hc⟩ := h.2 h0
  have hl := h.1
  subst hl
  exact ⟨b, off, c, rfl, hlt, hc⟩

def sameB (la lb : List (BitVec 32)) (x y : ByteArray) (p q : Nat) : Bool := decide (la = lb ∧ x = y ∧ p = q)
def SameRel (w0 : World) (la lb : List (BitVec 32)) (n : Nat) (i : Value) (wr : World) : Prop := ∃ k : Nat, k ≤ n ∧ i = .int .i64 (k : Int) ∧ la.take k = lb.take k ∧ Bel w0 wr

set_option maxRecDepth 100000 in
set_option maxHeartbeats 4000000 in
theorem same_any (a b : Option Addr) (n m c d : Nat) (la lb : List (BitVec 32)) (x y : ByteArray) (p q : Nat) (hn : n ≤ maxLen) (hm : m ≤ maxLen) (w : World) (ha : WSl w a n la) (hb : WSl w b m lb) :
    Calls Tryd.prog 17 #[.agg #[.slice a n c, .string x, .int .u64 (p : Int)], .agg #[.slice b m d, .string y, .int .u64 (q : Int)]] w fun e w' => e = .returned (.bool (sameB la lb x y p q)) ∧ Below w.heap.size w w' := by
  unfold maxLen at hn hm
  by_cases hnm : n = m
  · subst hnm
    by_cases hxy : x = y
    · subst hxy
      by_cases hpq : p = q
      · subst hpq
        have hs : sameB la lb x x p p = decide (la = lb) := by unfold sameB; simp
        rw [hs]
        clear hs
        go_enter Tryd.func17, Tryd.ntmps17
        go_wp2
        obtain ⟨W0, hW0⟩ : ∃ W0, (w.alloc (.cells #[.slice a n c, .string x, .int .u64 (p : Int)] 25)).alloc (.cells #[.slice b n d, .string x, .int .u64 (p : Int)] 25) = W0 := ⟨_, rfl⟩
        have hB : Below w.heap.size w W0 := by rw [← hW0]; go_grown
        have c0 : W0.cell? ⟨w.heap.size, 0, none⟩ = some (.slice a n c) := by rw [← hW0]; simp
        have c1 : W0.cell? ⟨w.heap.size + 1, 0, none⟩ = some (.slice b n d) := by rw [← hW0]; simp
        have ha' := ha.on hB
        have hb' := hb.on hB
        rw [hW0]
        clear hW0 ha hb
        have hla := ha'.1
        have hlb := hb'.1
        go_loopw [30] (SameRel W0 la lb n) (fun i _ => n - (intOf i).toNat)
        case atStart => exact ⟨0, by omega, rfl, rfl, Bel.refl _⟩
        case round =>
          obtain ⟨k, hk, rfl, heq, hbel⟩ := hrel
          have hlt0 := World.block_lt_of_cell? W0 _ c0
          have hlt1 := World.block_lt_of_cell? W0 _ c1
          have d0 : wr.cell? ⟨w.heap.size, 0, none⟩ = some (.slice a n c) := by rw [hbel.b.cell (p := ⟨w.heap.size, 0, none⟩) hlt0]; exact c0
          have d1 : wr.cell? ⟨w.heap.size + 1, 0, none⟩ = some (.slice b n d) := by rw [hbel.b.cell (p := ⟨w.heap.size + 1, 0, none⟩) hlt1]; exact c1
          by_cases hlt : k < n
          · obtain ⟨ba, oa, rfl, hba, hca⟩ := ha'.2 (by omega)
            obtain ⟨bb, ob, rfl, hbb, hcb⟩ := hb'.2 (by omega)
            have e0 : wr.cell? ⟨ba, oa + k, none⟩ = some (.int .u32 ((la.getD k 0).toNat : Int)) := by rw [hbel.b.cell (p := ⟨ba, oa + k, none⟩) hba]; exact hca k hlt
            have e1 : wr.cell? ⟨bb, ob + k, none⟩ = some (.int .u32 ((lb.getD k 0).toNat : Int)) := by rw [hbel.b.cell (p := ⟨bb, ob + k, none⟩) hbb]; exact hcb k hlt
            have l1 : (k : Int) < (n : Int) := by omega
            have HLA := Lib.hid hla; have HLB := Lib.hid hlb; have HEQ := Lib.hid heq
            clear hca hcb ha' hb' c0 c1 hla hlb heq
            obtain ⟨xa, hxa⟩ : ∃ z, la.getD k 0 = z := ⟨_, rfl⟩
            obtain ⟨xb, hxb⟩ : ∃ z, lb.getD k 0 = z := ⟨_, rfl⟩
            rw [hxa] at e0
            rw [hxb] at e1
            have HXA := Lib.hid hxa; have HXB := Lib.hid hxb
            clear hxa hxb
            by_cases hx : xa = xb
            · have b9 : ((xa.toNat : Int) != (xb.toNat : Int)) = false := by rw [hx]; simp
              have HX := Lib.hid hx
              clear hx
              go_wp2
              go_quiet (fail)
              go_wp2
              refine ⟨⟨k + 1, by omega, by simp, ?_, ⟨below_drewN hbel.b _⟩⟩, by simp [intOf]; omega⟩
              have ka : k < la.length := by rw [HLA.out]; exact hlt
              have kb : k < lb.length := by rw [HLB.out]; exact hlt
              rw [List.take_succ_eq_append_getElem ka, List.take_succ_eq_append_getElem kb, HEQ.out]
              have q1 := HXA.out; have q2 := HXB.out
              rw [List.getD_eq_getElem?_getD, List.getElem?_eq_getElem ka, Option.getD_some] at q1
              rw [List.getD_eq_getElem?_getD, List.getElem?_eq_getElem kb, Option.getD_some] at q2
              rw [q1, q2, HX.out]
            · have b9 : ((xa.toNat : Int) != (xb.toNat : Int)) = true := by
                rw [bne_iff_ne]; intro h; exact hx (BitVec.eq_of_toNat_eq (by omega))
              go_wp2
              go_quiet (fail)
              go_wp2
              go_ret
              refine ⟨ret_bool ?_, hB.trans (below_drewN (hbel.b.mono hB.size) _)⟩
              rw [eq_comm, decide_eq_false_iff_not]
              rintro rfl
              exact hx (HXA.out.symm.trans HXB.out)
          · go_wp2
            obtain rfl : k = n := by omega
            rw [List.take_of_length_le (by omega), List.take_of_length_le (by omega)] at heq
            go_ret
            exact ⟨ret_bool (by simp [heq]), hB.trans (hbel.b.mono hB.size)⟩
      · have b3 : ((p : Int) != (q : Int)) = true := by rw [bne_iff_ne]; omega
        have hs : sameB la lb x x p q = false := by unfold sameB; simp [hpq]
        rw [hs]
        clear hs
        go_enter Tryd.func17, Tryd.ntmps17
        go_wp2
        go_ret
        exact ⟨rfl, by go_grown⟩
    · have b2 : ¬ x.toList = y.toList := by rw [Lib.toList_data, Lib.toList_data]; intro h; exact hxy (bl_inj h)
      have b2' : (x.toList == y.toList) = false := by rw [beq_eq_false_iff_ne]; exact b2
      have hs : sameB la lb x y p q = false := by unfold sameB; simp [hxy]
      rw [hs]
      clear hs
      go_enter Tryd.func17, Tryd.ntmps17
      go_wp2
      go_ret
      exact ⟨rfl, by go_grown⟩
  · have b1 : ((n : Int) != (m : Int)) = true := by rw [bne_iff_ne]; omega
    have hs : sameB la lb x y p q = false := by
      unfold sameB
      have : la ≠ lb := by rintro rfl; exact hnm (ha.1.symm.trans hb.1)
      simp [this]
    rw [hs]
    clear hs
    go_enter Tryd.func17, Tryd.ntmps17
    go_wp2
    go_ret
    exact ⟨rfl, by go_grown⟩
end Go.Proofs.YtohoenkdfconpaaDoor
