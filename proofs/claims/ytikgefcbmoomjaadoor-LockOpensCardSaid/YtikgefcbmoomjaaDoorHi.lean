/- The contracts of stream's Stream and Xor. -/
import Derived.Test.YtikgefcbmoomjaaDoorHh
namespace Go.Proofs.YtikgefcbmoomjaaDoor
open Go.RowKit
set_option maxRecDepth 100000
theorem Own.cell {w : World} {base G n cap : Nat} {l : List UInt8} (h : Own w base (.slice (some ⟨G, 0, none⟩) n cap) l) (hn : n = l.length) (j : Nat) (hj : j < l.length) : w.cell? ⟨G, j, none⟩ = some (.int .u8 ((l.getD j 0).toNat : Int)) := by
  subst hn
  have := World.ownsRow.cellAt h j (by omega)
  rw [this]
  simp [List.getD, hj, Lib.byteCells]
theorem Own.frozen {w : World} {base g n cap : Nat} {l : List UInt8} (h : Own w base (.slice (some ⟨g, 0, none⟩) n cap) l) (i : Nat) : w.frozen? ⟨g, i, none⟩ = false := by
  rcases h.2 with ⟨e, -⟩ | ⟨g', cap', cur, e, -, hc, -⟩
  · cases e
  · cases e; exact frozen_of_row _ _ _ _ _ hc
theorem Own.set {w : World} {base g n cap : Nat} {l : List UInt8} (h : Own w base (.slice (some ⟨g, 0, none⟩) n cap) l) (i : Nat) (_hi : i < l.length) (x : UInt8) : Own (w.setCell ⟨g, i, none⟩ (.int .u8 (x.toNat : Int))) base (.slice (some ⟨g, 0, none⟩) n cap) (l.set i x) := by
  unfold Own at *
  rw [List.length_set]
  refine ⟨by simp [Lib.byteCells], ?_⟩
  rcases h.2 with ⟨e, -⟩ | ⟨g', cap', cur, e, hb, hc, h1, h2, h3, h4⟩
  · cases e
  · cases e
    refine Or.inr ⟨g, cap, cur.setIfInBounds i (.int .u8 (x.toNat : Int)), rfl, hb, heap_setCell_same w g i _ _ _ hc, h1, h2, by simpa using h3, ?_⟩
    rw [Array.toList_setIfInBounds, List.take_set, h4]
    simp [Lib.byteCells, List.map_set]
theorem Own.base {w : World} {base g n cap : Nat} {l : List UInt8} (h : Own w base (.slice (some ⟨g, 0, none⟩) n cap) l) : base ≤ g := by
  rcases h.2 with ⟨e, -⟩ | ⟨g', cap', cur, e, hb, -⟩
  · cases e
  · cases e; exact hb
/-- the first k bytes turned -/
def xorK (s t : List UInt8) (k : Nat) : List UInt8 := (xorB s t).take k ++ t.drop k
theorem xorK_length (s t : List UInt8) (h : s.length = t.length) (k : Nat) : (xorK s t k).length = t.length := by
  unfold xorK
  rw [List.length_append, List.length_take, List.length_drop, xorB_length s t (by omega)]; omega
theorem xorK_get (s t : List UInt8) (h : s.length = t.length) (k : Nat) (hk : k < t.length) : (xorK s t k).getD k 0 = t.getD k 0 := by
  unfold xorK
  have hl : ((xorB s t).take k).length = k := by rw [List.length_take, xorB_length s t (by omega)]; omega
  rw [List.getD_eq_getElem?_getD, List.getD_eq_getElem?_getD, List.getElem?_append_right (by omega), hl, Nat.sub_self, List.getElem?_drop, Nat.add_zero]
theorem xorK_set (s t : List UInt8) (h : s.length = t.length) (k : Nat) (hk : k < t.length) : (xorK s t k).set k (t.getD k 0 ^^^ s.getD k 0) = xorK s t (k + 1) := by
  have hl : ((xorB s t).take k).length = k := by rw [List.length_take, xorB_length s t (by omega)]; omega
  have hx : (xorB s t).length = t.length := by rw [xorB_length s t (by omega)]; exact h
  have hg : (xorB s t)[k]'(by omega) = t.getD k 0 ^^^ s.getD k 0 := by
    unfold xorB
    rw [List.getElem_zipWith, UInt8.xor_comm]
    simp [List.getD, hk, show k < s.length by omega]
  unfold xorK
  rw [List.set_append_right _ _ (by omega), hl, Nat.sub_self, List.drop_eq_getElem_cons hk, List.set_cons_zero, ← hg, List.take_succ_eq_append_getElem (show k < (xorB s t).length by omega), List.append_assoc]
  rfl

def XoR (n base g m cap : Nat) (w : World) (s t : List UInt8) (i : Value) (wr : World) : Prop :=
  ∃ k : Nat, k ≤ m ∧ i = .int .i64 (k : Int) ∧ Own wr base (.slice (some ⟨g, 0, none⟩) m cap) (xorK s t k) ∧ Below n w wr
set_option maxHeartbeats 1000000 in
theorem Xor_any (k nc x : ByteArray) (hk : k.size = 32) (hn : nc.size = 12) (hx : x.size ≤ 4096) (w : World) :
    Calls Tryd.prog 31 #[.string k, .string nc, .string x] w fun e w' => e = .returned (.tuple #[.string (strL (xorC (bl k) (bl nc) (bl x))), .int .i64 0]) ∧ Below w.heap.size w w' := by
  have hf := fit_any k nc w
  rw [decide_eq_true ⟨hk, hn⟩] at hf
  have HF := Lib.hid hf
  have HFl := Lib.hid (flow_any k nc hk hn x.size hx)
  have h1 : ¬ (4096 : Int) < (x.size : Int) := by omega
  clear hf
  go_enter Tryd.func31, Tryd.ntmps31
  go_wp2_with fail
  refine HF.out.mono ?_
  rintro e w' ⟨rfl, rfl⟩
  go_wp2_with fail
  refine (HFl.out _).mono ?_
  rintro e w1 ⟨g, cap, rfl, hO, hB⟩
  obtain ⟨t, et⟩ : ∃ t, streamC (bl k) (bl nc) x.size = t := ⟨_, rfl⟩
  have hlt : t.length = x.size := by rw [← et]; exact streamC_length _ _ _
  rw [et] at hO
  have hlx : (bl x).length = t.length := by rw [hlt]; rfl
  have hxor : xorC (bl k) (bl nc) (bl x) = xorB (bl x) t := by rw [← et]; rfl
  have HX := Lib.hid hxor
  have HB := Lib.hid hB
  have HO := Lib.hid hO
  have HLT := Lib.hid hlt
  have HLX := Lib.hid hlx
  have hsz := hB.size
  have hgb := hO.base
  clear hO hB HF HFl et hxor hlt hlx
  go_wp2_with fail
  go_loopw [26] (XoR w.heap.size w.heap.size g x.size cap w (bl x) t) (fun i _ => x.size - (intOf i).toNat)
  case atStart => exact ⟨0, by omega, rfl, by have := HO.out; unfold xorK; simpa using this, HB.out⟩
  case round =>
    clear HO HB
    obtain ⟨j, hj, rfl, hO, hB⟩ := hrel
    by_cases hlt : j < x.size
    · have h2 : (j : Int) < (x.size : Int) := by omega
      have hll := xorK_length (bl x) t HLX.out j
      have c1 := hO.cell (by rw [hll, HLT.out]) j (by rw [hll, HLT.out]; exact hlt)
      rw [xorK_get _ _ HLX.out j (by rw [HLT.out]; exact hlt)] at c1
      have hstr := fun W => str_index x (j : Int) j rfl hlt W
      have hbx : (bl x).getD j 0 = x[j] := bl_get x j hlt
      obtain ⟨a, ea⟩ : ∃ a, t.getD j 0 = a := ⟨_, rfl⟩
      obtain ⟨b, eb⟩ : ∃ b, x[j] = b := ⟨_, rfl⟩
      rw [ea] at c1
      simp only [eb] at hstr hbx
      have hst := xorK_set (bl x) t HLX.out j (by rw [HLT.out]; exact hlt)
      rw [ea, hbx] at hst
      have hx8 := bits_xor8 a b
      generalize a ^^^ b = y at hst hx8
      have HST := Lib.hid hst
      have HO := Lib.hid hO; have HB := Lib.hid hB
      clear hO hB hll hst ea eb hbx
      go_wp2_with fail
      refine wp_region_last_drewN 9 _ (by kernel_rfl) rfl rfl rfl rfl (by kernel_rfl) (by kernel_rfl) ?_
      simp only [List.take_succ_cons, List.take_zero]
      iterate 9 (quiet_step (fail))
      refine wpQuiet_nil ?_
      intro _ hw'
      obtain ⟨nq, hw''⟩ := hw'
      subst hw''
      have hO1 : Own (wr.drewN nq) w.heap.size (.slice (some ⟨g, 0, none⟩) x.size cap) (xorK (bl x) t j) := HO.out
      have hb1 := below_drewN HB.out nq
      have c2 : (wr.drewN nq).cell? ⟨g, j, none⟩ = some (.int .u8 (a.toNat : Int)) := c1
      clear HO HB c1 hstr
      generalize wr.drewN nq = W at hO1 hb1 c2 ⊢
      have z2 := hO1.frozen j
      have hS := hO1.set j (by rw [xorK_length _ _ HLX.out, HLT.out]; exact hlt) y
      rw [HST.out] at hS
      have hbS := hb1.setCell (p := ⟨g, j, none⟩) hgb (.int .u8 (y.toNat : Int))
      have HS := Lib.hid hS; have HB := Lib.hid hbS
      clear hO1 hb1 hS hbS
      go_wp2_with fail
      exact ⟨⟨j + 1, by omega, by simp, HS.out, HB.out⟩, by simp [intOf]; omega⟩
    · obtain rfl : j = x.size := by omega
      have hfin : xorK (bl x) t x.size = xorB (bl x) t := by
        unfold xorK
        rw [List.take_of_length_le (by rw [xorB_length _ _ (by rw [HLX.out]; exact Nat.le_refl _)]; exact Nat.le_refl _), List.drop_eq_nil_of_le (by rw [HLT.out]; exact Nat.le_refl _), List.append_nil]
      rw [hfin] at hO
      have ht := hO.text (by rw [xorB_length _ _ (by rw [HLX.out]; exact Nat.le_refl _)]; rfl)
      have HB := Lib.hid hB
      clear hO hB hfin
      go_wp2_with fail
      go_ret2
      exact ⟨by rw [HX.out]; rfl, HB.out⟩
end Go.Proofs.YtikgefcbmoomjaaDoor