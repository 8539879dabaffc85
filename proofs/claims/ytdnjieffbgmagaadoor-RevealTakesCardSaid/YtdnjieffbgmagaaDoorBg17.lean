/- The texts Xe, Xg, Xh, Xi, Xl, Xo, Xpa, Xpb, one behind the other. -/
import Derived.Test.YtdnjieffbgmagaaDoorBg16
import Derived.BigQuiet
import Derived.Lib.QuietBelow
import Derived.Deep.Strs
import Derived.Lib.SmallJoins
import Derived.Carry
/- The reference 12: Sized, At, Same; the law's few. -/
namespace Go.Proofs.YtdnjieffbgmagaaDoor
open Go.RowKit
set_option maxRecDepth 100000
theorem str_eqK (s t : ByteArray) : (s.toList == t.toList) = decide (s = t) := by
  rw [Lib.toList_data, Lib.toList_data]
  by_cases h : s = t
  · subst h; simp
  · rw [decide_eq_false h, beq_eq_false_iff_ne]
    exact fun e => h (bl_inj e)
theorem nat_eqK (n m : Nat) : ((n : Int) == (m : Int)) = decide (n = m) := by
  by_cases h : n = m
  · subst h; simp
  · rw [decide_eq_false h, beq_eq_false_iff_ne]; omega
theorem below_dnK {w wr : World} (h : Below w.heap.size w wr) (o : Obj) : Below w.heap.size w (wr.alloc o) := h.alloc h.size o
set_option maxHeartbeats 400000 in
theorem sizedR_any (p : Kk) (w : World) :
    Calls Tryd.prog 45 #[kkv p] w fun e w' => e = .returned (.bool (decide (sizedK p))) ∧ Below w.heap.size w w' := by
  obtain ⟨r, n, k⟩ := p
  have hb : Below w.heap.size w (w.alloc (.cells #[.string r, .int .u64 (n : Int), .string k] 56)) := (Below.refl _ _).alloc (Nat.le_refl _) _
  have HB := Lib.hid hb
  clear hb
  unfold kkv
  simp only
  by_cases hr : r.size = 32
  · have q1 : ((r.size : Int) == 32) = true := by rw [hr]; rfl
    by_cases hk : k.size = 32
    · have q2 : ((k.size : Int) == 32) = true := by rw [hk]; rfl
      rw [show decide (sizedK ⟨r, n, k⟩) = true from decide_eq_true ⟨hr, hk⟩]
      clear hr hk
      go_enter Tryd.func45, Tryd.ntmps45
      go_wp2_with fail
      go_ret
      exact ⟨rfl, HB.out⟩
    · have q2 : ((k.size : Int) == 32) = false := by rw [beq_eq_false_iff_ne]; omega
      rw [show decide (sizedK ⟨r, n, k⟩) = false from decide_eq_false fun h => hk h.2]
      clear hr hk
      go_enter Tryd.func45, Tryd.ntmps45
      go_wp2_with fail
      go_ret
      exact ⟨rfl, HB.out⟩
  · have q1 : ((r.size : Int) == 32) = false := by rw [beq_eq_false_iff_ne]; omega
    rw [show decide (sizedK ⟨r, n, k⟩) = false from decide_eq_false fun h => hr h.1]
    clear hr
    go_enter Tryd.func45, Tryd.ntmps45
    go_wp2_with fail
    go_ret
    exact ⟨rfl, HB.out⟩
def AtRel (w : World) (l : List Kk) (r : ByteArray) (n : Nat) (i : Value) (wr : World) : Prop :=
  ∃ k : Nat, k ≤ l.length ∧ i = .int .i64 (k : Int) ∧ (∀ j, j < k → isK r n (l.getD j k00) = false) ∧ Below w.heap.size w wr
set_option maxHeartbeats 2000000 in
theorem atR_any (a : Option Addr) (c : Nat) (l : List Kk) (r : ByteArray) (n : Nat) (hl : l.length ≤ 1000) (w : World) (hp : KSl w a l) :
    Calls Tryd.prog 46 #[.slice a l.length c, .string r, .int .u64 (n : Int)] w fun e w' => e = .returned (.int .i64 (atI l r n)) ∧ Below w.heap.size w w' := by
  have HP := Lib.hid hp; have HL := Lib.hid hl
  clear hp hl
  go_enter Tryd.func46, Tryd.ntmps46
  go_wp2_with fail
  go_loopw [11] (fun i wr => AtRel w l r n i wr) (fun i _ => l.length - (intOf i).toNat)
  case atStart => exact ⟨0, Nat.zero_le _, rfl, fun j hj => absurd hj (Nat.not_lt_zero j), Below.refl _ _⟩
  case round =>
    obtain ⟨k, hk, rfl, hno, hB⟩ := hrel
    by_cases hlt : k < l.length
    · have h1 : (k : Int) < (l.length : Int) := by omega
      have h1k : (k : Int) < 1000 := by have := HL.out; omega
      obtain ⟨g, off, rfl, hbl, hc⟩ := HP.out (by omega)
      have hpt := (hc k hlt).below hB hbl
      have hf := fun h => atI_found l r n k hlt hno h
      have hn2 : isK r n (l.getD k k00) = false → ∀ j, j < k + 1 → isK r n (l.getD j k00) = false := fun h j hj => by
        by_cases e : j = k
        · subst e; exact h
        · exact hno j (by omega)
      obtain ⟨p, ep⟩ : ∃ p, l.getD k k00 = p := ⟨_, rfl⟩
      rw [ep] at hpt hf hn2
      obtain ⟨x, m, y⟩ := p
      obtain ⟨c0, c1, c2⟩ := hpt
      simp only at c0 c1 c2
      have q1 := str_eqK x r
      have q2 := nat_eqK m n
      have hB2 := below_dnK hB (.cells #[.string x, .int .u64 (m : Int), .string y] 56)
      have HB := Lib.hid hB2; have HF := Lib.hid hf; have HN := Lib.hid hn2
      clear hB hB2 hc hno ep hbl hf hn2
      by_cases e1 : x = r
      · rw [decide_eq_true e1] at q1
        by_cases e2 : m = n
        · rw [decide_eq_true e2] at q2
          have hh : isK r n ⟨x, m, y⟩ = true := by simp [isK, e1, e2]
          have HA := Lib.hid (HF.out hh)
          clear e1 e2 hh HN HF
          go_wp2_with fail
          go_ret
          exact ⟨by rw [HA.out]; rfl, HB.out⟩
        · rw [decide_eq_false e2] at q2
          have hh : isK r n ⟨x, m, y⟩ = false := by simp [isK, e2]
          have HA := Lib.hid (HN.out hh)
          clear e1 e2 hh HN HF
          go_wp2_with fail
          exact ⟨⟨k + 1, by omega, by simp, HA.out, HB.out⟩, by simp [intOf]; omega⟩
      · rw [decide_eq_false e1] at q1
        have hh : isK r n ⟨x, m, y⟩ = false := by simp [isK, e1]
        have HA := Lib.hid (HN.out hh)
        clear e1 hh HN HF
        go_wp2_with fail
        exact ⟨⟨k + 1, by omega, by simp, HA.out, HB.out⟩, by simp [intOf]; omega⟩
    · obtain rfl : k = l.length := by omega
      have hn : ¬ (l.length : Int) < (l.length : Int) := by omega
      have HA := Lib.hid (atI_none l r n hno); have HB := Lib.hid hB
      clear hB hno
      go_wp2_with fail
      go_ret
      exact ⟨by rw [HA.out]; rfl, HB.out⟩
end Go.Proofs.YtdnjieffbgmagaaDoor

/- The reference 12: Same, Put, Without; the law's few. -/
namespace Go.Proofs.YtdnjieffbgmagaaDoor
open Go.RowKit Go.Sort
set_option maxRecDepth 100000
def SameRelK (w : World) (l m : List Kk) (i : Value) (wr : World) : Prop :=
  ∃ k : Nat, k ≤ l.length ∧ i = .int .i64 (k : Int) ∧ (∀ j, j < k → l.getD j k00 = m.getD j k00) ∧ Below w.heap.size w wr
theorem same_all {l m : List Kk} (hl : l.length = m.length) (h : ∀ j, j < l.length → l.getD j k00 = m.getD j k00) : l = m := by
  refine List.ext_getElem hl fun j h1 h2 => ?_
  have := h j h1
  simpa [List.getD, h1, h2] using this
theorem same_not {l m : List Kk} {j : Nat} (h : l.getD j k00 ≠ m.getD j k00) : l ≠ m := fun e => h (by rw [e])
set_option maxHeartbeats 4000000 in
theorem sameR_any (a b : Option Addr) (c c' : Nat) (l m : List Kk) (hl : l.length ≤ 1000) (w : World) (hp : KSl w a l) (hq : KSl w b m) :
    Calls Tryd.prog 28 #[.slice a l.length c, .slice b m.length c'] w fun e w' => e = .returned (.bool (decide (l = m))) ∧ Below w.heap.size w w' := by
  have HP := Lib.hid hp; have HQ := Lib.hid hq; have HL := Lib.hid hl
  clear hp hq hl
  by_cases hlen : l.length = m.length
  case neg =>
    have hn : ¬ (l.length : Int) = (m.length : Int) := by omega
    rw [decide_eq_false fun e => hlen (by rw [e])]
    clear hlen HP HQ HL
    go_enter Tryd.func28, Tryd.ntmps28
    go_wp2_with fail
    go_ret
    exact ⟨rfl, Below.refl _ _⟩
  case pos =>
    rw [show m.length = l.length from hlen.symm]
    have HLN := Lib.hid hlen
    clear hlen
    go_enter Tryd.func28, Tryd.ntmps28
    go_wp2_with fail
    go_loopw [13] (SameRelK w l m) (fun i _ => l.length - (intOf i).toNat)
    case atStart => exact ⟨0, Nat.zero_le _, rfl, fun j hj => absurd hj (Nat.not_lt_zero j), Below.refl _ _⟩
    case round =>
      obtain ⟨k, hk, rfl, hd, hB⟩ := hrel
      by_cases hlt : k < l.length
      · have h1 : (k : Int) < (l.length : Int) := by omega
        have h1k : (k : Int) < 1000 := by have := HL.out; omega
        obtain ⟨g, off, rfl, hbl, hc⟩ := HP.out (by omega)
        obtain ⟨g', off', rfl, hbl', hc'⟩ := HQ.out (by have := HLN.out; omega)
        have hpt := (hc k hlt).below hB hbl
        have hpt' := (hc' k (by have := HLN.out; omega)).below hB hbl'
        have hno : l.getD k k00 ≠ m.getD k k00 → l ≠ m := same_not
        have hyes : l.getD k k00 = m.getD k k00 → ∀ j, j < k + 1 → l.getD j k00 = m.getD j k00 := fun h j hj => by
          by_cases e : j = k
          · subst e; exact h
          · exact hd j (by omega)
        obtain ⟨p, ep⟩ : ∃ p, l.getD k k00 = p := ⟨_, rfl⟩
        obtain ⟨q, eq⟩ : ∃ q, m.getD k k00 = q := ⟨_, rfl⟩
        rw [ep] at hpt hno hyes
        rw [eq] at hpt' hno hyes
        obtain ⟨r, n, s⟩ := p
        obtain ⟨r', n', s'⟩ := q
        obtain ⟨c0, c1, c2⟩ := hpt
        obtain ⟨d0, d1, d2⟩ := hpt'
        simp only at c0 c1 c2 d0 d1 d2
        have q1 := str_eqK r r'
        have q2 := nat_eqK n n'
        have q3 := str_eqK s s'
        have HB := Lib.hid hB; have HN := Lib.hid hno; have HY := Lib.hid hyes
        clear hB hc hc' ep eq hd hbl hbl' hno hyes
        go_upto_region 6 with fail
        by_cases e1 : r = r' ∧ n = n' ∧ s = s'
        · obtain ⟨rfl, rfl, rfl⟩ := e1
          have HY2 := Lib.hid (HY.out rfl)
          clear HY HN q1 q2 q3
          go_quiet (fail)
          go_wp2_with fail
          exact ⟨⟨k + 1, by omega, by simp, HY2.out, below_redrawn HB.out (by first | rfl | simp) (by first | rfl | simp) (by first | rfl | simp) (by first | rfl | simp)⟩, by simp [intOf]; omega⟩
        · have HN2 := Lib.hid (decide_eq_false (HN.out fun h => e1 (by cases h; exact ⟨rfl, rfl, rfl⟩)))
          clear HN HY
          by_cases f1 : r = r'
          · subst f1
            clear q1
            by_cases f2 : n = n'
            · subst f2
              have f3 : s ≠ s' := fun h => e1 ⟨rfl, rfl, h⟩
              rw [decide_eq_false f3] at q3
              clear q2 e1 f3
              go_quiet (fail)
              go_wp2_with fail
              go_ret
              exact ⟨by rw [HN2.out]; rfl, below_redrawn HB.out (by first | rfl | simp) (by first | rfl | simp) (by first | rfl | simp) (by first | rfl | simp)⟩
            · rw [decide_eq_false f2] at q2
              clear q3 e1 f2
              go_quiet (fail)
              go_wp2_with fail
              go_ret
              exact ⟨by rw [HN2.out]; rfl, below_redrawn HB.out (by first | rfl | simp) (by first | rfl | simp) (by first | rfl | simp) (by first | rfl | simp)⟩
          · rw [decide_eq_false f1] at q1
            clear q2 q3 e1 f1
            go_quiet (fail)
            go_wp2_with fail
            go_ret
            exact ⟨by rw [HN2.out]; rfl, below_redrawn HB.out (by first | rfl | simp) (by first | rfl | simp) (by first | rfl | simp) (by first | rfl | simp)⟩
      · obtain rfl : k = l.length := by omega
        have hn : ¬ (l.length : Int) < (l.length : Int) := by omega
        have HD := Lib.hid (decide_eq_true (same_all HLN.out hd)); have HB := Lib.hid hB
        clear hB hd
        go_wp2_with fail
        go_ret
        exact ⟨by rw [HD.out]; rfl, HB.out⟩
end Go.Proofs.YtdnjieffbgmagaaDoor

/- The reference 12's Right; the law's few. -/
namespace Go.Proofs.YtdnjieffbgmagaaDoor
open Go.RowKit Go.Sort
set_option maxRecDepth 100000
def RightRelK (w : World) (l : List Kk) (i : Value) (wr : World) : Prop :=
  ∃ k : Nat, k ≤ l.length ∧ i = .int .i64 (k : Int) ∧ (∀ j, j < k → goodAt l j) ∧ Below w.heap.size w wr
theorem right_notK {l : List Kk} {k : Nat} (hk : k < l.length) (h : ¬ goodAt l k) : decide (rightK l) = false := by
  rw [decide_eq_false_iff_not, rightK_iff]
  exact fun e => h (e.2 k hk)
theorem right_end {l : List Kk} (h : ∀ j, j < l.length → goodAt l j) : decide (rightK l) = decide (l.length ≤ 20) := by
  by_cases h2 : l.length ≤ 20
  · rw [decide_eq_true h2, decide_eq_true ((rightK_iff l).2 ⟨h2, h⟩)]
  · rw [decide_eq_false h2, decide_eq_false fun e => h2 e.few]
set_option maxHeartbeats 4000000 in
theorem rightR_any (a : Option Addr) (c : Nat) (l : List Kk) (hl : l.length ≤ 1000) (hlc : l.length ≤ c) (w : World) (hp : KSl w a l) :
    Calls Tryd.prog 27 #[.slice a l.length c] w fun e w' => e = .returned (.bool (decide (rightK l))) ∧ Below w.heap.size w w' := by
  have HP := Lib.hid hp; have HL := Lib.hid (And.intro hl hlc)
  clear hp hl hlc
  go_enter Tryd.func27, Tryd.ntmps27
  go_wp2_with fail
  go_loopw [7] (fun i wr => RightRelK w l i wr) (fun i _ => l.length - (intOf i).toNat)
  case atStart => exact ⟨0, Nat.zero_le _, rfl, fun j hj => absurd hj (Nat.not_lt_zero j), Below.refl _ _⟩
  case round =>
    obtain ⟨k, hk, rfl, hok, hB⟩ := hrel
    by_cases hlt : k < l.length
    · have h1 : (k : Int) < (l.length : Int) := by omega
      have h1k : (k : Int) < 1000 := by have := HL.out; omega
      have h1c : (k : Int) ≤ (c : Int) := by have := HL.out; omega
      obtain ⟨g, off, rfl, hbl, hc⟩ := HP.out (by omega)
      have hpt := (hc k hlt).below hB hbl
      have hno : ¬ goodAt l k → decide (rightK l) = false := right_notK hlt
      have hyes : goodAt l k → ∀ j, j < k + 1 → goodAt l j := fun h j hj => by
        by_cases e : j = k
        · subst e; exact h
        · exact hok j (by omega)
      have hgo : goodAt l k ↔ sizedK (l.getD k k00) ∧ atK (l.take k) (l.getD k k00).r (l.getD k k00).n = none := Iff.rfl
      obtain ⟨p, ep⟩ : ∃ p, l.getD k k00 = p := ⟨_, rfl⟩
      rw [ep] at hpt hgo
      obtain ⟨x, m, y⟩ := p
      obtain ⟨c0, c1, c2⟩ := hpt
      simp only at c0 c1 c2
      have htk : (l.take k).length = k := by rw [List.length_take]; omega
      obtain ⟨W, eW⟩ : ∃ W, wr.alloc (.cells #[.string x, .int .u64 (m : Int), .string y] 56) = W := ⟨_, rfl⟩
      have hW := below_dnK hB (.cells #[.string x, .int .u64 (m : Int), .string y] 56)
      have hks := (HP.out.on hW).take k
      have hcW := heap_alloc_new wr (.cells #[.string x, .int .u64 (m : Int), .string y] 56)
      rw [eW] at hW hks hcW
      have hS := fun (d : Nat) (os : Array Obj) => sizedR_any ⟨x, m, y⟩ (grow (redrawn W d) os)
      have hA := fun (d : Nat) (os : Array Obj) => atR_any (some ⟨g, off, none⟩) c (l.take k) x m (by have := HL.out; omega) (grow (redrawn W d) os) (hks.on (below_regrown W d os))
      rw [htk] at hA
      unfold kkv at hS
      simp only at hS
      obtain ⟨B, eB⟩ : ∃ B, wr.heap.size = B := ⟨_, rfl⟩
      rw [eB] at hcW
      have e0 : W.cell? ⟨B, 0, none⟩ = some (.string x) := by rw [cell_of_row _ _ _ _ _ _ hcW]; rfl
      have e1 : W.cell? ⟨B, 1, none⟩ = some (.int .u64 (m : Int)) := by rw [cell_of_row _ _ _ _ _ _ hcW]; rfl
      have e2 : W.cell? ⟨B, 2, none⟩ = some (.string y) := by rw [cell_of_row _ _ _ _ _ _ hcW]; rfl
      have q0 := cell_regrown e0; have q1 := cell_regrown e1; have q2 := cell_regrown e2
      have HB := Lib.hid hW; have HNO := Lib.hid hno; have HYES := Lib.hid hyes; have HGO := Lib.hid hgo
      clear hB hW hks hcW hno hyes hgo hok hc hbl ep htk e0 e1 e2
      by_cases hs : sizedK ⟨x, m, y⟩
      · rw [decide_eq_true hs] at hS
        cases hat : atK (l.take k) x m with
        | none =>
          have hai : atI (l.take k) x m = -1 := by unfold atI; rw [hat]
          rw [hai] at hA
          have HY := Lib.hid (HYES.out (HGO.out.2 ⟨hs, hat⟩))
          have HS := Lib.hid hS; have HA := Lib.hid hA
          clear hs hS hA HNO HYES HGO hat hai
          go_upto_region 4 with fail
          clear c0 c1 c2
          refine wp_region_quiet_below (by kernel_rfl) (by kernel_rfl) ?_
          iterate 14 (go_big_quiet_step (first | (go_at_call 45; with_reducible exact Calls.regrown_of (HS.out _ _)) | (go_at_call 46; with_reducible exact Calls.regrown_of (HA.out _ _))))
          refine wpQuiet_nil ?_
          intro _ hw'
          obtain ⟨⟨dq, osq⟩, hw''⟩ := hw'
          subst hw''
          have hb := below_regrown W dq osq
          have HB2 := Lib.hid (HB.out.trans (hb.mono HB.out.size))
          clear q0 q1 q2 hb HS HA HB
          generalize grow (redrawn W dq) osq = W1 at HB2 ⊢
          rename_i K hK
          refine hK _ _ ?_
          clear hK K
          go_wp2_with fail
          exact ⟨⟨k + 1, by omega, by simp, HY.out, HB2.out⟩, by simp [intOf]; omega⟩
        | some i =>
          have hai : atI (l.take k) x m = (i : Int) := by unfold atI; rw [hat]
          rw [hai] at hA
          have HN := Lib.hid (HNO.out fun h => by rw [(HGO.out.1 h).2] at hat; cases hat)
          have HS := Lib.hid hS; have HA := Lib.hid hA
          have hi0 : (0 : Int) ≤ (i : Int) := by omega
          clear hs hS hA HNO HYES HGO hat hai
          go_upto_region 4 with fail
          clear c0 c1 c2
          refine wp_region_quiet_below (by kernel_rfl) (by kernel_rfl) ?_
          iterate 14 (go_big_quiet_step (first | (go_at_call 45; with_reducible exact Calls.regrown_of (HS.out _ _)) | (go_at_call 46; with_reducible exact Calls.regrown_of (HA.out _ _))))
          refine wpQuiet_nil ?_
          intro _ hw'
          obtain ⟨⟨dq, osq⟩, hw''⟩ := hw'
          subst hw''
          have hb := below_regrown W dq osq
          have HB2 := Lib.hid (HB.out.trans (hb.mono HB.out.size))
          clear q0 q1 q2 hb HS HA HB
          generalize grow (redrawn W dq) osq = W1 at HB2 ⊢
          rename_i K hK
          refine hK _ _ ?_
          clear hK K
          go_wp2_with fail
          go_ret
          exact ⟨by rw [HN.out]; rfl, HB2.out⟩
      · rw [decide_eq_false hs] at hS
        have HN := Lib.hid (HNO.out fun h => hs (HGO.out.1 h).1)
        have HS := Lib.hid hS
        clear hs hS hA HNO HYES HGO
        go_upto_region 4 with fail
        clear c0 c1 c2
        refine wp_region_quiet_below (by kernel_rfl) (by kernel_rfl) ?_
        iterate 14 (go_big_quiet_step (first | (go_at_call 45; with_reducible exact Calls.regrown_of (HS.out _ _))))
        refine wpQuiet_nil ?_
        intro _ hw'
        obtain ⟨⟨dq, osq⟩, hw''⟩ := hw'
        subst hw''
        have hb := below_regrown W dq osq
        have HB2 := Lib.hid (HB.out.trans (hb.mono HB.out.size))
        clear q0 q1 q2 hb HS HB
        generalize grow (redrawn W dq) osq = W1 at HB2 ⊢
        rename_i K hK
        refine hK _ _ ?_
        clear hK K
        go_wp2_with fail
        go_ret
        exact ⟨by rw [HN.out]; rfl, HB2.out⟩
    · obtain rfl : k = l.length := by omega
      have hn : ¬ (l.length : Int) < (l.length : Int) := by omega
      have HN := Lib.hid (right_end hok)
      have HB := Lib.hid hB
      clear hB hok
      by_cases h20 : l.length ≤ 20
      · have hh : (l.length : Int) ≤ 20 := by omega
        have HN2 := Lib.hid (show decide (rightK l) = true by rw [HN.out, decide_eq_true h20])
        clear HN h20
        go_wp2_with fail
        go_ret
        exact ⟨by rw [HN2.out]; rfl, HB.out⟩
      · have hh : ¬ (l.length : Int) ≤ 20 := by omega
        have HN2 := Lib.hid (show decide (rightK l) = false by rw [HN.out, decide_eq_false h20])
        clear HN h20
        go_wp2_with fail
        go_ret
        exact ⟨by rw [HN2.out]; rfl, HB.out⟩
end Go.Proofs.YtdnjieffbgmagaaDoor

/- The reference 12's Put. -/
namespace Go.Proofs.YtdnjieffbgmagaaDoor
open Go.RowKit Go.Sort
set_option maxRecDepth 100000
theorem OwnK.belowS {w w0 w' : World} {n base : Nat} {v : Value} {l : List Kk} (h : OwnK w base v l) (hB : Below n w0 w) (hn : n ≤ base) (hb : base ≤ w.heap.size) (hg : w.grownBy w' v.ownBlock) : Below n w0 w' :=
  hB.grown hg (Nat.le_trans hn hb) fun k hk => Nat.le_trans hn (World.ownsRow.lt h k hk).1
theorem OwnK.mono {w : World} {base n : Nat} {v : Value} {l : List Kk} (h : OwnK w base v l) (hn : n ≤ base) : OwnK w n v l := World.ownsRow.mono h hn
end Go.Proofs.YtdnjieffbgmagaaDoor

/- What Fill tells of any table and chain, in plain mathematics; kept keys beside stores. -/
namespace Go.Proofs.YtdnjieffbgmagaaDoor
open Go.RowKit
set_option maxRecDepth 100000
instance (l : List Kk) (r : ByteArray) (f m : Nat) : Decidable (freeK l r f m) := inferInstanceAs (Decidable (∀ i, i < m → atK l r (f + i) = none))
theorem putK_length (l : List Kk) (x : Kk) (n : Nat) (hn : 20 ≤ n) (hl : l.length ≤ n) : (putK l x).length ≤ n := by
  unfold putK
  rw [List.length_append, List.length_singleton]
  split
  · omega
  · rw [List.length_drop]; omega
theorem KSl.far {w : World} {a : Option Addr} {l : List Kk} (h : KSl w a l) (B o : Nat) (v : Value) (hne : 0 < l.length → ∀ b off : Nat, a = some ⟨b, off, none⟩ → b ≠ B) : KSl (w.setCell ⟨B, o, none⟩ v) a l := by
  intro h0
  obtain ⟨b, off, ha, hlt, hc⟩ := h h0
  have hb := hne h0 b off ha
  have hk : (w.setCell ⟨B, o, none⟩ v).heap[b]? = w.heap[b]? := by
    have := heap_setCells_other B b hb [v] o w
    simpa [World.setCells] using this
  have hcell : ∀ i, (w.setCell ⟨B, o, none⟩ v).cell? ⟨b, i, none⟩ = w.cell? ⟨b, i, none⟩ := fun i => by unfold World.cell?; simp only; rw [hk]
  refine ⟨b, off, ha, ?_, fun i hi => ?_⟩
  · exact World.block_lt_of_cell? _ ⟨b, off + 0 * 3, none⟩ (by rw [hcell]; exact (hc 0 h0).c0)
  · have := hc i hi
    exact ⟨by rw [hcell]; exact this.c0, by rw [hcell]; exact this.c1, by rw [hcell]; exact this.c2⟩
end Go.Proofs.YtdnjieffbgmagaaDoor

/- Kept keys that came in, a row of them or one: they can be read, and their numbers and texts are Go's. -/
namespace Go.Proofs.YtdnjieffbgmagaaDoor
open Go.RowKit Go.ChangeShapes Go.WideShapes Go.Deep
set_option maxRecDepth 100000
structure KkIn (q : Kk) : Prop where
  r : q.r.size ≤ maxLen
  n : q.n < 18446744073709551616
  k : q.k.size ≤ maxLen
def KksIn (l : List Kk) : Prop := ∀ q ∈ l, KkIn q
theorem cellsKept : Tryd.prog.cellsOf 56 = 3 := by kernel_rfl
theorem cellsStrK : Tryd.prog.cellsOf 9 = 1 := by kernel_rfl
theorem cellsU64K : Tryd.prog.cellsOf 22 = 1 := by kernel_rfl
theorem open_kepts {H : Type} {enc : TypeId × Value → H} {W : World} {r : Reach} {b0 base : Nat} {spare : Nat → Bool} {held : Bool} {v : Value} {d : DataW H} {p : List MemPlace}
    (hval : Value.okWide Tryd.prog W r b0 23 v) (h : DataW.Trod enc Tryd.prog W base spare held 23 v d p) :
    ∃ (a : Option Addr) (c : Nat) (l : List Kk), v = .slice a l.length c ∧ l.length ≤ maxLen ∧ l.length ≤ c ∧ KksIn l ∧ KSl W a l := by
  obtain ⟨a0, n0, c0, rfl⟩ := okWide_slice Tryd.underlying23 hval
  obtain ⟨fuel, hf⟩ := h
  have hf' : DataW.trod enc Tryd.prog W base spare held fuel 23 [.slice a0 n0 c0] = some (d, p) := by simpa [Value.cells] using hf
  rcases open_slice Tryd.underlying23 hf' with ⟨hcs, -⟩ | ⟨a, len, cap, m, n, D, Pl, hcs, -, hlc, hcm, hmm, -, hi⟩
  · simp only [List.cons.injEq, Value.slice.injEq, and_true] at hcs
    obtain ⟨rfl, rfl, rfl⟩ := hcs
    exact ⟨none, 0, [], rfl, Nat.zero_le _, Nat.le_refl _, fun q hq => (by cases hq), KSl.nil _ _⟩
  · simp only [List.cons.injEq, Value.slice.injEq, and_true] at hcs
    obtain ⟨rfl, rfl, rfl⟩ := hcs
    have hle : n0 ≤ m := by rw [hmm]; split <;> omega
    have each : ∀ i, i < n0 → ∃ q : Kk, KkIn q ∧ W.cell? (a.add (i * 3)) = some (.string q.r) ∧ W.cell? ((a.add (i * 3)).add 1) = some (.int .u64 (q.n : Int)) ∧ W.cell? ((a.add (i * 3)).add 2) = some (.string q.k) := by
      intro i him
      obtain ⟨cs', hc, ht⟩ := hi i (by omega)
      rw [cellsKept] at hc
      obtain ⟨-, hlen, hat⟩ := World.cells?_some hc
      match cs', hlen with
      | [v0, v1, v2], _ =>
        obtain ⟨y0, y1, y2, k, -, -, h0, h1, h2⟩ := trod_struct3 Tryd.underlying56 ht
        simp only [cellsStrK, cellsU64K, List.drop_zero, List.drop_succ_cons, List.take_succ_cons, List.take_zero] at h0 h1 h2
        obtain ⟨b, e0, -, hb0⟩ := DataW.trod_string Tryd.underlying9 h0
        obtain ⟨z, e1, -, hz⟩ := DataW.trod_int Tryd.underlying22 h1
        obtain ⟨x, e2, -, hx⟩ := DataW.trod_string Tryd.underlying9 h2
        obtain rfl : v0 = .string b := by simpa using e0
        obtain rfl : v1 = .int .u64 z := by simpa using e1
        obtain rfl : v2 = .string x := by simpa using e2
        have hz' : 0 ≤ z ∧ z < 18446744073709551616 := by
          simp [Lit.wf] at hz
          have e : IntKind.u64.max = 18446744073709551615 := by rfl
          have e' : IntKind.u64.min = 0 := by rfl
          omega
        obtain ⟨q, rfl⟩ := Int.eq_ofNat_of_zero_le hz'.1
        have g0 := hat 0 (by omega)
        have g1 := hat 1 (by omega)
        have g2 := hat 2 (by omega)
        rw [show (a.add (i * 3)).add 0 = a.add (i * 3) from rfl] at g0
        exact ⟨⟨b, q, x⟩, ⟨hb0, by show q < _; omega, hx⟩, by simpa using g0, by simpa using g1, by simpa using g2⟩
    haveI : Inhabited Kk := ⟨k00⟩
    obtain ⟨F, hF⟩ := choose_lt each
    have hget : ∀ i, i < n0 → ((List.range n0).map F).getD i k00 = F i := fun i hin => by simp [List.getD, hin]
    refine ⟨some a, c0, (List.range n0).map F, by simp, by simp; omega, by simp; exact hlc, fun q hq => ?_, fun h0 => ?_⟩
    · rw [List.mem_map] at hq
      obtain ⟨i, hin, rfl⟩ := hq
      exact (hF i (List.mem_range.1 hin)).1
    · simp only [List.length_map, List.length_range] at h0
      obtain ⟨-, g0, -, -⟩ := hF 0 h0
      rw [Nat.zero_mul, show a.add 0 = a from rfl] at g0
      obtain ⟨hap, hab⟩ := cell_plain g0
      refine ⟨a.block, a.off, by rw [← hap], hab, fun i hin => ?_⟩
      simp only [List.length_map, List.length_range] at hin
      rw [hget i hin]
      obtain ⟨-, g0, g1, g2⟩ := hF i hin
      have hadd : a.add (i * 3) = ⟨a.block, a.off + i * 3, none⟩ := by rw [hap]; exact Addr.add_mid _ _ _
      rw [hadd] at g0 g1 g2
      rw [Addr.add_mid] at g1 g2
      exact ⟨g0, g1, g2⟩
theorem open_kept {H : Type} {enc : TypeId × Value → H} {W : World} {r : Reach} {b0 : Nat} {spare : Nat → Bool} {v : Value} {d : DataW H} {p : List MemPlace}
    (hval : Value.okWide Tryd.prog W r b0 56 v) (h : DataW.Trod enc Tryd.prog W 0 spare true 56 v d p) :
    ∃ q : Kk, v = kkv q ∧ KkIn q := by
  obtain ⟨v0, v1, v2, y0, y1, y2, k, rfl, -, -, h0, h1, h2⟩ := Joins.open_agg3 Tryd.underlying56 (by kernel_rfl) cellsKept hval h
  obtain ⟨b, e0, -, hb0⟩ := DataW.trod_string Tryd.underlying9 h0
  obtain ⟨z, e1, -, hz⟩ := DataW.trod_int Tryd.underlying22 h1
  obtain ⟨x, e2, -, hx⟩ := DataW.trod_string Tryd.underlying9 h2
  obtain rfl : v0 = .string b := by simpa using e0
  obtain rfl : v1 = .int .u64 z := by simpa using e1
  obtain rfl : v2 = .string x := by simpa using e2
  have hz' : 0 ≤ z ∧ z < 18446744073709551616 := by
    simp [Lit.wf] at hz
    have e : IntKind.u64.max = 18446744073709551615 := by rfl
    have e' : IntKind.u64.min = 0 := by rfl
    omega
  obtain ⟨q, rfl⟩ := Int.eq_ofNat_of_zero_le hz'.1
  exact ⟨⟨b, q, x⟩, rfl, hb0, by show q < _; omega, hx⟩
end Go.Proofs.YtdnjieffbgmagaaDoor

/- skipped's leaves: whether a text may be a key, the row of a kept key, where a row stands. -/
namespace Go.Proofs.YtdnjieffbgmagaaDoor
open Go.RowKit Go.Sort
set_option maxRecDepth 100000
theorem isKeyK_any (s : ByteArray) (w : World) :
    Calls Tryd.prog 53 #[.string s] w fun e w' => e = .returned (.bool (decide (s.size = 32))) ∧ w = w' := by
  have h : ((s.size : Int) == 32) = decide (s.size = 32) := by
    rw [Bool.eq_iff_iff, beq_iff_eq, decide_eq_true_iff]; omega
  go_enter Tryd.func53, Tryd.ntmps53
  go_wp2
  go_ret
  exact ⟨rfl, rfl⟩
theorem rowOf_anyK (x : ByteArray) (m : Nat) (y : ByteArray) (w : World) :
    Calls Tryd.prog 55 #[.agg #[.string x, .int .u64 (m : Int), .string y]] w fun e w' => e = .returned (.agg #[.string x, .int .u64 (m : Int)]) ∧ Below w.heap.size w w' := by
  go_enter Tryd.func55, Tryd.ntmps55
  go_wp2_with fail
  have hH := heap_alloc_new (w.alloc (.cells #[.string x, .int .u64 (m : Int), .string y] 56)) (.cells #[.string x, .int .u64 (m : Int)] 97)
  rw [World.size_alloc] at hH
  have s0 := cell_of_row _ (w.heap.size + 1) 0 _ _ _ hH
  have s1 := cell_of_row _ (w.heap.size + 1) 1 _ _ _ hH
  refine bodyPost_ret (v := .agg #[.string x, .int .u64 (m : Int)]) (by simp [results, Tryd.results55, go_sem, s0, s1]) rfl ⟨rfl, by go_grown⟩
theorem run_eq_rowK (x r : ByteArray) (m n : Nat) (W : World) : (binOp .eql 97 (.agg #[.string x, .int .u64 (m : Int)]) (.agg #[.string r, .int .u64 (n : Int)])).run Tryd.prog W = .ok (.bool (decide (x = r ∧ m = n))) W := by
  have q1 := str_eqK x r
  have q2 := nat_eqK m n
  by_cases e1 : x = r
  · subst e1
    by_cases e2 : m = n
    · subst e2
      simp [go_sem]
    · rw [decide_eq_false e2] at q2
      rw [decide_eq_false fun h => e2 h.2]
      simp [go_sem, q2]
  · rw [decide_eq_false e1] at q1
    rw [decide_eq_false fun h => e1 h.1]
    simp [go_sem, q1]
def PlRelK (w : World) (l : List Kk) (r : ByteArray) (n : Nat) (i : Value) (wr : World) : Prop :=
  ∃ k : Nat, k ≤ l.length ∧ i = .int .i64 (k : Int) ∧ (∀ j, j < k → isK r n (l.getD j k00) = false) ∧ wr.heap[w.heap.size]? = some (.cells #[.string r, .int .u64 (n : Int)] 97) ∧ Below w.heap.size w wr
set_option maxHeartbeats 2000000 in
theorem place_any (a : Option Addr) (c : Nat) (l : List Kk) (r : ByteArray) (n : Nat) (hl : l.length ≤ 1000) (w : World) (hp : KSl w a l) :
    Calls Tryd.prog 71 #[.slice a l.length c, .agg #[.string r, .int .u64 (n : Int)]] w fun e w' => e = .returned (.int .i64 (atI l r n)) ∧ Below w.heap.size w w' := by
  have HP := Lib.hid hp; have HL := Lib.hid hl
  clear hp hl
  go_enter Tryd.func71, Tryd.ntmps71
  go_wp2_with fail
  have hr0 := heap_alloc_new w (.cells #[.string r, .int .u64 (n : Int)] 97)
  have hb0 : Below w.heap.size w (w.alloc (.cells #[.string r, .int .u64 (n : Int)] 97)) := by go_grown
  go_loopw [9] (fun i wr => PlRelK w l r n i wr) (fun i _ => l.length - (intOf i).toNat)
  case atStart => exact ⟨0, Nat.zero_le _, rfl, fun j hj => absurd hj (Nat.not_lt_zero j), hr0, hb0⟩
  case round =>
    obtain ⟨k, hk, rfl, hno, hR, hB⟩ := hrel
    by_cases hlt : k < l.length
    · have h1 : (k : Int) < (l.length : Int) := by omega
      have h1k : (k : Int) < 1000 := by have := HL.out; omega
      obtain ⟨g, off, rfl, hbl, hc⟩ := HP.out (by omega)
      have hpt := (hc k hlt).below hB hbl
      have hf := fun h => atI_found l r n k hlt hno h
      have hn2 : isK r n (l.getD k k00) = false → ∀ j, j < k + 1 → isK r n (l.getD j k00) = false := fun h j hj => by
        by_cases e : j = k
        · subst e; exact h
        · exact hno j (by omega)
      obtain ⟨p, ep⟩ : ∃ p, l.getD k k00 = p := ⟨_, rfl⟩
      rw [ep] at hpt hf hn2
      obtain ⟨x, m, y⟩ := p
      obtain ⟨c0, c1, c2⟩ := hpt
      simp only at c0 c1 c2
      have hRl := (Array.getElem?_eq_some_iff.1 hR).1
      have hR2 := (heap_alloc_old wr (.cells #[.string x, .int .u64 (m : Int), .string y] 56) hRl).trans hR
      have hcW := heap_alloc_new wr (.cells #[.string x, .int .u64 (m : Int), .string y] 56)
      have hB2 := below_dnK hB (.cells #[.string x, .int .u64 (m : Int), .string y] 56)
      obtain ⟨W, eW⟩ : ∃ W, wr.alloc (.cells #[.string x, .int .u64 (m : Int), .string y] 56) = W := ⟨_, rfl⟩
      rw [eW] at hR2 hcW hB2
      obtain ⟨B, eB⟩ : ∃ B, wr.heap.size = B := ⟨_, rfl⟩
      rw [eB] at hcW
      have hRo := fun (d : Nat) (os : Array Obj) => rowOf_anyK x m y (grow (redrawn W d) os)
      have e0 : W.cell? ⟨B, 0, none⟩ = some (.string x) := by rw [cell_of_row _ _ _ _ _ _ hcW]; rfl
      have e1 : W.cell? ⟨B, 1, none⟩ = some (.int .u64 (m : Int)) := by rw [cell_of_row _ _ _ _ _ _ hcW]; rfl
      have e2 : W.cell? ⟨B, 2, none⟩ = some (.string y) := by rw [cell_of_row _ _ _ _ _ _ hcW]; rfl
      have r0 : W.cell? ⟨w.heap.size, 0, none⟩ = some (.string r) := by rw [cell_of_row _ _ _ _ _ _ hR2]; rfl
      have r1 : W.cell? ⟨w.heap.size, 1, none⟩ = some (.int .u64 (n : Int)) := by rw [cell_of_row _ _ _ _ _ _ hR2]; rfl
      have q0 := cell_regrown e0; have q1 := cell_regrown e1; have q2 := cell_regrown e2; have q3 := cell_regrown r0; have q4 := cell_regrown r1
      have qe := fun W => run_eq_rowK x r m n W
      have hik : isK r n ⟨x, m, y⟩ = (decide (x = r) && decide (m = n)) := by simp [isK]
      have HIK := Lib.hid hik
      have HB := Lib.hid (And.intro hB2 hR2); have HF := Lib.hid hf; have HN := Lib.hid hn2; have HRO := Lib.hid hRo
      clear hB hB2 hc hno ep hbl hf hn2 hR hR2 hRl hcW e0 e1 e2 r0 r1 hRo hik
      go_upto_region 4 with fail
      clear c0 c1 c2
      refine wp_region_quiet_below (by kernel_rfl) (by kernel_rfl) ?_
      iterate 4 (go_big_quiet_step (first | (go_at_call 55; with_reducible exact Calls.regrown_of (HRO.out _ _))))
      refine wpQuiet_nil ?_
      intro _ hw'
      obtain ⟨⟨dq, osq⟩, hw''⟩ := hw'
      subst hw''
      have hb := below_regrown W dq osq
      have hb2 := HB.out.1.trans (hb.mono HB.out.1.size)
      have hR3 := (hb.block w.heap.size (Array.getElem?_eq_some_iff.1 HB.out.2).1).trans HB.out.2
      have HB3 := Lib.hid (And.intro hR3 hb2)
      obtain ⟨b, eb⟩ : ∃ b, (decide (x = r) && decide (m = n)) = b := ⟨_, rfl⟩
      have HIB := Lib.hid (HIK.out.trans eb)
      rw [eb]
      clear q0 q1 q2 q3 q4 qe hb hb2 hR3 HRO HB HIK eb eW eB
      generalize grow (redrawn W dq) osq = W1 at HB3 ⊢
      rename_i K hK
      refine hK _ _ ?_
      clear hK K
      cases b
      · have HA := Lib.hid (HN.out HIB.out)
        clear HF HN HIB
        go_wp2_with fail
        exact ⟨⟨k + 1, by omega, by simp, HA.out, HB3.out.1, HB3.out.2⟩, by simp [intOf]; omega⟩
      · have HA := Lib.hid (HF.out HIB.out)
        clear HF HN HIB
        go_wp2_with fail
        go_ret
        exact ⟨by rw [HA.out]; rfl, HB3.out.2⟩
    · obtain rfl : k = l.length := by omega
      have hn : ¬ (l.length : Int) < (l.length : Int) := by omega
      have HA := Lib.hid (atI_none l r n hno); have HB := Lib.hid hB
      clear hB hno
      go_wp2_with fail
      go_ret
      exact ⟨by rw [HA.out]; rfl, HB.out⟩
set_option maxHeartbeats 400000 in
theorem has_any (a : Option Addr) (c : Nat) (l : List Kk) (r : ByteArray) (n : Nat) (hl : l.length ≤ 1000) (w : World) (hp : KSl w a l) :
    Calls Tryd.prog 54 #[.slice a l.length c, .agg #[.string r, .int .u64 (n : Int)]] w fun e w' => e = .returned (.bool (decide (0 ≤ atI l r n))) ∧ Below w.heap.size w w' := by
  have hb0 : Below w.heap.size w (w.alloc (.cells #[.string r, .int .u64 (n : Int)] 97)) := by go_grown
  have hpl := place_any a c l r n hl _ (hp.on hb0)
  obtain ⟨i, ei⟩ : ∃ i, atI l r n = i := ⟨_, rfl⟩
  rw [ei] at hpl ⊢
  have H := Lib.hid hpl
  have HB := Lib.hid hb0
  clear hl hp hb0 hpl
  go_enter Tryd.func54, Tryd.ntmps54
  go_wp2_with fail
  refine H.out.mono ?_
  rintro e w1 ⟨rfl, hb⟩
  have HB2 := Lib.hid (HB.out.trans (hb.mono HB.out.size))
  clear hb H HB
  go_wp2_with fail
  go_ret
  exact ⟨by first | rfl | simp, HB2.out⟩
end Go.Proofs.YtdnjieffbgmagaaDoor

/- skipped's with: a table with a key behind it, in new memory. -/
namespace Go.Proofs.YtdnjieffbgmagaaDoor
open Go.RowKit Go.Sort
set_option maxRecDepth 100000
/-- a slice cut from a place on, its room too -/
theorem KSl.cut {w : World} {a : Option Addr} {l : List Kk} (h : KSl w a l) : l = [] ∨ ∃ b off : Nat, a = some ⟨b, off, none⟩ ∧ b < w.heap.size := by
  by_cases h0 : 0 < l.length
  · obtain ⟨b, off, ha, hlt, -⟩ := h h0
    exact Or.inr ⟨b, off, ha, hlt⟩
  · exact Or.inl (List.eq_nil_of_length_eq_zero (by omega))
end Go.Proofs.YtdnjieffbgmagaaDoor
