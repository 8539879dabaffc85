/- The texts Xh, Xi, Xj, Xl, one behind the other. -/
import Derived.Test.YtfkfadcfafbmmaaDoorBg14
import Derived.Lib.QuietBelow
import Derived.BigQuiet
/- The reference 12's Right; the law's few. -/
namespace Go.Proofs.YtfkfadcfafbmmaaDoor
open Go.RowKit Go.Sort
set_option maxRecDepth 100000
set_option maxHeartbeats 1000000 in
theorem few12_eq (a : Option Addr) (c : Nat) (l : List Kk) (hl : l.length ≤ maxLen) (hlc : l.length ≤ c) (w : World) :
    Calls Tryd.prog 5 #[.slice a l.length c] w fun e w' => e = .returned (.slice a (l.take 22).length c) ∧ w = w' := by
  unfold maxLen at hl
  obtain ⟨m, em⟩ : ∃ m : Nat, min (l.length : Int) 22 = (m : Int) := ⟨min l.length 22, by omega⟩
  have hlen : (l.take 22).length = m := by rw [List.length_take]; omega
  have h1 : (m : Int) ≤ (l.length : Int) := by omega
  have h2 : (m : Int) ≤ (c : Int) := by omega
  have HLN := Lib.hid hlen
  rw [hlen]
  clear hlen
  go_enter Tryd.func5, Tryd.ntmps5
  go_wp2_with fail
  go_ret
  exact ⟨rfl, rfl⟩
theorem few12_any (a : Option Addr) (c : Nat) (l : List Kk) (hl : l.length ≤ maxLen) (hlc : l.length ≤ c) (w : World) :
    Calls Tryd.prog 5 #[.slice a l.length c] w fun e w' => ∃ c' : Nat, e = .returned (.slice a (l.take 22).length c') ∧ (l.take 22).length ≤ c' ∧ w = w' :=
  (few12_eq a c l hl hlc w).mono fun _ _ ⟨h1, h2⟩ => ⟨c, h1, by rw [List.length_take]; omega, h2⟩
def RightRelK (w : World) (l : List Kk) (i : Value) (wr : World) : Prop :=
  ∃ k : Nat, k ≤ l.length ∧ i = .int .i64 (k : Int) ∧ (∀ j, j < k → goodAt l j) ∧ Below w.heap.size w wr
theorem right_not {l : List Kk} {k : Nat} (hk : k < l.length) (h : ¬ goodAt l k) : decide (rightK l) = false := by
  rw [decide_eq_false_iff_not, rightK_iff]
  exact fun e => h (e.2 k hk)
theorem right_end {l : List Kk} (h : ∀ j, j < l.length → goodAt l j) : decide (rightK l) = decide (l.length ≤ 20) := by
  by_cases h2 : l.length ≤ 20
  · rw [decide_eq_true h2, decide_eq_true ((rightK_iff l).2 ⟨h2, h⟩)]
  · rw [decide_eq_false h2, decide_eq_false fun e => h2 e.few]
set_option maxHeartbeats 4000000 in
theorem rightR_any (a : Option Addr) (c : Nat) (l : List Kk) (hl : l.length ≤ 1000) (hlc : l.length ≤ c) (w : World) (hp : KSl w a l) :
    Calls Tryd.prog 7 #[.slice a l.length c] w fun e w' => e = .returned (.bool (decide (rightK l))) ∧ Below w.heap.size w w' := by
  have HP := Lib.hid hp; have HL := Lib.hid (And.intro hl hlc)
  clear hp hl hlc
  go_enter Tryd.func7, Tryd.ntmps7
  go_wp2_with fail
  go_loopw [7] (fun i wr => RightRelK w l i wr) (fun i _ => l.length - (intOf i).toNat)
  case atStart => exact ⟨0, Nat.zero_le _, rfl, fun j hj => absurd hj (Nat.not_lt_zero j), Below.refl _ _⟩
  case round =>
    obtain ⟨k, hk, rfl, hok, hB⟩ := hrel
    by_cases hlt : k < l.length
    · have h1 : (k : Int) < (l.length : Int) := by omega
      have h1k : (k : Int) < 1000 := by have := HL.out; omega
      have h1c : (k : Int) ≤ (c : Int) := by have := HL.out; omega
      obtain ⟨g, off, rfl, hbl, hc⟩ := HP.out (by omega)
      have hpt := (hc k hlt).below hB hbl
      have hno : ¬ goodAt l k → decide (rightK l) = false := right_not hlt
      have hyes : goodAt l k → ∀ j, j < k + 1 → goodAt l j := fun h j hj => by
        by_cases e : j = k
        · subst e; exact h
        · exact hok j (by omega)
      have hgo : goodAt l k ↔ sizedK (l.getD k k00) ∧ atK (l.take k) (l.getD k k00).r (l.getD k k00).n = none := Iff.rfl
      obtain ⟨p, ep⟩ : ∃ p, l.getD k k00 = p := ⟨_, rfl⟩
      rw [ep] at hpt hgo
      obtain ⟨x, m, y⟩ := p
      obtain ⟨c0, c1, c2⟩ := hpt
      simp only at c0 c1 c2
      have htk : (l.take k).length = k := by rw [List.length_take]; omega
      obtain ⟨W, eW⟩ : ∃ W, wr.alloc (.cells #[.string x, .int .u64 (m : Int), .string y] 47) = W := ⟨_, rfl⟩
      have hW := below_dnK hB (.cells #[.string x, .int .u64 (m : Int), .string y] 47)
      have hks := (HP.out.on hW).take k
      have hcW := heap_alloc_new wr (.cells #[.string x, .int .u64 (m : Int), .string y] 47)
      rw [eW] at hW hks hcW
      have hS := fun (d : Nat) (os : Array Obj) => sizedR_any ⟨x, m, y⟩ (grow (redrawn W d) os)
      have hA := fun (d : Nat) (os : Array Obj) => atR_any (some ⟨g, off, none⟩) c (l.take k) x m (by have := HL.out; omega) (grow (redrawn W d) os) (hks.on (below_regrown W d os))
      rw [htk] at hA
      unfold kkv at hS
      simp only at hS
      obtain ⟨B, eB⟩ : ∃ B, wr.heap.size = B := ⟨_, rfl⟩
      rw [eB] at hcW
      have e0 : W.cell? ⟨B, 0, none⟩ = some (.string x) := by rw [cell_of_row _ _ _ _ _ _ hcW]; rfl
      have e1 : W.cell? ⟨B, 1, none⟩ = some (.int .u64 (m : Int)) := by rw [cell_of_row _ _ _ _ _ _ hcW]; rfl
      have e2 : W.cell? ⟨B, 2, none⟩ = some (.string y) := by rw [cell_of_row _ _ _ _ _ _ hcW]; rfl
      have q0 := cell_regrown e0; have q1 := cell_regrown e1; have q2 := cell_regrown e2
      have HB := Lib.hid hW; have HNO := Lib.hid hno; have HYES := Lib.hid hyes; have HGO := Lib.hid hgo
      clear hB hW hks hcW hno hyes hgo hok hc hbl ep htk e0 e1 e2
      by_cases hs : sizedK ⟨x, m, y⟩
      · rw [decide_eq_true hs] at hS
        cases hat : atK (l.take k) x m with
        | none =>
          have hai : atI (l.take k) x m = -1 := by unfold atI; rw [hat]
          rw [hai] at hA
          have HY := Lib.hid (HYES.out (HGO.out.2 ⟨hs, hat⟩))
          have HS := Lib.hid hS; have HA := Lib.hid hA
          clear hs hS hA HNO HYES HGO hat hai
          go_upto_region 4 with fail
          clear c0 c1 c2
          refine wp_region_quiet_below (by kernel_rfl) (by kernel_rfl) ?_
          iterate 14 (go_big_quiet_step (first | (go_at_call 17; with_reducible exact Calls.regrown_of (HS.out _ _)) | (go_at_call 18; with_reducible exact Calls.regrown_of (HA.out _ _))))
          refine wpQuiet_nil ?_
          intro _ hw'
          obtain ⟨⟨dq, osq⟩, hw''⟩ := hw'
          subst hw''
          have hb := below_regrown W dq osq
          have HB2 := Lib.hid (HB.out.trans (hb.mono HB.out.size))
          clear q0 q1 q2 hb HS HA HB
          generalize grow (redrawn W dq) osq = W1 at HB2 ⊢
          rename_i K hK
          refine hK _ _ ?_
          clear hK K
          go_wp2_with fail
          exact ⟨⟨k + 1, by omega, by simp, HY.out, HB2.out⟩, by simp [intOf]; omega⟩
        | some i =>
          have hai : atI (l.take k) x m = (i : Int) := by unfold atI; rw [hat]
          rw [hai] at hA
          have HN := Lib.hid (HNO.out fun h => by rw [(HGO.out.1 h).2] at hat; cases hat)
          have HS := Lib.hid hS; have HA := Lib.hid hA
          have hi0 : (0 : Int) ≤ (i : Int) := by omega
          clear hs hS hA HNO HYES HGO hat hai
          go_upto_region 4 with fail
          clear c0 c1 c2
          refine wp_region_quiet_below (by kernel_rfl) (by kernel_rfl) ?_
          iterate 14 (go_big_quiet_step (first | (go_at_call 17; with_reducible exact Calls.regrown_of (HS.out _ _)) | (go_at_call 18; with_reducible exact Calls.regrown_of (HA.out _ _))))
          refine wpQuiet_nil ?_
          intro _ hw'
          obtain ⟨⟨dq, osq⟩, hw''⟩ := hw'
          subst hw''
          have hb := below_regrown W dq osq
          have HB2 := Lib.hid (HB.out.trans (hb.mono HB.out.size))
          clear q0 q1 q2 hb HS HA HB
          generalize grow (redrawn W dq) osq = W1 at HB2 ⊢
          rename_i K hK
          refine hK _ _ ?_
          clear hK K
          go_wp2_with fail
          go_ret
          exact ⟨by rw [HN.out]; rfl, HB2.out⟩
      · rw [decide_eq_false hs] at hS
        have HN := Lib.hid (HNO.out fun h => hs (HGO.out.1 h).1)
        have HS := Lib.hid hS
        clear hs hS hA HNO HYES HGO
        go_upto_region 4 with fail
        clear c0 c1 c2
        refine wp_region_quiet_below (by kernel_rfl) (by kernel_rfl) ?_
        iterate 14 (go_big_quiet_step (first | (go_at_call 17; with_reducible exact Calls.regrown_of (HS.out _ _))))
        refine wpQuiet_nil ?_
        intro _ hw'
        obtain ⟨⟨dq, osq⟩, hw''⟩ := hw'
        subst hw''
        have hb := below_regrown W dq osq
        have HB2 := Lib.hid (HB.out.trans (hb.mono HB.out.size))
        clear q0 q1 q2 hb HS HB
        generalize grow (redrawn W dq) osq = W1 at HB2 ⊢
        rename_i K hK
        refine hK _ _ ?_
        clear hK K
        go_wp2_with fail
        go_ret
        exact ⟨by rw [HN.out]; rfl, HB2.out⟩
    · obtain rfl : k = l.length := by omega
      have hn : ¬ (l.length : Int) < (l.length : Int) := by omega
      have HN := Lib.hid (right_end hok)
      have HB := Lib.hid hB
      clear hB hok
      by_cases h20 : l.length ≤ 20
      · have hh : (l.length : Int) ≤ 20 := by omega
        have HN2 := Lib.hid (show decide (rightK l) = true by rw [HN.out, decide_eq_true h20])
        clear HN h20
        go_wp2_with fail
        go_ret
        exact ⟨by rw [HN2.out]; rfl, HB.out⟩
      · have hh : ¬ (l.length : Int) ≤ 20 := by omega
        have HN2 := Lib.hid (show decide (rightK l) = false by rw [HN.out, decide_eq_false h20])
        clear HN h20
        go_wp2_with fail
        go_ret
        exact ⟨by rw [HN2.out]; rfl, HB.out⟩
end Go.Proofs.YtfkfadcfafbmmaaDoor

/- The reference 12's Put. -/
namespace Go.Proofs.YtfkfadcfafbmmaaDoor
open Go.RowKit Go.Sort
set_option maxRecDepth 100000
theorem OwnK.keepsB {w w' : World} {base : Nat} {v : Value} {l : List Kk} (h : OwnK w base v l) (hg : w.grownBy w' v.ownBlock) (k : Nat) (hk : k < base) (hb : base ≤ w.heap.size) : w'.heap[k]? = w.heap[k]? := by
  refine hg.block k (by omega) ?_
  intro e
  have := (World.ownsRow.lt h k e.symm).1
  omega
theorem OwnK.belowS {w w0 w' : World} {n base : Nat} {v : Value} {l : List Kk} (h : OwnK w base v l) (hB : Below n w0 w) (hn : n ≤ base) (hb : base ≤ w.heap.size) (hg : w.grownBy w' v.ownBlock) : Below n w0 w' :=
  hB.grown hg (Nat.le_trans hn hb) fun k hk => Nat.le_trans hn (World.ownsRow.lt h k hk).1
theorem OwnK.mono {w : World} {base n : Nat} {v : Value} {l : List Kk} (h : OwnK w base v l) (hn : n ≤ base) : OwnK w n v l := World.ownsRow.mono h hn
/-- a key that was laid, and laid again for the append -/
theorem kk_fresh (w : World) (p : Kk) : KSl ((w.alloc (.cells #[.string p.r, .int .u64 (p.n : Int), .string p.k] 47)).alloc (.cells #[.string p.r, .int .u64 (p.n : Int), .string p.k] 47)) (some ⟨w.heap.size + 1, 0, none⟩) [p] := by
  have h := KkAt.fresh (w.alloc (.cells #[.string p.r, .int .u64 (p.n : Int), .string p.k] 47)) p 47
  rw [World.size_alloc] at h
  exact KSl.one h
/-- the first k keys, but for the first one where there are 20 -/
def preK (l : List Kk) (k : Nat) : List Kk := if l.length < 20 then l.take k else (l.take k).drop 1
theorem preK_zero (l : List Kk) : preK l 0 = [] := by unfold preK; split <;> simp
theorem preK_all (l : List Kk) : preK l l.length = keptK l := by unfold preK keptK; rw [List.take_length]
theorem preK_take (l : List Kk) (k : Nat) (hk : k < l.length) (h : 0 < k ∨ l.length < 20) : preK l (k + 1) = preK l k ++ [l.getD k k00] := by
  have e : l.getD k k00 = l[k] := by simp [List.getD, hk]
  unfold preK
  rw [List.take_succ_eq_append_getElem hk, e]
  split
  · rfl
  · rw [List.drop_append_of_le_length]
    rw [List.length_take]; omega
theorem preK_skip (l : List Kk) (h : ¬ l.length < 20) : preK l 1 = [] := by
  unfold preK
  rw [if_neg h]
  apply List.eq_nil_of_length_eq_zero
  rw [List.length_drop, List.length_take]; omega
theorem preK_length (l : List Kk) (k : Nat) : (preK l k).length ≤ l.length := by
  unfold preK
  split
  · rw [List.length_take]; omega
  · rw [List.length_drop, List.length_take]; omega
def PutRelK (w : World) (l : List Kk) (p : Kk) (o i : Value) (wr : World) : Prop :=
  ∃ k : Nat, k ≤ l.length ∧ i = .int .i64 (k : Int) ∧ OwnK wr (w.heap.size + 1) o (preK l k) ∧ wr.heap[w.heap.size]? = some (.cells #[.string p.r, .int .u64 (p.n : Int), .string p.k] 47) ∧ Below w.heap.size w wr ∧ w.heap.size + 1 ≤ wr.heap.size
set_option maxHeartbeats 4000000 in
theorem putR_any (a : Option Addr) (c : Nat) (l : List Kk) (p : Kk) (hl : l.length ≤ 1000) (w : World) (hp : KSl w a l) :
    Calls Tryd.prog 22 #[.slice a l.length c, kkv p] w fun e w' => ∃ v, e = .returned v ∧ OwnK w' w.heap.size v (putK l p) ∧ Below w.heap.size w w' := by
  have HP := Lib.hid hp; have HL := Lib.hid hl
  unfold kkv
  clear hp hl
  go_enter Tryd.func22, Tryd.ntmps22
  go_upto_region 3 with fail
  have hw0 : w.heap.size + 1 ≤ (w.alloc (.cells #[.string p.r, .int .u64 (p.n : Int), .string p.k] 47)).heap.size := by simp
  have hO := OwnK.empty (w.alloc (.cells #[.string p.r, .int .u64 (p.n : Int), .string p.k] 47)) (w.heap.size + 1) hw0
  have hB : Below w.heap.size w ((w.alloc (.cells #[.string p.r, .int .u64 (p.n : Int), .string p.k] 47)).alloc (.cells #[] 47)) := by go_grown
  have hC : ((w.alloc (.cells #[.string p.r, .int .u64 (p.n : Int), .string p.k] 47)).alloc (.cells #[] 47)).heap[w.heap.size]? = some (.cells #[.string p.r, .int .u64 (p.n : Int), .string p.k] 47) := heap_alloc2_old _ _ _
  rw [World.size_alloc] at hO
  go_loopw [5, 11] (fun o i wr => PutRelK w l p o i wr) (fun _ i _ => l.length - (intOf i).toNat)
  case atStart => exact ⟨0, Nat.zero_le _, rfl, by rw [preK_zero]; exact hO, hC, hB, by simp⟩
  case round =>
    obtain ⟨k, hk, rfl, hO, hC, hB, hsz⟩ := hrel
    by_cases hlt : k < l.length
    · have h1 : (k : Int) < (l.length : Int) := by omega
      have h1k : (k : Int) < 1000 := by have := HL.out; omega
      obtain ⟨g, off, rfl, hbl, hc⟩ := HP.out (by omega)
      have hpt := (hc k hlt).below hB hbl
      have hst := preK_take l k hlt
      obtain ⟨q, eq⟩ : ∃ q, l.getD k k00 = q := ⟨_, rfl⟩
      rw [eq] at hpt hst
      obtain ⟨x, m, y⟩ := q
      obtain ⟨c0, c1, c2⟩ := hpt
      simp only at c0 c1 c2
      have HST := Lib.hid hst
      clear hst hc eq hbl
      by_cases hk0 : 0 < k
      · have h0k : (0 : Int) < (k : Int) := by omega
        have hO2 := (hO.alloc (.cells #[.string x, .int .u64 (m : Int), .string y] 47)).alloc (.cells #[.string x, .int .u64 (m : Int), .string y] 47)
        have hB2 := below_dnK (below_dnK hB (.cells #[.string x, .int .u64 (m : Int), .string y] 47)) (.cells #[.string x, .int .u64 (m : Int), .string y] 47)
        have hC2 : ((wr.alloc (.cells #[.string x, .int .u64 (m : Int), .string y] 47)).alloc (.cells #[.string x, .int .u64 (m : Int), .string y] 47)).heap[w.heap.size]? = some (.cells #[.string p.r, .int .u64 (p.n : Int), .string p.k] 47) := by rw [heap_alloc_old _ _ (by simp; omega), heap_alloc_old _ _ (by omega)]; exact hC
        have hone := kk_fresh wr ⟨x, m, y⟩
        simp only at hone
        have hs2 : w.heap.size + 1 ≤ ((wr.alloc (.cells #[.string x, .int .u64 (m : Int), .string y] 47)).alloc (.cells #[.string x, .int .u64 (m : Int), .string y] 47)).heap.size := by simp; omega
        have HO2 := Lib.hid hO2; have HB2 := Lib.hid hB2; have HC2 := Lib.hid hC2; have HONE := Lib.hid hone; have HS2 := Lib.hid hs2; have HST2 := Lib.hid (HST.out (Or.inl hk0))
        clear hO hB hC hO2 hB2 hC2 hone hs2 HST
        go_wp2_with (at_builtin; refine append_ks rfl _ _ rfl (w.heap.size + 1) _ (preK l k) (some ⟨wr.heap.size + 1, 0, none⟩) 1 1 [⟨x, m, y⟩] rfl rfl rfl HO2.out HONE.out (by have := HL.out; have := preK_length l k; simp; omega) HS2.out ?_)
        intro v' w' hO' hg'
        have hCn := (OwnK.keepsB HO2.out hg' w.heap.size (Nat.lt_succ_self _) HS2.out).trans HC2.out
        have hBn := OwnK.belowS HO2.out HB2.out (Nat.le_succ _) HS2.out hg'
        have hsn : w.heap.size + 1 ≤ w'.heap.size := Nat.le_trans HS2.out hg'.size
        have HF := Lib.hid (And.intro hO' (And.intro hCn (And.intro hBn hsn)))
        clear hO' hg' hCn hBn hsn HO2 HB2 HC2 HONE HS2 c0 c1 c2
        go_wp2_with fail
        exact ⟨⟨k + 1, by omega, by simp, by rw [HST2.out]; exact HF.out.1, HF.out.2.1, HF.out.2.2.1, HF.out.2.2.2⟩, by simp [intOf]; omega⟩
      · have h0k : ¬ (0 : Int) < (k : Int) := by omega
        by_cases h20 : l.length < 20
        · have h20i : (l.length : Int) < 20 := by omega
          have hO2 := (hO.alloc (.cells #[.string x, .int .u64 (m : Int), .string y] 47)).alloc (.cells #[.string x, .int .u64 (m : Int), .string y] 47)
          have hB2 := below_dnK (below_dnK hB (.cells #[.string x, .int .u64 (m : Int), .string y] 47)) (.cells #[.string x, .int .u64 (m : Int), .string y] 47)
          have hC2 : ((wr.alloc (.cells #[.string x, .int .u64 (m : Int), .string y] 47)).alloc (.cells #[.string x, .int .u64 (m : Int), .string y] 47)).heap[w.heap.size]? = some (.cells #[.string p.r, .int .u64 (p.n : Int), .string p.k] 47) := by rw [heap_alloc_old _ _ (by simp; omega), heap_alloc_old _ _ (by omega)]; exact hC
          have hone := kk_fresh wr ⟨x, m, y⟩
          simp only at hone
          have hs2 : w.heap.size + 1 ≤ ((wr.alloc (.cells #[.string x, .int .u64 (m : Int), .string y] 47)).alloc (.cells #[.string x, .int .u64 (m : Int), .string y] 47)).heap.size := by simp; omega
          have HO2 := Lib.hid hO2; have HB2 := Lib.hid hB2; have HC2 := Lib.hid hC2; have HONE := Lib.hid hone; have HS2 := Lib.hid hs2; have HST2 := Lib.hid (HST.out (Or.inr h20))
          clear hO hB hC hO2 hB2 hC2 hone hs2 HST
          go_wp2_with (at_builtin; refine append_ks rfl _ _ rfl (w.heap.size + 1) _ (preK l k) (some ⟨wr.heap.size + 1, 0, none⟩) 1 1 [⟨x, m, y⟩] rfl rfl rfl HO2.out HONE.out (by have := HL.out; have := preK_length l k; simp; omega) HS2.out ?_)
          intro v' w' hO' hg'
          have hCn := (OwnK.keepsB HO2.out hg' w.heap.size (Nat.lt_succ_self _) HS2.out).trans HC2.out
          have hBn := OwnK.belowS HO2.out HB2.out (Nat.le_succ _) HS2.out hg'
          have hsn : w.heap.size + 1 ≤ w'.heap.size := Nat.le_trans HS2.out hg'.size
          have HF := Lib.hid (And.intro hO' (And.intro hCn (And.intro hBn hsn)))
          clear hO' hg' hCn hBn hsn HO2 HB2 HC2 HONE HS2 c0 c1 c2
          go_wp2_with fail
          exact ⟨⟨k + 1, by omega, by simp, by rw [HST2.out]; exact HF.out.1, HF.out.2.1, HF.out.2.2.1, HF.out.2.2.2⟩, by simp [intOf]; omega⟩
        · have h20i : ¬ (l.length : Int) < 20 := by omega
          have hkz : k = 0 := by omega
          have hks : preK l (k + 1) = [] := by rw [hkz]; exact preK_skip l h20
          rw [show preK l k = [] by rw [hkz]; exact preK_zero l] at hO
          have hO2 := hO.alloc (.cells #[.string x, .int .u64 (m : Int), .string y] 47)
          have hB2 := below_dnK hB (.cells #[.string x, .int .u64 (m : Int), .string y] 47)
          have hC2 : (wr.alloc (.cells #[.string x, .int .u64 (m : Int), .string y] 47)).heap[w.heap.size]? = some (.cells #[.string p.r, .int .u64 (p.n : Int), .string p.k] 47) := by rw [heap_alloc_old _ _ (by omega)]; exact hC
          have hs2 : w.heap.size + 1 ≤ (wr.alloc (.cells #[.string x, .int .u64 (m : Int), .string y] 47)).heap.size := by simp; omega
          have HF := Lib.hid (And.intro hO2 (And.intro hC2 (And.intro hB2 hs2))); have HKS := Lib.hid hks
          clear hO hB hC hO2 hB2 hC2 hs2 HST hks hk0 hkz
          go_wp2_with fail
          exact ⟨⟨k + 1, by omega, by simp; omega, by rw [HKS.out]; exact HF.out.1, HF.out.2.1, HF.out.2.2.1, HF.out.2.2.2⟩, by simp [intOf]; omega⟩
    · obtain rfl : k = l.length := by omega
      have hn : ¬ (l.length : Int) < (l.length : Int) := by omega
      rw [preK_all] at hO
      have hC2 : (wr.alloc (.cells #[.string p.r, .int .u64 (p.n : Int), .string p.k] 47)).heap[w.heap.size]? = some (.cells #[.string p.r, .int .u64 (p.n : Int), .string p.k] 47) := by rw [heap_alloc_old _ _ (by omega)]; exact hC
      have e0 : wr.cell? ⟨w.heap.size, 0, none⟩ = some (.string p.r) := by rw [cell_of_row _ _ _ _ _ _ hC]; rfl
      have e1 : wr.cell? ⟨w.heap.size, 1, none⟩ = some (.int .u64 (p.n : Int)) := by rw [cell_of_row _ _ _ _ _ _ hC]; rfl
      have e2 : wr.cell? ⟨w.heap.size, 2, none⟩ = some (.string p.k) := by rw [cell_of_row _ _ _ _ _ _ hC]; rfl
      have hO2 := hO.alloc (.cells #[.string p.r, .int .u64 (p.n : Int), .string p.k] 47)
      have hB2 := below_dnK hB (.cells #[.string p.r, .int .u64 (p.n : Int), .string p.k] 47)
      have hone := KSl.one (KkAt.fresh wr p 47)
      have hs2 : w.heap.size + 1 ≤ (wr.alloc (.cells #[.string p.r, .int .u64 (p.n : Int), .string p.k] 47)).heap.size := by simp; omega
      have HO2 := Lib.hid hO2; have HB2 := Lib.hid hB2; have HONE := Lib.hid hone; have HS2 := Lib.hid hs2; have HKL := Lib.hid (show (keptK l).length ≤ l.length by rw [← preK_all]; exact preK_length l _)
      clear hO hB hC hC2 hO2 hB2 hone hs2
      go_wp2_with (at_builtin; refine append_ks rfl _ _ rfl (w.heap.size + 1) _ (keptK l) (some ⟨wr.heap.size, 0, none⟩) 1 1 [p] rfl rfl rfl HO2.out HONE.out (by have := HL.out; have := HKL.out; simp; omega) HS2.out ?_)
      intro v' w' hO' hg'
      have hBn := OwnK.belowS HO2.out HB2.out (Nat.le_succ _) HS2.out hg'
      have HF := Lib.hid (And.intro (hO'.mono (Nat.le_succ w.heap.size)) hBn)
      clear hO' hg' hBn HO2 HB2 HONE HS2 e0 e1 e2
      go_wp2_with fail
      go_ret
      exact ⟨_, rfl, HF.out.1, HF.out.2⟩
end Go.Proofs.YtfkfadcfafbmmaaDoor

/- What Put and Take tell of any table, in plain mathematics. -/
namespace Go.Proofs.YtfkfadcfafbmmaaDoor
open Go.RowKit
set_option maxRecDepth 100000
def putE (l : List Kk) (k : Kk) : Int := if rightK l then (if sizedK k then (if atK l k.r k.n = none then 0 else 7) else 2) else 1
def putT (l : List Kk) (k : Kk) : List Kk := if rightK l then (if sizedK k then (if atK l k.r k.n = none then putK l k else []) else []) else []
def takeE (l : List Kk) (r : ByteArray) (n : Nat) : Int := if rightK l then (if atK l r n = none then 5 else 0) else 1
def takeS (l : List Kk) (r : ByteArray) (n : Nat) : ByteArray := if rightK l then (match atK l r n with
  | some i => (l.getD i k00).k
  | none => ⟨#[]⟩) else ⟨#[]⟩
def takeT (l : List Kk) (r : ByteArray) (n : Nat) : List Kk := if rightK l then (match atK l r n with
  | some i => withoutK l i
  | none => []) else []
theorem put_wrong {l : List Kk} (h : ¬ rightK l) (k : Kk) : putE l k = 1 ∧ putT l k = [] := ⟨by unfold putE; rw [if_neg h], by unfold putT; rw [if_neg h]⟩
theorem put_unsized {l : List Kk} (h : rightK l) {k : Kk} (hk : ¬ sizedK k) : putE l k = 2 ∧ putT l k = [] := ⟨by unfold putE; rw [if_pos h, if_neg hk], by unfold putT; rw [if_pos h, if_neg hk]⟩
theorem put_old {l : List Kk} (h : rightK l) {k : Kk} (hk : sizedK k) (ha : ¬ atK l k.r k.n = none) : putE l k = 7 ∧ putT l k = [] := ⟨by unfold putE; rw [if_pos h, if_pos hk, if_neg ha], by unfold putT; rw [if_pos h, if_pos hk, if_neg ha]⟩
theorem put_good {l : List Kk} (h : rightK l) {k : Kk} (hk : sizedK k) (ha : atK l k.r k.n = none) : putE l k = 0 ∧ putT l k = putK l k := ⟨by unfold putE; rw [if_pos h, if_pos hk, if_pos ha], by unfold putT; rw [if_pos h, if_pos hk, if_pos ha]⟩
theorem take_wrong {l : List Kk} (h : ¬ rightK l) (r : ByteArray) (n : Nat) : takeE l r n = 1 ∧ takeS l r n = ⟨#[]⟩ ∧ takeT l r n = [] := ⟨by unfold takeE; rw [if_neg h], by unfold takeS; rw [if_neg h], by unfold takeT; rw [if_neg h]⟩
theorem take_none {l : List Kk} (h : rightK l) {r : ByteArray} {n : Nat} (ha : atK l r n = none) : takeE l r n = 5 ∧ takeS l r n = ⟨#[]⟩ ∧ takeT l r n = [] := ⟨by unfold takeE; rw [if_pos h, if_pos ha], by unfold takeS; rw [if_pos h, ha], by unfold takeT; rw [if_pos h, ha]⟩
theorem take_good {l : List Kk} (h : rightK l) {r : ByteArray} {n i : Nat} (ha : atK l r n = some i) : takeE l r n = 0 ∧ takeS l r n = (l.getD i k00).k ∧ takeT l r n = withoutK l i := ⟨by unfold takeE; rw [if_pos h, ha, if_neg (by simp)], by unfold takeS; rw [if_pos h, ha], by unfold takeT; rw [if_pos h, ha]⟩
theorem atK_some {l : List Kk} {r : ByteArray} {n i : Nat} (h : atK l r n = some i) : i < l.length ∧ isK r n (l.getD i k00) = true := by
  unfold atK at h
  rw [List.findIdx?_eq_some_iff_getElem] at h
  obtain ⟨hi, h1, -⟩ := h
  exact ⟨hi, by simpa [List.getD, hi] using h1⟩
theorem putT_length {l : List Kk} (k : Kk) : (putT l k).length ≤ 20 := by
  unfold putT
  split
  · rename_i h
    split
    · split
      · rw [putK_eq, List.length_append, List.length_singleton]
        have := keptK_length h.few; omega
      · simp
    · simp
  · simp
theorem takeT_length {l : List Kk} (r : ByteArray) (n : Nat) : (takeT l r n).length ≤ 20 := by
  unfold takeT
  split
  · rename_i h
    split
    · have := (rightK_erase h ‹Nat›).few
      exact this
    · simp
  · simp
end Go.Proofs.YtfkfadcfafbmmaaDoor

/- What Fill tells of any table and chain, in plain mathematics; kept keys beside stores. -/
namespace Go.Proofs.YtfkfadcfafbmmaaDoor
open Go.RowKit
set_option maxRecDepth 100000
instance (l : List Kk) (r : ByteArray) (f m : Nat) : Decidable (freeK l r f m) := inferInstanceAs (Decidable (∀ i, i < m → atK l r (f + i) = none))
def fillX (l : List Kk) (r c : ByteArray) (f t : Nat) : Int := if r.size = 32 ∧ c.size = 32 then (if f ≤ t ∧ t ≤ f + 10 then (if freeK l r f (t - f) then 0 else 7) else 8) else 2
def fillT (l : List Kk) (r c : ByteArray) (f t : Nat) : List Kk := if r.size = 32 ∧ c.size = 32 then (if f ≤ t ∧ t ≤ f + 10 then (if freeK l r f (t - f) then fillK l r c f (t - f) else []) else []) else []
def fillC (l : List Kk) (r c : ByteArray) (f t : Nat) : ByteArray := if r.size = 32 ∧ c.size = 32 then (if f ≤ t ∧ t ≤ f + 10 then (if freeK l r f (t - f) then runC c (t - f) else ⟨#[]⟩) else ⟨#[]⟩) else ⟨#[]⟩
theorem fill_size {l : List Kk} {r c : ByteArray} {f t : Nat} (h : ¬ (r.size = 32 ∧ c.size = 32)) : fillX l r c f t = 2 ∧ fillT l r c f t = [] ∧ fillC l r c f t = ⟨#[]⟩ := ⟨if_neg h, if_neg h, if_neg h⟩
theorem fill_gap {l : List Kk} {r c : ByteArray} {f t : Nat} (h : r.size = 32 ∧ c.size = 32) (h2 : ¬ (f ≤ t ∧ t ≤ f + 10)) : fillX l r c f t = 8 ∧ fillT l r c f t = [] ∧ fillC l r c f t = ⟨#[]⟩ := ⟨by unfold fillX; rw [if_pos h, if_neg h2], by unfold fillT; rw [if_pos h, if_neg h2], by unfold fillC; rw [if_pos h, if_neg h2]⟩
theorem fill_old {l : List Kk} {r c : ByteArray} {f t : Nat} (h : r.size = 32 ∧ c.size = 32) (h2 : f ≤ t ∧ t ≤ f + 10) (h3 : ¬ freeK l r f (t - f)) : fillX l r c f t = 7 ∧ fillT l r c f t = [] ∧ fillC l r c f t = ⟨#[]⟩ := ⟨by unfold fillX; rw [if_pos h, if_pos h2, if_neg h3], by unfold fillT; rw [if_pos h, if_pos h2, if_neg h3], by unfold fillC; rw [if_pos h, if_pos h2, if_neg h3]⟩
theorem fill_good {l : List Kk} {r c : ByteArray} {f t : Nat} (h : r.size = 32 ∧ c.size = 32) (h2 : f ≤ t ∧ t ≤ f + 10) (h3 : freeK l r f (t - f)) : fillX l r c f t = 0 ∧ fillT l r c f t = fillK l r c f (t - f) ∧ fillC l r c f t = runC c (t - f) := ⟨by unfold fillX; rw [if_pos h, if_pos h2, if_pos h3], by unfold fillT; rw [if_pos h, if_pos h2, if_pos h3], by unfold fillC; rw [if_pos h, if_pos h2, if_pos h3]⟩
def fillE (l : List Kk) (r c : ByteArray) (f t : Nat) : Int := if rightK l then fillX l r c f t else 1
def fillET (l : List Kk) (r c : ByteArray) (f t : Nat) : List Kk := if rightK l then fillT l r c f t else []
def fillEC (l : List Kk) (r c : ByteArray) (f t : Nat) : ByteArray := if rightK l then fillC l r c f t else ⟨#[]⟩
theorem fillE_wrong {l : List Kk} (h : ¬ rightK l) (r c : ByteArray) (f t : Nat) : fillE l r c f t = 1 ∧ fillET l r c f t = [] ∧ fillEC l r c f t = ⟨#[]⟩ := ⟨if_neg h, if_neg h, if_neg h⟩
theorem fillE_right {l : List Kk} (h : rightK l) (r c : ByteArray) (f t : Nat) : fillE l r c f t = fillX l r c f t ∧ fillET l r c f t = fillT l r c f t ∧ fillEC l r c f t = fillC l r c f t := ⟨if_pos h, if_pos h, if_pos h⟩
theorem runC_sizeK (c : ByteArray) (hc : c.size = 32) (n : Nat) : (runC c n).size = 32 := by
  cases n with
  | zero => exact hc
  | succ n => (show (spA _ _).size = 32; unfold spA; rw [strL_size]; exact ofL_length _)
theorem putK_length (l : List Kk) (x : Kk) (n : Nat) (hn : 20 ≤ n) (hl : l.length ≤ n) : (putK l x).length ≤ n := by
  unfold putK
  rw [List.length_append, List.length_singleton]
  split
  · omega
  · rw [List.length_drop]; omega
theorem fillK_length (l : List Kk) (r c : ByteArray) (f m : Nat) (hl : l.length ≤ 22) : (fillK l r c f m).length ≤ 22 := by
  induction m with
  | zero => exact hl
  | succ m ih => exact putK_length _ _ 22 (by omega) ih
theorem fillT_length (l : List Kk) (r c : ByteArray) (f t : Nat) (hl : l.length ≤ 22) : (fillT l r c f t).length ≤ 22 := by
  unfold fillT
  split
  · split
    · split
      · exact fillK_length _ _ _ _ _ hl
      · simp
    · simp
  · simp
/-- a text's first bytes (as XKa's cutS) -/
def cutK (x : ByteArray) (k : Nat) : ByteArray := strL ((bl x).take k)
theorem cutK_size (x : ByteArray) (k : Nat) : (cutK x k).size ≤ k := by unfold cutK; rw [strL_size, List.length_take]; omega
theorem cutK_min (x : ByteArray) (k : Nat) : x.extract 0 (min (x.size : Int) (k : Int)).toNat = cutK x k := by
  apply bl_inj
  unfold cutK
  rw [bl_strL, bl_extract, List.drop_zero]
  by_cases h : x.size ≤ k
  · rw [show (min (x.size : Int) (k : Int)).toNat = x.size by omega, List.take_of_length_le (by rw [bl_length]; exact Nat.le_refl _), List.take_of_length_le (by rw [bl_length]; exact h)]
  · rw [show (min (x.size : Int) (k : Int)).toNat = k by omega]
theorem KSl.far {w : World} {a : Option Addr} {l : List Kk} (h : KSl w a l) (B o : Nat) (v : Value) (hne : 0 < l.length → ∀ b off : Nat, a = some ⟨b, off, none⟩ → b ≠ B) : KSl (w.setCell ⟨B, o, none⟩ v) a l := by
  intro h0
  obtain ⟨b, off, ha, hlt, hc⟩ := h h0
  have hb := hne h0 b off ha
  have hk : (w.setCell ⟨B, o, none⟩ v).heap[b]? = w.heap[b]? := by
    have := heap_setCells_other B b hb [v] o w
    simpa [World.setCells] using this
  have hcell : ∀ i, (w.setCell ⟨B, o, none⟩ v).cell? ⟨b, i, none⟩ = w.cell? ⟨b, i, none⟩ := fun i => by unfold World.cell?; simp only; rw [hk]
  refine ⟨b, off, ha, ?_, fun i hi => ?_⟩
  · exact World.block_lt_of_cell? _ ⟨b, off + 0 * 3, none⟩ (by rw [hcell]; exact (hc 0 h0).c0)
  · have := hc i hi
    exact ⟨by rw [hcell]; exact this.c0, by rw [hcell]; exact this.c1, by rw [hcell]; exact this.c2⟩
/-- a block of three cells, stored whole -/
theorem store3K {w : World} {B : Nat} {a b c : Value} {t : TypeId} (h : w.heap[B]? = some (.cells #[a, b, c] t (0, 0))) (x y z : Value) :
    (((w.setCell ⟨B, 0, none⟩ x).setCell ⟨B, 1, none⟩ y).setCell ⟨B, 2, none⟩ z).heap[B]? = some (.cells #[x, y, z] t (0, 0)) := by
  have h1 := heap_setCell_same w B 0 _ t x h
  have h2 := heap_setCell_same _ B 1 _ t y h1
  have h3 := heap_setCell_same _ B 2 _ t z h2
  rw [h3]
  simp
theorem store3K_fst {w : World} {B : Nat} {a b c : Value} {t : TypeId} (h : w.heap[B]? = some (.cells #[a, b, c] t (0, 0))) (x : Value) : (w.setCell ⟨B, 0, none⟩ x).heap[B]? = some (.cells #[x, b, c] t (0, 0)) := by
  rw [heap_setCell_same w B 0 _ t x h]; simp
theorem store3K_snd {w : World} {B : Nat} {a b c : Value} {t : TypeId} (h : w.heap[B]? = some (.cells #[a, b, c] t (0, 0))) (x : Value) : (w.setCell ⟨B, 1, none⟩ x).heap[B]? = some (.cells #[a, x, c] t (0, 0)) := by
  rw [heap_setCell_same w B 1 _ t x h]; simp
theorem below3K {w0 w : World} {n B : Nat} (h : Below n w0 w) (hB : n ≤ B) (a b c : Value) : Below n w0 (((w.setCell ⟨B, 0, none⟩ a).setCell ⟨B, 1, none⟩ b).setCell ⟨B, 2, none⟩ c) :=
  ((h.setCell (p := ⟨B, 0, none⟩) hB a).setCell (p := ⟨B, 1, none⟩) hB b).setCell (p := ⟨B, 2, none⟩) hB c
theorem set_otherB (w : World) (B o k : Nat) (v : Value) (h : k ≠ B) : (w.setCell ⟨B, o, none⟩ v).heap[k]? = w.heap[k]? := by
  have := heap_setCells_other B k h [v] o w
  simpa [World.setCells] using this
end Go.Proofs.YtfkfadcfafbmmaaDoor
