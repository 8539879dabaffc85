/- skipped's Right. -/
import Derived.Test.YtfkfadcfafbmmaaDoorXpa
import Derived.Test.YtfkfadcfafbmmaaDoorBg15
namespace Go.Proofs.YtfkfadcfafbmmaaDoor
open Go.RowKit Go.Sort
set_option maxRecDepth 100000

theorem isKeyK_yes (s : ByteArray) (h : s.size = 32) (w : World) : Calls Tryd.prog 13 #[.string s] w fun e w' => e = .returned (.bool true) ∧ Below w.heap.size w w' :=
  (isKeyK_any s w).mono fun _ _ ⟨e, e2⟩ => ⟨by rw [e, decide_eq_true h], by subst e2; exact Below.refl _ _⟩
theorem isKeyK_no (s : ByteArray) (h : ¬ s.size = 32) (w : World) : Calls Tryd.prog 13 #[.string s] w fun e w' => e = .returned (.bool false) ∧ Below w.heap.size w w' :=
  (isKeyK_any s w).mono fun _ _ ⟨e, e2⟩ => ⟨by rw [e, decide_eq_false h], by subst e2; exact Below.refl _ _⟩
theorem has_yes (a : Option Addr) (c : Nat) (l : List Kk) (r : ByteArray) (n : Nat) (hl : l.length ≤ 1000) (h : atK l r n ≠ none) (w : World) (hp : KSl w a l) :
    Calls Tryd.prog 24 #[.slice a l.length c, .agg #[.string r, .int .u64 (n : Int)]] w fun e w' => e = .returned (.bool true) ∧ Below w.heap.size w w' :=
  (has_any a c l r n hl w hp).mono fun _ _ ⟨e, e2⟩ => ⟨by rw [e, decide_eq_true ((atI_neg l r n).2 h)], e2⟩
theorem has_no (a : Option Addr) (c : Nat) (l : List Kk) (r : ByteArray) (n : Nat) (hl : l.length ≤ 1000) (h : atK l r n = none) (w : World) (hp : KSl w a l) :
    Calls Tryd.prog 24 #[.slice a l.length c, .agg #[.string r, .int .u64 (n : Int)]] w fun e w' => e = .returned (.bool false) ∧ Below w.heap.size w w' :=
  (has_any a c l r n hl w hp).mono fun _ _ ⟨e, e2⟩ => ⟨by rw [e, decide_eq_false fun hh => (atI_neg l r n).1 hh h], e2⟩
set_option maxHeartbeats 4000000 in
theorem Right_any (a : Option Addr) (c : Nat) (l : List Kk) (hl : l.length ≤ 1000) (hlc : l.length ≤ c) (w : World) (hp : KSl w a l) :
    Calls Tryd.prog 12 #[.slice a l.length c] w fun e w' => e = .returned (.bool (decide (rightK l))) ∧ Below w.heap.size w w' := by
  by_cases h20 : l.length ≤ 20
  case neg =>
    have h1 : (20 : Int) < (l.length : Int) := by omega
    rw [show decide (rightK l) = false from decide_eq_false fun h => h20 h.few]
    clear hp hl hlc h20
    go_enter Tryd.func12, Tryd.ntmps12
    go_wp2_with fail
    go_ret
    exact ⟨rfl, Below.refl _ _⟩
  have hlen : (l.length : Int) ≤ 20 := by omega
  have hle : ¬ (20 : Int) < (l.length : Int) := by omega
  have HP := Lib.hid hp; have HL := Lib.hid (And.intro hl (And.intro hlc h20)); have HLE := Lib.hid hlen
  clear hp hl hlc h20 hlen
  go_enter Tryd.func12, Tryd.ntmps12
  go_wp2_with fail
  go_loopw [10] (fun i wr => RightRelK w l i wr) (fun i _ => l.length - (intOf i).toNat)
  case atStart => exact ⟨0, Nat.zero_le _, rfl, fun j hj => absurd hj (Nat.not_lt_zero j), Below.refl _ _⟩
  case round =>
    obtain ⟨k, hk, rfl, hok, hB⟩ := hrel
    by_cases hlt : k < l.length
    · have h1 : (k : Int) < (l.length : Int) := by omega
      have h1k : (k : Int) < 1000 := by have := HL.out; omega
      have h1c : (k : Int) ≤ (c : Int) := by have := HL.out; omega
      obtain ⟨g, off, rfl, hbl, hc⟩ := HP.out (by omega)
      have hpt := (hc k hlt).below hB hbl
      have hno : ¬ goodAt l k → decide (rightK l) = false := right_not hlt
      have hyes : goodAt l k → ∀ j, j < k + 1 → goodAt l j := fun h j hj => by
        by_cases e : j = k
        · subst e; exact h
        · exact hok j (by omega)
      have hgo : goodAt l k ↔ sizedK (l.getD k k00) ∧ atK (l.take k) (l.getD k k00).r (l.getD k k00).n = none := Iff.rfl
      obtain ⟨p, ep⟩ : ∃ p, l.getD k k00 = p := ⟨_, rfl⟩
      rw [ep] at hpt hgo
      obtain ⟨x, m, y⟩ := p
      obtain ⟨c0, c1, c2⟩ := hpt
      simp only at c0 c1 c2
      have htk : (l.take k).length = k := by rw [List.length_take]; omega
      obtain ⟨W, eW⟩ : ∃ W, wr.alloc (.cells #[.string x, .int .u64 (m : Int), .string y] 47) = W := ⟨_, rfl⟩
      have hW := below_dnK hB (.cells #[.string x, .int .u64 (m : Int), .string y] 47)
      have hks := (HP.out.on hW).take k
      have hcW := heap_alloc_new wr (.cells #[.string x, .int .u64 (m : Int), .string y] 47)
      rw [eW] at hW hks hcW
      have hR := fun (d : Nat) (os : Array Obj) => rowOf_any x m y (grow (redrawn W d) os)
      have hY := fun (h : atK (l.take k) x m ≠ none) (d : Nat) (os : Array Obj) => has_yes (some ⟨g, off, none⟩) c (l.take k) x m (by have := HL.out; omega) h (grow (redrawn W d) os) (hks.on (below_regrown W d os))
      have hN := fun (h : atK (l.take k) x m = none) (d : Nat) (os : Array Obj) => has_no (some ⟨g, off, none⟩) c (l.take k) x m (by have := HL.out; omega) h (grow (redrawn W d) os) (hks.on (below_regrown W d os))
      rw [htk] at hY hN
      obtain ⟨B, eB⟩ : ∃ B, wr.heap.size = B := ⟨_, rfl⟩
      rw [eB] at hcW
      have e0 : W.cell? ⟨B, 0, none⟩ = some (.string x) := by rw [cell_of_row _ _ _ _ _ _ hcW]; rfl
      have e1 : W.cell? ⟨B, 1, none⟩ = some (.int .u64 (m : Int)) := by rw [cell_of_row _ _ _ _ _ _ hcW]; rfl
      have e2 : W.cell? ⟨B, 2, none⟩ = some (.string y) := by rw [cell_of_row _ _ _ _ _ _ hcW]; rfl
      have q0 := cell_regrown e0; have q1 := cell_regrown e1; have q2 := cell_regrown e2
      have HB := Lib.hid hW; have HNO := Lib.hid hno; have HYES := Lib.hid hyes; have HGO := Lib.hid hgo
      have HR := Lib.hid hR; have HHY := Lib.hid hY; have HHN := Lib.hid hN
      clear hB hW hks hcW hno hyes hgo hok hc hbl ep htk e0 e1 e2 hR hY hN
      by_cases hx : x.size = 32
      · have HX := Lib.hid (fun (d : Nat) (os : Array Obj) => isKeyK_yes x hx (grow (redrawn W d) os))
        by_cases hy : y.size = 32
        · have HY := Lib.hid (fun (d : Nat) (os : Array Obj) => isKeyK_yes y hy (grow (redrawn W d) os))
          cases hat : atK (l.take k) x m with
          | none =>
            have HH := Lib.hid (HHN.out hat)
            have HE := Lib.hid (HYES.out (HGO.out.2 ⟨⟨hx, hy⟩, hat⟩))
            clear hx hy hat HNO HYES HGO HHY HHN
            go_upto_region 6 with fail
            clear c0 c1 c2
            refine wp_region_quiet_below (by kernel_rfl) (by kernel_rfl) ?_
            iterate 18 (go_big_quiet_step (first | (go_at_call 13; with_reducible exact Calls.regrown_of (HX.out _ _)) | (go_at_call 13; with_reducible exact Calls.regrown_of (HY.out _ _)) | (go_at_call 25; with_reducible exact Calls.regrown_of (HR.out _ _)) | (go_at_call 24; with_reducible exact Calls.regrown_of (HH.out _ _))))
            refine wpQuiet_nil ?_
            intro _ hw'
            obtain ⟨⟨dq, osq⟩, hw''⟩ := hw'
            subst hw''
            have hb := below_regrown W dq osq
            have HB2 := Lib.hid (HB.out.trans (hb.mono HB.out.size))
            clear q0 q1 q2 hb HX HR HB HY HH
            generalize grow (redrawn W dq) osq = W1 at HB2 ⊢
            rename_i K hK
            refine hK _ _ ?_
            clear hK K
            go_wp2_with fail
            exact ⟨⟨k + 1, by omega, by simp, HE.out, HB2.out⟩, by simp [intOf]; omega⟩
          | some i =>
            have HH := Lib.hid (HHY.out (by rw [hat]; exact fun h => by cases h))
            have HE := Lib.hid (HNO.out fun h => by rw [(HGO.out.1 h).2] at hat; cases hat)
            clear hx hy hat HNO HYES HGO HHY HHN
            go_upto_region 6 with fail
            clear c0 c1 c2
            refine wp_region_quiet_below (by kernel_rfl) (by kernel_rfl) ?_
            iterate 18 (go_big_quiet_step (first | (go_at_call 13; with_reducible exact Calls.regrown_of (HX.out _ _)) | (go_at_call 13; with_reducible exact Calls.regrown_of (HY.out _ _)) | (go_at_call 25; with_reducible exact Calls.regrown_of (HR.out _ _)) | (go_at_call 24; with_reducible exact Calls.regrown_of (HH.out _ _))))
            refine wpQuiet_nil ?_
            intro _ hw'
            obtain ⟨⟨dq, osq⟩, hw''⟩ := hw'
            subst hw''
            have hb := below_regrown W dq osq
            have HB2 := Lib.hid (HB.out.trans (hb.mono HB.out.size))
            clear q0 q1 q2 hb HX HR HB HY HH
            generalize grow (redrawn W dq) osq = W1 at HB2 ⊢
            rename_i K hK
            refine hK _ _ ?_
            clear hK K
            go_wp2_with fail
            go_ret
            exact ⟨by rw [HE.out]; rfl, HB2.out⟩
        · have HY := Lib.hid (fun (d : Nat) (os : Array Obj) => isKeyK_no y hy (grow (redrawn W d) os))
          have HE := Lib.hid (HNO.out fun h => hy (HGO.out.1 h).1.2)
          clear hx hy HNO HYES HGO HHY HHN
          go_upto_region 6 with fail
          clear c0 c1 c2
          refine wp_region_quiet_below (by kernel_rfl) (by kernel_rfl) ?_
          iterate 18 (go_big_quiet_step (first | (go_at_call 13; with_reducible exact Calls.regrown_of (HX.out _ _)) | (go_at_call 13; with_reducible exact Calls.regrown_of (HY.out _ _))))
          refine wpQuiet_nil ?_
          intro _ hw'
          obtain ⟨⟨dq, osq⟩, hw''⟩ := hw'
          subst hw''
          have hb := below_regrown W dq osq
          have HB2 := Lib.hid (HB.out.trans (hb.mono HB.out.size))
          clear q0 q1 q2 hb HX HR HB HY
          generalize grow (redrawn W dq) osq = W1 at HB2 ⊢
          rename_i K hK
          refine hK _ _ ?_
          clear hK K
          go_wp2_with fail
          go_ret
          exact ⟨by rw [HE.out]; rfl, HB2.out⟩
      · have HX := Lib.hid (fun (d : Nat) (os : Array Obj) => isKeyK_no x hx (grow (redrawn W d) os))
        have HE := Lib.hid (HNO.out fun h => hx (HGO.out.1 h).1.1)
        clear hx HNO HYES HGO HHY HHN
        go_upto_region 6 with fail
        clear c0 c1 c2
        refine wp_region_quiet_below (by kernel_rfl) (by kernel_rfl) ?_
        iterate 18 (go_big_quiet_step (first | (go_at_call 13; with_reducible exact Calls.regrown_of (HX.out _ _))))
        refine wpQuiet_nil ?_
        intro _ hw'
        obtain ⟨⟨dq, osq⟩, hw''⟩ := hw'
        subst hw''
        have hb := below_regrown W dq osq
        have HB2 := Lib.hid (HB.out.trans (hb.mono HB.out.size))
        clear q0 q1 q2 hb HX HR HB
        generalize grow (redrawn W dq) osq = W1 at HB2 ⊢
        rename_i K hK
        refine hK _ _ ?_
        clear hK K
        go_wp2_with fail
        go_ret
        exact ⟨by rw [HE.out]; rfl, HB2.out⟩
    · obtain rfl : k = l.length := by omega
      have hn : ¬ (l.length : Int) < (l.length : Int) := by omega
      have HN := Lib.hid (show decide (rightK l) = true by rw [right_end hok, decide_eq_true HL.out.2.2])
      have HB := Lib.hid hB
      clear hB hok
      go_wp2_with fail
      go_ret
      exact ⟨by rw [HN.out]; rfl, HB.out⟩
end Go.Proofs.YtfkfadcfafbmmaaDoor
