/- The texts Xpd, Xpe, Yb, Yr, one behind the other. -/
import Derived.Test.YtdnjieffbgmagaaDoorBg17
import Derived.Test.YtdnjieffbgmagaaDoorBg9
import Derived.Test.YtdnjieffbgmagaaDoorBg1
import Derived.WalkSmall
import Derived.Lib.Strings
import Derived.Test.YtdnjieffbgmagaaDoorBg12
import Derived.Test.YtdnjieffbgmagaaDoorBg13
/- skipped's Right. -/
namespace Go.Proofs.YtdnjieffbgmagaaDoor
open Go.RowKit Go.Sort
set_option maxRecDepth 100000
theorem isKeyK_yes (s : ByteArray) (h : s.size = 32) (w : World) : Calls Tryd.prog 53 #[.string s] w fun e w' => e = .returned (.bool true) ∧ Below w.heap.size w w' :=
  (isKeyK_any s w).mono fun _ _ ⟨e, e2⟩ => ⟨by rw [e, decide_eq_true h], by subst e2; exact Below.refl _ _⟩
theorem isKeyK_no (s : ByteArray) (h : ¬ s.size = 32) (w : World) : Calls Tryd.prog 53 #[.string s] w fun e w' => e = .returned (.bool false) ∧ Below w.heap.size w w' :=
  (isKeyK_any s w).mono fun _ _ ⟨e, e2⟩ => ⟨by rw [e, decide_eq_false h], by subst e2; exact Below.refl _ _⟩
theorem has_yes (a : Option Addr) (c : Nat) (l : List Kk) (r : ByteArray) (n : Nat) (hl : l.length ≤ 1000) (h : atK l r n ≠ none) (w : World) (hp : KSl w a l) :
    Calls Tryd.prog 54 #[.slice a l.length c, .agg #[.string r, .int .u64 (n : Int)]] w fun e w' => e = .returned (.bool true) ∧ Below w.heap.size w w' :=
  (has_any a c l r n hl w hp).mono fun _ _ ⟨e, e2⟩ => ⟨by rw [e, decide_eq_true ((atI_neg l r n).2 h)], e2⟩
theorem has_no (a : Option Addr) (c : Nat) (l : List Kk) (r : ByteArray) (n : Nat) (hl : l.length ≤ 1000) (h : atK l r n = none) (w : World) (hp : KSl w a l) :
    Calls Tryd.prog 54 #[.slice a l.length c, .agg #[.string r, .int .u64 (n : Int)]] w fun e w' => e = .returned (.bool false) ∧ Below w.heap.size w w' :=
  (has_any a c l r n hl w hp).mono fun _ _ ⟨e, e2⟩ => ⟨by rw [e, decide_eq_false fun hh => (atI_neg l r n).1 hh h], e2⟩
set_option maxHeartbeats 4000000 in
theorem Right_any (a : Option Addr) (c : Nat) (l : List Kk) (hl : l.length ≤ 1000) (hlc : l.length ≤ c) (w : World) (hp : KSl w a l) :
    Calls Tryd.prog 40 #[.slice a l.length c] w fun e w' => e = .returned (.bool (decide (rightK l))) ∧ Below w.heap.size w w' := by
  by_cases h20 : l.length ≤ 20
  case neg =>
    have h1 : (20 : Int) < (l.length : Int) := by omega
    rw [show decide (rightK l) = false from decide_eq_false fun h => h20 h.few]
    clear hp hl hlc h20
    go_enter Tryd.func40, Tryd.ntmps40
    go_wp2_with fail
    go_ret
    exact ⟨rfl, Below.refl _ _⟩
  have hlen : (l.length : Int) ≤ 20 := by omega
  have hle : ¬ (20 : Int) < (l.length : Int) := by omega
  have HP := Lib.hid hp; have HL := Lib.hid (And.intro hl (And.intro hlc h20)); have HLE := Lib.hid hlen
  clear hp hl hlc h20 hlen
  go_enter Tryd.func40, Tryd.ntmps40
  go_wp2_with fail
  go_loopw [10] (fun i wr => RightRelK w l i wr) (fun i _ => l.length - (intOf i).toNat)
  case atStart => exact ⟨0, Nat.zero_le _, rfl, fun j hj => absurd hj (Nat.not_lt_zero j), Below.refl _ _⟩
  case round =>
    obtain ⟨k, hk, rfl, hok, hB⟩ := hrel
    by_cases hlt : k < l.length
    · have h1 : (k : Int) < (l.length : Int) := by omega
      have h1k : (k : Int) < 1000 := by have := HL.out; omega
      have h1c : (k : Int) ≤ (c : Int) := by have := HL.out; omega
      obtain ⟨g, off, rfl, hbl, hc⟩ := HP.out (by omega)
      have hpt := (hc k hlt).below hB hbl
      have hno : ¬ goodAt l k → decide (rightK l) = false := right_notK hlt
      have hyes : goodAt l k → ∀ j, j < k + 1 → goodAt l j := fun h j hj => by
        by_cases e : j = k
        · subst e; exact h
        · exact hok j (by omega)
      have hgo : goodAt l k ↔ sizedK (l.getD k k00) ∧ atK (l.take k) (l.getD k k00).r (l.getD k k00).n = none := Iff.rfl
      obtain ⟨p, ep⟩ : ∃ p, l.getD k k00 = p := ⟨_, rfl⟩
      rw [ep] at hpt hgo
      obtain ⟨x, m, y⟩ := p
      obtain ⟨c0, c1, c2⟩ := hpt
      simp only at c0 c1 c2
      have htk : (l.take k).length = k := by rw [List.length_take]; omega
      obtain ⟨W, eW⟩ : ∃ W, wr.alloc (.cells #[.string x, .int .u64 (m : Int), .string y] 56) = W := ⟨_, rfl⟩
      have hW := below_dnK hB (.cells #[.string x, .int .u64 (m : Int), .string y] 56)
      have hks := (HP.out.on hW).take k
      have hcW := heap_alloc_new wr (.cells #[.string x, .int .u64 (m : Int), .string y] 56)
      rw [eW] at hW hks hcW
      have hR := fun (d : Nat) (os : Array Obj) => rowOf_anyK x m y (grow (redrawn W d) os)
      have hY := fun (h : atK (l.take k) x m ≠ none) (d : Nat) (os : Array Obj) => has_yes (some ⟨g, off, none⟩) c (l.take k) x m (by have := HL.out; omega) h (grow (redrawn W d) os) (hks.on (below_regrown W d os))
      have hN := fun (h : atK (l.take k) x m = none) (d : Nat) (os : Array Obj) => has_no (some ⟨g, off, none⟩) c (l.take k) x m (by have := HL.out; omega) h (grow (redrawn W d) os) (hks.on (below_regrown W d os))
      rw [htk] at hY hN
      obtain ⟨B, eB⟩ : ∃ B, wr.heap.size = B := ⟨_, rfl⟩
      rw [eB] at hcW
      have e0 : W.cell? ⟨B, 0, none⟩ = some (.string x) := by rw [cell_of_row _ _ _ _ _ _ hcW]; rfl
      have e1 : W.cell? ⟨B, 1, none⟩ = some (.int .u64 (m : Int)) := by rw [cell_of_row _ _ _ _ _ _ hcW]; rfl
      have e2 : W.cell? ⟨B, 2, none⟩ = some (.string y) := by rw [cell_of_row _ _ _ _ _ _ hcW]; rfl
      have q0 := cell_regrown e0; have q1 := cell_regrown e1; have q2 := cell_regrown e2
      have HB := Lib.hid hW; have HNO := Lib.hid hno; have HYES := Lib.hid hyes; have HGO := Lib.hid hgo
      have HR := Lib.hid hR; have HHY := Lib.hid hY; have HHN := Lib.hid hN
      clear hB hW hks hcW hno hyes hgo hok hc hbl ep htk e0 e1 e2 hR hY hN
      by_cases hx : x.size = 32
      · have HX := Lib.hid (fun (d : Nat) (os : Array Obj) => isKeyK_yes x hx (grow (redrawn W d) os))
        by_cases hy : y.size = 32
        · have HY := Lib.hid (fun (d : Nat) (os : Array Obj) => isKeyK_yes y hy (grow (redrawn W d) os))
          cases hat : atK (l.take k) x m with
          | none =>
            have HH := Lib.hid (HHN.out hat)
            have HE := Lib.hid (HYES.out (HGO.out.2 ⟨⟨hx, hy⟩, hat⟩))
            clear hx hy hat HNO HYES HGO HHY HHN
            go_upto_region 6 with fail
            clear c0 c1 c2
            refine wp_region_quiet_below (by kernel_rfl) (by kernel_rfl) ?_
            iterate 18 (go_big_quiet_step (first | (go_at_call 53; with_reducible exact Calls.regrown_of (HX.out _ _)) | (go_at_call 53; with_reducible exact Calls.regrown_of (HY.out _ _)) | (go_at_call 55; with_reducible exact Calls.regrown_of (HR.out _ _)) | (go_at_call 54; with_reducible exact Calls.regrown_of (HH.out _ _))))
            refine wpQuiet_nil ?_
            intro _ hw'
            obtain ⟨⟨dq, osq⟩, hw''⟩ := hw'
            subst hw''
            have hb := below_regrown W dq osq
            have HB2 := Lib.hid (HB.out.trans (hb.mono HB.out.size))
            clear q0 q1 q2 hb HX HR HB HY HH
            generalize grow (redrawn W dq) osq = W1 at HB2 ⊢
            rename_i K hK
            refine hK _ _ ?_
            clear hK K
            go_wp2_with fail
            exact ⟨⟨k + 1, by omega, by simp, HE.out, HB2.out⟩, by simp [intOf]; omega⟩
          | some i =>
            have HH := Lib.hid (HHY.out (by rw [hat]; exact fun h => by cases h))
            have HE := Lib.hid (HNO.out fun h => by rw [(HGO.out.1 h).2] at hat; cases hat)
            clear hx hy hat HNO HYES HGO HHY HHN
            go_upto_region 6 with fail
            clear c0 c1 c2
            refine wp_region_quiet_below (by kernel_rfl) (by kernel_rfl) ?_
            iterate 18 (go_big_quiet_step (first | (go_at_call 53; with_reducible exact Calls.regrown_of (HX.out _ _)) | (go_at_call 53; with_reducible exact Calls.regrown_of (HY.out _ _)) | (go_at_call 55; with_reducible exact Calls.regrown_of (HR.out _ _)) | (go_at_call 54; with_reducible exact Calls.regrown_of (HH.out _ _))))
            refine wpQuiet_nil ?_
            intro _ hw'
            obtain ⟨⟨dq, osq⟩, hw''⟩ := hw'
            subst hw''
            have hb := below_regrown W dq osq
            have HB2 := Lib.hid (HB.out.trans (hb.mono HB.out.size))
            clear q0 q1 q2 hb HX HR HB HY HH
            generalize grow (redrawn W dq) osq = W1 at HB2 ⊢
            rename_i K hK
            refine hK _ _ ?_
            clear hK K
            go_wp2_with fail
            go_ret
            exact ⟨by rw [HE.out]; rfl, HB2.out⟩
        · have HY := Lib.hid (fun (d : Nat) (os : Array Obj) => isKeyK_no y hy (grow (redrawn W d) os))
          have HE := Lib.hid (HNO.out fun h => hy (HGO.out.1 h).1.2)
          clear hx hy HNO HYES HGO HHY HHN
          go_upto_region 6 with fail
          clear c0 c1 c2
          refine wp_region_quiet_below (by kernel_rfl) (by kernel_rfl) ?_
          iterate 18 (go_big_quiet_step (first | (go_at_call 53; with_reducible exact Calls.regrown_of (HX.out _ _)) | (go_at_call 53; with_reducible exact Calls.regrown_of (HY.out _ _))))
          refine wpQuiet_nil ?_
          intro _ hw'
          obtain ⟨⟨dq, osq⟩, hw''⟩ := hw'
          subst hw''
          have hb := below_regrown W dq osq
          have HB2 := Lib.hid (HB.out.trans (hb.mono HB.out.size))
          clear q0 q1 q2 hb HX HR HB HY
          generalize grow (redrawn W dq) osq = W1 at HB2 ⊢
          rename_i K hK
          refine hK _ _ ?_
          clear hK K
          go_wp2_with fail
          go_ret
          exact ⟨by rw [HE.out]; rfl, HB2.out⟩
      · have HX := Lib.hid (fun (d : Nat) (os : Array Obj) => isKeyK_no x hx (grow (redrawn W d) os))
        have HE := Lib.hid (HNO.out fun h => hx (HGO.out.1 h).1.1)
        clear hx HNO HYES HGO HHY HHN
        go_upto_region 6 with fail
        clear c0 c1 c2
        refine wp_region_quiet_below (by kernel_rfl) (by kernel_rfl) ?_
        iterate 18 (go_big_quiet_step (first | (go_at_call 53; with_reducible exact Calls.regrown_of (HX.out _ _))))
        refine wpQuiet_nil ?_
        intro _ hw'
        obtain ⟨⟨dq, osq⟩, hw''⟩ := hw'
        subst hw''
        have hb := below_regrown W dq osq
        have HB2 := Lib.hid (HB.out.trans (hb.mono HB.out.size))
        clear q0 q1 q2 hb HX HR HB
        generalize grow (redrawn W dq) osq = W1 at HB2 ⊢
        rename_i K hK
        refine hK _ _ ?_
        clear hK K
        go_wp2_with fail
        go_ret
        exact ⟨by rw [HE.out]; rfl, HB2.out⟩
    · obtain rfl : k = l.length := by omega
      have hn : ¬ (l.length : Int) < (l.length : Int) := by omega
      have HN := Lib.hid (show decide (rightK l) = true by rw [right_end hok, decide_eq_true HL.out.2.2])
      have HB := Lib.hid hB
      clear hB hok
      go_wp2_with fail
      go_ret
      exact ⟨by rw [HN.out]; rfl, HB.out⟩
end Go.Proofs.YtdnjieffbgmagaaDoor

/- skipped's hasAny, slices.Clone of kept keys, filled. -/
namespace Go.Proofs.YtdnjieffbgmagaaDoor
open Go.RowKit Go.Sort
set_option maxRecDepth 100000
/-- is one of the numbers there, from the first on, ahead of so many? -/
def AnyRelK (w : World) (l : List Kk) (r : ByteArray) (f m : Nat) (i : Value) (wr : World) : Prop :=
  ∃ k : Nat, k ≤ m ∧ i = .int .u64 ((f + k : Nat) : Int) ∧ (∀ j, j < k → atK l r (f + j) = none) ∧ Below w.heap.size w wr
theorem eqlK_nil (n c : Nat) (W : World) : (binOp .eql 23 (.slice none n c) (.slice none 0 0)).run Tryd.prog W = .ok (.bool true) W := by rfl
theorem eqlK_some (ad : Addr) (n c : Nat) (W : World) : (binOp .eql 23 (.slice (some ad) n c) (.slice none 0 0)).run Tryd.prog W = .ok (.bool false) W := by rfl
set_option maxHeartbeats 2000000 in
theorem CloneK_any (a : Option Addr) (c : Nat) (l : List Kk) (hl : l.length ≤ 1000) (w : World) (hp : KSl w a l) :
    Calls Tryd.prog 23 #[.slice a l.length c] w fun e w' => ∃ v, e = .returned v ∧ OwnK w' w.heap.size v l ∧ Below w.heap.size w w' := by
  cases a with
  | none =>
    rcases hp.cut with h | ⟨b, off, h, -⟩
    · subst h
      have q := fun W => eqlK_nil 0 c W
      clear hp hl
      go_enter Tryd.func23, Tryd.ntmps23
      go_wp2_with fail
      go_ret
      exact ⟨_, rfl, OwnK.nil _ _, Below.refl _ _⟩
    · cases h
  | some ad =>
    have hO := OwnK.empty w w.heap.size (Nat.le_refl _)
    have hB : Below w.heap.size w (w.alloc (.cells #[] 56)) := by go_grown
    have hks := hp.on hB
    have HO := Lib.hid hO; have HB := Lib.hid hB; have HK := Lib.hid hks; have HL := Lib.hid hl
    have q := fun W => eqlK_some ad l.length c W
    clear hO hB hks hp hl
    go_enter Tryd.func23, Tryd.ntmps23
    go_wp2_with (at_builtin; refine append_ks rfl _ _ rfl w.heap.size _ [] (some ad) l.length c l rfl rfl rfl HO.out HK.out (by have := HL.out; simp; omega) HB.out.size ?_)
    intro v' w' hO' hg'
    have HF := Lib.hid (And.intro hO' (OwnK.belowS HO.out HB.out (Nat.le_refl _) HB.out.size hg'))
    clear hO' hg' HO HB HK
    go_wp2_with fail
    go_ret
    exact ⟨_, rfl, HF.out.1, HF.out.2⟩
theorem runK_getD (c : ByteArray) (n k : Nat) (h : k < n) : (runK c n).getD k ⟨#[]⟩ = spB (runC c k) stWord := by
  induction n with
  | zero => omega
  | succ n ih =>
    rw [runK_succ]
    by_cases hk : k < n
    · rw [← ih hk]
      simp [List.getD, List.getElem?_append_left (show k < (runK c n).length by rw [runK_length]; exact hk)]
    · obtain rfl : k = n := by omega
      simp [List.getD, runK_length]
/-- texts of the call's own can be read -/
theorem OwnS.readK {w : World} {base : Nat} {v : Value} {l : List ByteArray} (h : OwnS w base v l) : ∃ (a : Option Addr) (c : Nat), v = .slice a l.length c ∧ SSl w a l := by
  rcases h.2 with ⟨e, h0⟩ | ⟨g, cap, cur, e, -⟩
  · have h1 : l = [] := List.length_eq_zero_iff.1 h0
    subst h1
    exact ⟨none, 0, e, fun h => absurd h (Nat.lt_irrefl 0)⟩
  · subst e
    refine ⟨_, _, rfl, fun _ => ?_⟩
    obtain ⟨g', off, cap', e, hlt, hcc⟩ := h.strs rfl
    cases e
    exact ⟨_, _, rfl, hlt, hcc⟩
theorem fillK_length20 (l : List Kk) (r c : ByteArray) (f m : Nat) (hl : l.length ≤ 20) : (fillK l r c f m).length ≤ 20 := by
  induction m with
  | zero => exact hl
  | succ m ih => exact putK_length _ _ 20 (by omega) ih
def FilledRel (w : World) (l : List Kk) (r c : ByteArray) (f n : Nat) (o i : Value) (wr : World) : Prop :=
  ∃ k : Nat, k ≤ n ∧ i = .int .i64 (k : Int) ∧ OwnK wr w.heap.size o (fillK l r c f k) ∧ Below w.heap.size w wr
end Go.Proofs.YtdnjieffbgmagaaDoor

/- The package session's leaves: isKey, isKeyOrNone, refuseIf, sure, surePair; the reference's open. -/
namespace Go.Proofs.YtdnjieffbgmagaaDoor
open Go.RowKit
set_option maxRecDepth 100000
theorem str_litY (s : ByteArray) (l m : List UInt8) (hs : bl s = l) : (s.toList == m) = decide (l = m) := by
  rw [Lib.toList_data]
  show (bl s == m) = _
  rw [hs]
  by_cases h : l = m
  · subst h; simp
  · rw [decide_eq_false h, beq_eq_false_iff_ne]; exact h
theorem nat_eqY (n m : Nat) : ((n : Int) == (m : Int)) = decide (n = m) := by
  by_cases h : n = m
  · subst h; simp
  · rw [decide_eq_false h, beq_eq_false_iff_ne]; omega
theorem str_nilY (x : ByteArray) : (x.toList == []) = decide (x.size = 0) := by
  rw [str_litY x (bl x) [] rfl]
  by_cases h : x.size = 0
  · rw [decide_eq_true h, decide_eq_true]; exact List.eq_nil_of_length_eq_zero h
  · rw [decide_eq_false h, decide_eq_false]; intro e; exact h (by rw [← bl_length, e]; rfl)
theorem isKeyY_any (s : ByteArray) (w : World) :
    Calls Tryd.prog 37 #[.string s] w fun e w' => e = .returned (.bool (decide (s.size = 32))) ∧ w = w' := by
  have q := nat_eqY s.size 32
  go_enter Tryd.func37, Tryd.ntmps37
  go_wp2_with fail
  go_ret
  exact ⟨by rw [← q]; rfl, rfl⟩
theorem isKeyOrNone_any (s : ByteArray) (w : World) :
    Calls Tryd.prog 38 #[.string s] w fun e w' => e = .returned (.bool (decide (s.size = 0 ∨ s.size = 32))) ∧ w = w' := by
  have q := str_nilY s
  have H := Lib.hid (isKeyY_any s w)
  by_cases h : s.size = 0
  · rw [decide_eq_true h] at q
    rw [decide_eq_true (Or.inl h)]
    clear h H
    go_enter Tryd.func38, Tryd.ntmps38
    go_wp2_with fail
    go_ret
    exact ⟨rfl, rfl⟩
  · rw [decide_eq_false h] at q
    have e : decide (s.size = 0 ∨ s.size = 32) = decide (s.size = 32) := by simp [h]
    rw [e]
    clear h e
    go_enter Tryd.func38, Tryd.ntmps38
    go_wp2_with fail
    refine H.out.mono ?_
    rintro e w1 ⟨rfl, rfl⟩
    clear H
    go_wp2_with fail
    go_ret
    exact ⟨rfl, rfl⟩
theorem openY_any (s : ByteArray) (w : World) :
    Calls Tryd.prog 26 #[.string s] w fun e w' => e = .returned (.bool (decide (s.size = 0 ∨ s.size = 32))) ∧ w = w' := by
  have q := str_nilY s
  have q2 := nat_eqY s.size 32
  by_cases h : s.size = 0
  · rw [decide_eq_true h] at q
    rw [decide_eq_true (Or.inl h)]
    clear h q2
    go_enter Tryd.func26, Tryd.ntmps26
    go_wp2_with fail
    go_ret
    exact ⟨rfl, rfl⟩
  · rw [decide_eq_false h] at q
    have e : decide (s.size = 0 ∨ s.size = 32) = decide (s.size = 32) := by simp [h]
    rw [e, ← q2]
    clear h e q2
    go_enter Tryd.func26, Tryd.ntmps26
    go_wp2_with fail
    go_ret
    exact ⟨rfl, rfl⟩
/-- what a panic with an error's number leaves -/
abbrev thrown (k : Int) : Ending := .panicked [{ v := .iface 28 (.int .i64 k), recovered := false }]
end Go.Proofs.YtdnjieffbgmagaaDoor

/- The reference's Head of a session's frame. -/
namespace Go.Proofs.YtdnjieffbgmagaaDoor
open Go.RowKit Go.Sort
set_option maxRecDepth 100000
set_option maxHeartbeats 1000000 in
theorem rHead_any (f : Fr) (a : Option Addr) (c : Nat) (hf : FrSz f) (hok : FrOk f) (w : World) :
    Calls Tryd.prog 36 #[frV f a c] w fun e w' => e = .returned (.string (strL (headF f))) ∧ Below w.heap.size w w' := by
  obtain ⟨W, eW⟩ : ∃ W, w.alloc (.cells (frL f a c).toArray 32) = W := ⟨_, rfl⟩
  have hbW : Below w.heap.size w W := by rw [← eW]; exact (Below.refl _ _).alloc (Nat.le_refl _) _
  have hX : BlkV W w.heap.size 32 (frL f a c) := by rw [← eW]; exact BlkV.fresh _ _ _ _ rfl _ rfl
  have f11 := hX.cell 11 _ rfl
  have y11 := hX.frozen 11
  have hS := hX.set 11 (.string ⟨#[]⟩)
  have hB := hbW.setCell (p := ⟨w.heap.size, 11, none⟩) (Nat.le_refl _) (.string ⟨#[]⟩)
  have hh := fun V => r8Head_any { f with body := ⟨#[]⟩ } a c ⟨hf.kind, hf.ident, hf.base, hf.ratchet, Nat.zero_le _, hf.klen, hf.kall⟩ ⟨hok.frm, hok.dst, hok.id, hok.signed, hok.once, hok.prev, hok.num⟩ V
  have e1 : headF { f with body := ⟨#[]⟩ } = headF f := rfl
  have e2 : frV { f with body := ⟨#[]⟩ } a c = .agg ((frL f a c).set 11 (.string ⟨#[]⟩)).toArray := rfl
  rw [e1, e2] at hh
  have ef : frV f a c = .agg (frL f a c).toArray := rfl
  rw [ef]
  have HF := Lib.hid (And.intro hS hB); have HH := Lib.hid hh; have HE := Lib.hid eW
  clear hX hS hB hh e1 e2 ef eW hbW hf hok
  go_enter Tryd.func36, Tryd.ntmps36
  go_upto_region 1 with fail
  generalize hG : World.alloc w _ = G
  obtain rfl : W = G := by rw [← hG, ← HE.out]
  clear hG HE
  go_upto_region 2 with fail
  generalize World.setCell W _ _ = V at HF ⊢
  clear f11 y11
  refine wp_region_lit ?_
  refine load_v rfl _ _ rfl w.heap.size rfl HF.out.1 Tryd.underlying32 rfl (by kernel_rfl) ?_
  go_wp2_with fail
  refine (HH.out _).mono ?_
  rintro e w1 ⟨rfl, hb⟩
  have HB := Lib.hid (HF.out.2.trans (hb.mono HF.out.2.size))
  clear hb HH HF
  go_wp2_with fail
  go_ret
  exact ⟨rfl, HB.out⟩
end Go.Proofs.YtdnjieffbgmagaaDoor
