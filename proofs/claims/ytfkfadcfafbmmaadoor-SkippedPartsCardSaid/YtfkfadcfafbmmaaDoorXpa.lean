/- skipped's leaves: whether a text may be a key, the row of a kept key, where a row stands. -/
import Derived.Test.YtfkfadcfafbmmaaDoorBg14
import Derived.Lib.QuietBelow
import Derived.BigQuiet
namespace Go.Proofs.YtfkfadcfafbmmaaDoor
open Go.RowKit Go.Sort
set_option maxRecDepth 100000

theorem isKeyK_any (s : ByteArray) (w : World) :
    Calls Tryd.prog 13 #[.string s] w fun e w' => e = .returned (.bool (decide (s.size = 32))) ∧ w = w' := by
  have h : ((s.size : Int) == 32) = decide (s.size = 32) := by
    rw [Bool.eq_iff_iff, beq_iff_eq, decide_eq_true_iff]; omega
  go_enter Tryd.func13, Tryd.ntmps13
  go_wp2
  go_ret
  exact ⟨rfl, rfl⟩
theorem rowOf_any (x : ByteArray) (m : Nat) (y : ByteArray) (w : World) :
    Calls Tryd.prog 25 #[.agg #[.string x, .int .u64 (m : Int), .string y]] w fun e w' => e = .returned (.agg #[.string x, .int .u64 (m : Int)]) ∧ Below w.heap.size w w' := by
  go_enter Tryd.func25, Tryd.ntmps25
  go_wp2_with fail
  have hH := heap_alloc_new (w.alloc (.cells #[.string x, .int .u64 (m : Int), .string y] 47)) (.cells #[.string x, .int .u64 (m : Int)] 61)
  rw [World.size_alloc] at hH
  have s0 := cell_of_row _ (w.heap.size + 1) 0 _ _ _ hH
  have s1 := cell_of_row _ (w.heap.size + 1) 1 _ _ _ hH
  refine bodyPost_ret (v := .agg #[.string x, .int .u64 (m : Int)]) (by simp [results, Tryd.results25, go_sem, s0, s1]) rfl ⟨rfl, by go_grown⟩
theorem run_eq_row (x r : ByteArray) (m n : Nat) (W : World) : (binOp .eql 61 (.agg #[.string x, .int .u64 (m : Int)]) (.agg #[.string r, .int .u64 (n : Int)])).run Tryd.prog W = .ok (.bool (decide (x = r ∧ m = n))) W := by
  have q1 := str_eqK x r
  have q2 := nat_eqK m n
  by_cases e1 : x = r
  · subst e1
    by_cases e2 : m = n
    · subst e2
      simp [go_sem]
    · rw [decide_eq_false e2] at q2
      rw [decide_eq_false fun h => e2 h.2]
      simp [go_sem, q2]
  · rw [decide_eq_false e1] at q1
    rw [decide_eq_false fun h => e1 h.1]
    simp [go_sem, q1]
def PlRelK (w : World) (l : List Kk) (r : ByteArray) (n : Nat) (i : Value) (wr : World) : Prop :=
  ∃ k : Nat, k ≤ l.length ∧ i = .int .i64 (k : Int) ∧ (∀ j, j < k → isK r n (l.getD j k00) = false) ∧ wr.heap[w.heap.size]? = some (.cells #[.string r, .int .u64 (n : Int)] 61) ∧ Below w.heap.size w wr
set_option maxHeartbeats 2000000 in
theorem place_any (a : Option Addr) (c : Nat) (l : List Kk) (r : ByteArray) (n : Nat) (hl : l.length ≤ 1000) (w : World) (hp : KSl w a l) :
    Calls Tryd.prog 30 #[.slice a l.length c, .agg #[.string r, .int .u64 (n : Int)]] w fun e w' => e = .returned (.int .i64 (atI l r n)) ∧ Below w.heap.size w w' := by
  have HP := Lib.hid hp; have HL := Lib.hid hl
  clear hp hl
  go_enter Tryd.func30, Tryd.ntmps30
  go_wp2_with fail
  have hr0 := heap_alloc_new w (.cells #[.string r, .int .u64 (n : Int)] 61)
  have hb0 : Below w.heap.size w (w.alloc (.cells #[.string r, .int .u64 (n : Int)] 61)) := by go_grown
  go_loopw [9] (fun i wr => PlRelK w l r n i wr) (fun i _ => l.length - (intOf i).toNat)
  case atStart => exact ⟨0, Nat.zero_le _, rfl, fun j hj => absurd hj (Nat.not_lt_zero j), hr0, hb0⟩
  case round =>
    obtain ⟨k, hk, rfl, hno, hR, hB⟩ := hrel
    by_cases hlt : k < l.length
    · have h1 : (k : Int) < (l.length : Int) := by omega
      have h1k : (k : Int) < 1000 := by have := HL.out; omega
      obtain ⟨g, off, rfl, hbl, hc⟩ := HP.out (by omega)
      have hpt := (hc k hlt).below hB hbl
      have hf := fun h => atI_found l r n k hlt hno h
      have hn2 : isK r n (l.getD k k00) = false → ∀ j, j < k + 1 → isK r n (l.getD j k00) = false := fun h j hj => by
        by_cases e : j = k
        · subst e; exact h
        · exact hno j (by omega)
      obtain ⟨p, ep⟩ : ∃ p, l.getD k k00 = p := ⟨_, rfl⟩
      rw [ep] at hpt hf hn2
      obtain ⟨x, m, y⟩ := p
      obtain ⟨c0, c1, c2⟩ := hpt
      simp only at c0 c1 c2
      have hRl := (Array.getElem?_eq_some_iff.1 hR).1
      have hR2 := (heap_alloc_old wr (.cells #[.string x, .int .u64 (m : Int), .string y] 47) hRl).trans hR
      have hcW := heap_alloc_new wr (.cells #[.string x, .int .u64 (m : Int), .string y] 47)
      have hB2 := below_dnK hB (.cells #[.string x, .int .u64 (m : Int), .string y] 47)
      obtain ⟨W, eW⟩ : ∃ W, wr.alloc (.cells #[.string x, .int .u64 (m : Int), .string y] 47) = W := ⟨_, rfl⟩
      rw [eW] at hR2 hcW hB2
      obtain ⟨B, eB⟩ : ∃ B, wr.heap.size = B := ⟨_, rfl⟩
      rw [eB] at hcW
      have hRo := fun (d : Nat) (os : Array Obj) => rowOf_any x m y (grow (redrawn W d) os)
      have e0 : W.cell? ⟨B, 0, none⟩ = some (.string x) := by rw [cell_of_row _ _ _ _ _ _ hcW]; rfl
      have e1 : W.cell? ⟨B, 1, none⟩ = some (.int .u64 (m : Int)) := by rw [cell_of_row _ _ _ _ _ _ hcW]; rfl
      have e2 : W.cell? ⟨B, 2, none⟩ = some (.string y) := by rw [cell_of_row _ _ _ _ _ _ hcW]; rfl
      have r0 : W.cell? ⟨w.heap.size, 0, none⟩ = some (.string r) := by rw [cell_of_row _ _ _ _ _ _ hR2]; rfl
      have r1 : W.cell? ⟨w.heap.size, 1, none⟩ = some (.int .u64 (n : Int)) := by rw [cell_of_row _ _ _ _ _ _ hR2]; rfl
      have q0 := cell_regrown e0; have q1 := cell_regrown e1; have q2 := cell_regrown e2; have q3 := cell_regrown r0; have q4 := cell_regrown r1
      have qe := fun W => run_eq_row x r m n W
      have hik : isK r n ⟨x, m, y⟩ = (decide (x = r) && decide (m = n)) := by simp [isK]
      have HIK := Lib.hid hik
      have HB := Lib.hid (And.intro hB2 hR2); have HF := Lib.hid hf; have HN := Lib.hid hn2; have HRO := Lib.hid hRo
      clear hB hB2 hc hno ep hbl hf hn2 hR hR2 hRl hcW e0 e1 e2 r0 r1 hRo hik
      go_upto_region 4 with fail
      clear c0 c1 c2
      refine wp_region_quiet_below (by kernel_rfl) (by kernel_rfl) ?_
      iterate 4 (go_big_quiet_step (first | (go_at_call 25; with_reducible exact Calls.regrown_of (HRO.out _ _))))
      refine wpQuiet_nil ?_
      intro _ hw'
      obtain ⟨⟨dq, osq⟩, hw''⟩ := hw'
      subst hw''
      have hb := below_regrown W dq osq
      have hb2 := HB.out.1.trans (hb.mono HB.out.1.size)
      have hR3 := (hb.block w.heap.size (Array.getElem?_eq_some_iff.1 HB.out.2).1).trans HB.out.2
      have HB3 := Lib.hid (And.intro hR3 hb2)
      obtain ⟨b, eb⟩ : ∃ b, (decide (x = r) && decide (m = n)) = b := ⟨_, rfl⟩
      have HIB := Lib.hid (HIK.out.trans eb)
      rw [eb]
      clear q0 q1 q2 q3 q4 qe hb hb2 hR3 HRO HB HIK eb eW eB
      generalize grow (redrawn W dq) osq = W1 at HB3 ⊢
      rename_i K hK
      refine hK _ _ ?_
      clear hK K
      cases b
      · have HA := Lib.hid (HN.out HIB.out)
        clear HF HN HIB
        go_wp2_with fail
        exact ⟨⟨k + 1, by omega, by simp, HA.out, HB3.out.1, HB3.out.2⟩, by simp [intOf]; omega⟩
      · have HA := Lib.hid (HF.out HIB.out)
        clear HF HN HIB
        go_wp2_with fail
        go_ret
        exact ⟨by rw [HA.out]; rfl, HB3.out.2⟩
    · obtain rfl : k = l.length := by omega
      have hn : ¬ (l.length : Int) < (l.length : Int) := by omega
      have HA := Lib.hid (atI_none l r n hno); have HB := Lib.hid hB
      clear hB hno
      go_wp2_with fail
      go_ret
      exact ⟨by rw [HA.out]; rfl, HB.out⟩
set_option maxHeartbeats 400000 in
theorem has_any (a : Option Addr) (c : Nat) (l : List Kk) (r : ByteArray) (n : Nat) (hl : l.length ≤ 1000) (w : World) (hp : KSl w a l) :
    Calls Tryd.prog 24 #[.slice a l.length c, .agg #[.string r, .int .u64 (n : Int)]] w fun e w' => e = .returned (.bool (decide (0 ≤ atI l r n))) ∧ Below w.heap.size w w' := by
  have hb0 : Below w.heap.size w (w.alloc (.cells #[.string r, .int .u64 (n : Int)] 61)) := by go_grown
  have hpl := place_any a c l r n hl _ (hp.on hb0)
  obtain ⟨i, ei⟩ : ∃ i, atI l r n = i := ⟨_, rfl⟩
  rw [ei] at hpl ⊢
  have H := Lib.hid hpl
  have HB := Lib.hid hb0
  clear hl hp hb0 hpl
  go_enter Tryd.func24, Tryd.ntmps24
  go_wp2_with fail
  refine H.out.mono ?_
  rintro e w1 ⟨rfl, hb⟩
  have HB2 := Lib.hid (HB.out.trans (hb.mono HB.out.size))
  clear hb H HB
  go_wp2_with fail
  go_ret
  exact ⟨by first | rfl | simp, HB2.out⟩
end Go.Proofs.YtfkfadcfafbmmaaDoor
