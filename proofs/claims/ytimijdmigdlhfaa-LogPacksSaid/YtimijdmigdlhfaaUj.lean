/- The package's Scan. -/
import Derived.Test.YtimijdmigdlhfaaUi
import Derived.Test.YtimijdmigdlhfaaKs
import Derived.RegionIn
namespace Go.Proofs.Ytimijdmigdlhfaa
open Go.RowKit Go.Shelf
set_option maxRecDepth 100000
attribute [local go_sem] Oper.semAt_some
theorem own_ne {W : World} {base : Nat} {e : TypeId} {size : Nat} {v : Value} {k : Nat} {xs : List Value} (h : W.ownsRow base e size v k xs) (j : Nat) (hj : j < base) : some j ≠ v.ownBlock := by
  intro e'
  have := (h.lt j e'.symm).1
  omega
theorem own_cells {W : World} {base : Nat} {e : TypeId} {size : Nat} {v : Value} {k : Nat} {xs : List Value} (h : W.ownsRow base e size v k xs) : ∀ (j : Nat) (o : Obj), v.ownBlock = some j → W.heap[j]? = some o → o.isCells = true := by
  intro j o hj ho
  rcases h.2 with ⟨rfl, -⟩ | ⟨g, cap, cur, rfl, -, hgb, -⟩
  · simp [Value.ownBlock] at hj
  · have : g = j := by simpa [Value.ownBlock] using hj
    subst this; rw [hgb] at ho; cases ho; rfl
theorem own_base {W : World} {base base' : Nat} {e : TypeId} {size : Nat} {v : Value} {k : Nat} {xs : List Value} (h : W.ownsRow base e size v k xs) (hb : base' ≤ base) : W.ownsRow base' e size v k xs := by
  refine ⟨h.1, ?_⟩
  rcases h.2 with hn | ⟨g, cap, cur, hv, hbg, rest⟩
  · exact .inl hn
  · exact .inr ⟨g, cap, cur, hv, Nat.le_trans hb hbg, rest⟩
/-- texts of a row of the call's own in a box: one more put behind them, the box written -/
theorem boxed_more {W w1 : World} {n0 h : Nat} {t : TypeId} {v v' : Value} {l : List ByteArray} {x : ByteArray} (hv : Boxed W h t v) (hh : h < n0)
    (hrow : W.ownsRow n0 9 1 v l.length (Sv l)) (hown : w1.ownsRow n0 9 1 v' (l.length + 1) (Sv l ++ [.string x])) (hg : (W.alloc (.cells #[.string x] 9)).grownBy w1 v.ownBlock) :
    Boxed w1 h t v ∧ Boxed (w1.setCell ⟨h, 0, none⟩ v') h t v' ∧ (w1.setCell ⟨h, 0, none⟩ v').ownsRow n0 9 1 v' (l ++ [x]).length (Sv (l ++ [x])) ∧ KeepsOthers W (w1.setCell ⟨h, 0, none⟩ v') := by
  have hv1 := (hv.alloc (.cells #[.string x] 9)).kept hg (own_ne hrow h hh)
  refine ⟨hv1, hv1.set v', ?_, ?_⟩
  · have := hown.kept (grownBy_setCell' w1 h v') (.inr (own_ne hown h hh).symm)
    simpa [Sv] using this
  · exact ((KeepsOthers.alloc W _).trans (KeepsOthers.of_grownBy hg (own_cells (hrow.alloc _)))).trans (KeepsOthers.setCell _ _ _)
theorem fst_snoc (pre : List (ByteArray × Nat)) (p : ByteArray × Nat) : (pre ++ [p]).map Prod.fst = pre.map Prod.fst ++ [p.1] := by simp
set_option maxHeartbeats 4000000 in
theorem Scan_any (s : ByteArray) (hs : s.size ≤ maxLen) (hN : (scanL ckP (bl s)).1.length ≤ 1000) (w : World) :
    Calls Try.prog 17 #[.string s] w fun e w' => ∃ v, e = .returned (.tuple #[v, .int .i64 ((scanL ckP (bl s)).2 : Int)]) ∧ OwnS w' w.heap.size v (scanL ckP (bl s)).1 ∧ Below w.heap.size w w' := by
  refine (callsIn_wide (n := 3)).1 ?_
  refine callsIn_of_wp_marks Try.func17 rfl trivial ?_ rfl
  simp only [Try.ntmps17, List.size_toArray, List.length_cons, List.length_nil, Nat.reduceAdd, Nat.reduceSub, Array.replicate_succ, Array.replicate_zero, List.push_toArray, List.append_toArray, List.nil_append, List.cons_append]
  gi_wp2_with (refine ⟨trivial, ?_⟩; gi_at_call 30; refine (callsIn_wide.2 (records_any s _)).mono ?_; rintro e w2 ⟨rfl, rfl⟩)
  obtain ⟨h, eh⟩ : ∃ h, w.heap.size = h := ⟨_, rfl⟩
  obtain ⟨W0, eW⟩ : ∃ W0, ((w.alloc (.cells #[.slice none 0 0] 22)).alloc (.cells #[.int .i64 0] 3)).alloc (.cells #[.string s] 9) = W0 := ⟨_, rfl⟩
  have hz : W0.heap.size = h + 3 := by rw [← eW, ← eh]; simp
  have hB0 : Below h w W0 := by rw [← eW, ← eh]; exact (((Below.refl _ w).alloc (Nat.le_refl _) _).alloc (by simp) _).alloc (by simp; omega) _
  have h40 : Boxed W0 h 22 (.slice none 0 0) := by rw [← eW, ← eh]; exact ((Boxed.new w _ _).alloc _).alloc _
  have h50 : Boxed W0 (h + 1) 3 (.int .i64 0) := by
    have := (Boxed.new (w.alloc (.cells #[.slice none 0 0] 22)) 3 (.int .i64 0)).alloc (.cells #[.string s] 9)
    rw [← eW, ← eh]; simpa using this
  have hs0 : Boxed W0 (h + 1 + 1) 9 (.string s) := by
    have := Boxed.new ((w.alloc (.cells #[.slice none 0 0] 22)).alloc (.cells #[.int .i64 0] 3)) 9 (.string s)
    rw [← eW, ← eh]; simpa using this
  rw [eW, eh]
  obtain ⟨i0, hi, hz0, hz1, hz2⟩ := info_parts infoS
  clear eW
  refine wpIn_rangeFunc_ownF rfl (by omega) (gf := 39) (lb := #[.pointer (some ⟨h + 1 + 1, 0, none⟩)]) rfl trivial (enters_of Try.func39 (by kernel_rfl) rfl)
    (records1_stops (3 - 1) (by omega) s hs (h + 1 + 1) W0 (by omega) hs0.cell) (fun a b => b.trans a) ?keepb (Below.refl _ _) (fun _ => rfl)
    (fun pre W => (((∃ v, Boxed W h 22 v ∧ W.ownsRow (h + 3) 9 1 v (pre.map Prod.fst).length (Sv (pre.map Prod.fst)) ∧ True) ∧ Boxed W (h + 1) 3 (.int .i64 (lastE pre : Int))) ∧ Boxed W (h + 1 + 1) 9 (.string s)) ∧ Below h w W)
    (fun _ _ _ => False)
    (OwnFrom.and (OwnFrom.and (OwnFrom.and (Own.from (holdsRow_own (h + 3) h 22 9 1 (fun pre : List (ByteArray × Nat) => (pre.map Prod.fst).length) (fun pre => Sv (pre.map Prod.fst)) (fun _ _ => True)) _) (Own.from (boxed_own (h + 1) 3 (fun pre => .int .i64 (lastE pre : Int))) _)) (Own.from (boxed_own (h + 1 + 1) 9 (fun _ => .string s)) _)) (ownFrom_below (by omega) (by omega)))
    (fun _ _ _ _ _ hs _ _ => hs)
    ⟨⟨⟨⟨_, h40, World.ownsRow_nil _ _ _ _, trivial⟩, h50⟩, hs0⟩, hB0⟩
    (fun p => { tmps := #[.string s, undef, .slice none 0 0, .int .i64 0, .pointer (some ⟨h, 0, none⟩), .pointer (some ⟨h + 1, 0, none⟩), .string p.1, .int .i64 (p.2 : Int), .string s, .func (.func 39) #[] #[.pointer (some ⟨h + 1 + 1, 0, none⟩)], .string p.1, .int .i64 (p.2 : Int), undef, undef, undef, undef, undef, undef, undef], defers := [] }) ?assign ?body ?done ?stop
  case keepb =>
    intro W l o o' hl ho hc hw
    exact (belowK_b (n₀ := W0.heap.size) (w := W0) (Nat.le_refl _) W l o o' hl ho hc hw).cell (p := ⟨h + 1 + 1, 0, none⟩) (show h + 1 + 1 < W0.heap.size by omega)
  case assign =>
    intro l x W K hK
    gi_wp2
    exact hK
  case body =>
    rintro l pre ⟨x, m⟩ W ⟨⟨⟨⟨v, h4, hrow, -⟩, h5⟩, h6⟩, hB⟩ hlen
    have hkl : (pre.map Prod.fst).length ≤ 1000 := by rw [List.length_map]; omega
    have hsz : h + 3 ≤ W.heap.size := h6.lt
    have c4 := h4.cell
    have hpm : (pre ++ [(x, m)]).map Prod.fst = pre.map Prod.fst ++ [x] := fst_snoc _ _
    have hle := lastE_snoc pre (x, m)
    have HP := Lib.hid (And.intro hpm hle)
    generalize pre.map Prod.fst = L at hrow hkl hpm HP
    clear h40 h50 hs0 hB0 hpm hle
    gi_wp2_with (gi_at_builtin; refine wpListIn_append_own _ rfl _ _ 22 rfl (h + 3) 9 i0 (.string ⟨#[]⟩) 1 16 Try.underlying22 hi hz0 hz1 hz2 rfl (by decide) _ _ _ rfl (hrow.alloc _) ⟨W.heap.size, 0, none⟩ 1 1 [.string x] rfl rfl (cell_one_new _ _ _) (by simp [Value.oneCell']) (by unfold maxLen; omega) (by omega) (by simp; omega) ?_; intro v' w1 hown' hgrow _; obtain ⟨g', cap', rfl⟩ := ownsRow_succ hown'; obtain ⟨p1, p2, p3, p4⟩ := boxed_more (x := x) h4 (by omega) hrow hown' hgrow; have q5 := (h5.alloc (.cells #[.string x] 9)).kept hgrow (own_ne hrow (h + 1) (by omega)); have q6 := (h6.alloc (.cells #[.string x] 9)).kept hgrow (own_ne hrow (h + 1 + 1) (by omega)); have qB := (hB.alloc (show h ≤ W.heap.size by omega) (.cells #[.string x] 9)).grown hgrow (by simp; omega) (fun k hk => Nat.le_trans (by omega) (hrow.lt k hk).1); have HQ := Lib.hid (And.intro p2 (And.intro p3 p4)); have f4 := p1.frozen; have r4 := p1.cell; have q52 := q5.other (show h + 1 ≠ h by omega) (.slice (some ⟨g', 0, none⟩) (L.length + 1) cap'); have q62 := q6.other (show h + 1 + 1 ≠ h by omega) (.slice (some ⟨g', 0, none⟩) (L.length + 1) cap'); have qB2 := qB.setCell (p := ⟨h, 0, none⟩) (Nat.le_refl _) (.slice (some ⟨g', 0, none⟩) (L.length + 1) cap'); have f5 := q52.frozen; have r5 := q52.cell)
    have hfin := p3.kept (grownBy_setCell' _ (h + 1) (.int .i64 (m : Int))) (.inr (own_ne p3 (h + 1) (by omega)).symm)
    refine ⟨p4.trans (KeepsOthers.setCell _ _ _), ?_, ⟨⟨⟨_, p2.other (by omega) _, ?_⟩, ?_⟩, q62.other (by omega) _⟩, qB2.setCell (p := ⟨h + 1, 0, none⟩) (by show h ≤ h + 1; omega) _⟩
    · exact ((q62.other (by omega) _).cell).trans h6.cell.symm
    · have hq := hfin
      rw [← HP.out.1, List.length_map] at hq
      exact hq
    · rw [HP.out.2]; exact q52.set _
  case done =>
    rintro D xs W hD hS ⟨⟨⟨⟨v, h4, hrow, -⟩, h5⟩, h6⟩, hB⟩ hK
    unfold Scanned at hS
    have HS := Lib.hid hS
    have c4 := h4.cell
    have c5 := h5.cell
    clear h40 h50 hs0 hB0 hS
    gi_wp2
    gi_region
    all_goals gi_wp2
    have hKd : W.drew.heap[D]? = some (.deferred (some [])) := hK
    have hrd : W.drew.ownsRow (h + 3) 9 1 v (xs.map Prod.fst).length (Sv (xs.map Prod.fst)) := hrow
    have hBd : Below h w W.drew := hB.drew
    refine ⟨by simp, .inl ⟨_, _, rfl, run_takeDeferred hKd, ?_⟩⟩
    refine ⟨_, results_tmp2 rfl _ _ _, v, by rw [HS.out]; rfl, ?_, ?_⟩
    · rw [HS.out, eh]
      exact ownsRow_putObj (own_base hrd (by omega)) _ hKd rfl
    · rw [eh]
      exact hBd.trans (belowK_b (w := w) (by omega) W.drew D _ _ (by omega) hKd rfl rfl)
  case stop =>
    rintro D c pre W _ _ hf _
    exact hf.elim
end Go.Proofs.Ytimijdmigdlhfaa