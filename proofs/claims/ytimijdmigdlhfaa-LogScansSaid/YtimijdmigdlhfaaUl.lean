/- The package's Recover. -/
import Derived.Test.YtimijdmigdlhfaaUk
import Derived.WalkMore
namespace Go.Proofs.Ytimijdmigdlhfaa
open Go.RowKit Go.Shelf
set_option maxRecDepth 100000
attribute [local go_sem] Oper.semAt_some
theorem wpIn_scope_wide {n : Nat} {P : Program} {c : Code} {Q : Exit → Act → World → Prop} {a : Act} {w : World} (h : c.wpIn Fence.wide n P (Exit.noGoto Q) a w) : (Code.scope c).wpIn Fence.wide n P Q a w :=
  wpIn_wide.2 (wp_scope_straight (wpIn_wide.1 h))
/-- the changes that came backwards, and the text that came last -/
def chR (pre : List (Nat × ByteArray)) : List ByteArray := (changesL (pre.map Prod.snd).reverse).reverse
def lastT (pre : List (Nat × ByteArray)) : ByteArray := match pre.getLast? with | none => ⟨#[]⟩ | some p => p.2
theorem lastT_snoc (pre : List (Nat × ByteArray)) (p : Nat × ByteArray) : lastT (pre ++ [p]) = p.2 := by unfold lastT; simp
theorem chR_snoc (pre : List (Nat × ByteArray)) (p : Nat × ByteArray) : chR (pre ++ [p]) = if isChange p.2 then chR pre ++ [tailS p.2] else chR pre := by
  unfold chR
  rw [List.map_append, List.reverse_append]
  simp only [List.map_cons, List.map_nil, List.reverse_cons, List.reverse_nil, List.nil_append]
  rw [changesL_append, List.reverse_append]
  cases h : isChange p.2
  · simp [changesL, h]
  · simp [changesL, h]
theorem noState_snoc (l : List ByteArray) (t : ByteArray) : noState (l ++ [t]) = (noState l && !isState t) := by
  rw [noState_append]; simp [noState]
theorem noState_reverse (l : List ByteArray) : noState l.reverse = noState l := by unfold noState; exact List.all_reverse
theorem snd_snoc (pre : List (Nat × ByteArray)) (p : Nat × ByteArray) : (pre ++ [p]).map Prod.snd = pre.map Prod.snd ++ [p.2] := by simp
theorem rec_done (ts : List ByteArray) (xs : List (Nat × ByteArray)) (h : xs.map Prod.snd = ts.reverse) (hn : noState (xs.map Prod.snd) = true) : recoverL ts = (⟨#[]⟩, (chR xs).reverse) := by
  rw [h, noState_reverse] at hn
  unfold chR
  rw [h, List.reverse_reverse, List.reverse_reverse]
  exact recoverL_none ts hn
theorem rec_stop (ts : List ByteArray) (pre : List (Nat × ByteArray)) (hs : ∃ rest, ts = rest ++ (pre.map Prod.snd).reverse) (hne : pre ≠ []) (hst : isState (lastT pre) = true) (hn : noState (pre.dropLast.map Prod.snd) = true) :
    recoverL ts = (tailS (lastT pre), (chR pre.dropLast).reverse) := by
  obtain ⟨rest, hs⟩ := hs
  have e := (List.dropLast_concat_getLast hne).symm
  generalize pre.dropLast = q at e hn ⊢
  generalize pre.getLast hne = p at e
  subst e
  rw [lastT_snoc] at hst ⊢
  rw [snd_snoc, List.reverse_append] at hs
  simp only [List.reverse_cons, List.reverse_nil, List.nil_append, List.singleton_append] at hs
  rw [hs]
  unfold chR
  rw [List.reverse_reverse]
  exact recoverL_state _ _ _ hst (by rw [noState_reverse]; exact hn)
theorem pre_len (ts : List ByteArray) (pre : List (Nat × ByteArray)) (hs : ∃ rest, ts = rest ++ (pre.map Prod.snd).reverse) : pre.length ≤ ts.length := by
  obtain ⟨rest, hs⟩ := hs
  rw [hs]; simp
theorem below_boxed {W W' : World} {n B : Nat} {t : TypeId} {v : Value} (h : Boxed W B t v) (hb : Below n W W') (hn : B < n) : Boxed W' B t v := (hb.block B hn).trans h
set_option maxHeartbeats 4000000 in
theorem Recover_any (s : ByteArray) (hs : s.size ≤ maxLen) (hN : (scanL ckP (bl s)).1.length ≤ 1000) (w : World) :
    Calls Try.prog 18 #[.string s] w fun e w' => ∃ v, e = .returned (.tuple #[.string (recoverL (scanL ckP (bl s)).1).1, v]) ∧ OwnS w' w.heap.size v (recoverL (scanL ckP (bl s)).1).2 ∧ Below w.heap.size w w' := by
  have HS := Lib.hid (fun W => Scan_any s hs hN W)
  obtain ⟨ts, ets⟩ : ∃ ts, (scanL ckP (bl s)).1 = ts := ⟨_, rfl⟩
  rw [ets] at HS hN ⊢
  clear ets
  generalize (scanL ckP (bl s)).2 = endN at HS
  refine (callsIn_wide (n := 3)).1 ?_
  refine callsIn_of_wp_marks Try.func18 rfl trivial ?_ rfl
  simp only [Try.ntmps18, List.size_toArray, List.length_cons, List.length_nil, Nat.reduceAdd, Nat.reduceSub, Array.replicate_succ, Array.replicate_zero, List.push_toArray, List.append_toArray, List.nil_append, List.cons_append]
  gi_wp2
  refine wpIn_scope_wide ?_
  gi_wp2_with (refine ⟨trivial, ?_⟩; gi_at_call 17; refine (callsIn_wide.2 (HS.out _)).mono ?_; rintro e w1 ⟨v, rfl, ho1, hb1⟩; obtain ⟨a, c, rfl, hac, hag⟩ := ho1.form)
  refine wpIn_label ?_
  gi_wp2_with (refine ⟨trivial, ?_⟩; gi_at_call 31; refine (callsIn_wide.2 (backward_any _ _ _ _)).mono ?_; rintro e w2 ⟨rfl, rfl⟩)
  obtain ⟨h, eh⟩ : ∃ h, w.heap.size = h := ⟨_, rfl⟩
  obtain ⟨B, eB⟩ : ∃ B, w1.heap.size = B := ⟨_, rfl⟩
  obtain ⟨W0, eW⟩ : ∃ W0, w1.alloc (.cells #[.slice a ts.length c] 22) = W0 := ⟨_, rfl⟩
  have hbase : ((w.alloc (.cells #[.string ⟨#[]⟩] 9)).alloc (.cells #[.slice none 0 0] 22)).heap.size = h + 2 := by rw [← eh]; simp
  have hhB : h + 2 ≤ B := by have := hb1.size; omega
  have hz : W0.heap.size = B + 1 := by rw [← eW, ← eB]; simp
  have hB1 : Below (h + 2) ((w.alloc (.cells #[.string ⟨#[]⟩] 9)).alloc (.cells #[.slice none 0 0] 22)) W0 := by rw [← eW, ← hbase]; exact hb1.alloc hb1.size _
  have hB0 : Below h w W0 := by
    have h2 : Below h w ((w.alloc (.cells #[.string ⟨#[]⟩] 9)).alloc (.cells #[.slice none 0 0] 22)) := by rw [← eh]; exact ((Below.refl _ w).alloc (Nat.le_refl _) _).alloc (by simp) _
    exact h2.trans (hB1.mono (by omega))
  have h40 : Boxed W0 h 9 (.string ⟨#[]⟩) := by
    have := (Boxed.new w 9 (.string ⟨#[]⟩)).alloc (.cells #[.slice none 0 0] 22)
    rw [eh] at this
    exact (hB1.block h (by omega)).trans this
  have h50 : Boxed W0 (h + 1) 22 (.slice none 0 0) := by
    have := Boxed.new (w.alloc (.cells #[.string ⟨#[]⟩] 9)) 22 (.slice none 0 0)
    rw [World.size_alloc, eh] at this
    exact (hB1.block (h + 1) (by omega)).trans this
  have h60 : Boxed W0 B 22 (.slice a ts.length c) := by
    have := Boxed.new w1 22 (.slice a ts.length c)
    rw [eB, eW] at this; exact this
  have ho0 : OwnS W0 (h + 2) (.slice a ts.length c) ts := by rw [hbase] at ho1; rw [← eW]; exact ho1.alloc _
  rw [eW, eh, eB]
  obtain ⟨i0, hi, hz0, hz1, hz2⟩ := info_parts infoS
  clear eW ho1 hb1 hbase hB1 HS hs
  refine wpIn_rangeFunc_ownF rfl (by omega) (gf := 41) (lb := #[.pointer (some ⟨B, 0, none⟩)]) rfl trivial (enters_of Try.func41 (by kernel_rfl) rfl)
    (backward1_stops (3 - 1) (by omega) ts hN a c (h + 2) B W0 h60 ho0) (fun a b => ⟨b.1.trans a.1, fun k hk => (b.2 k hk).trans (a.2 k hk)⟩) ?keepb (Below.refl _ _) (fun _ => rfl)
    (fun pre W => (((Boxed W h 9 (.string ⟨#[]⟩) ∧ (∃ v, Boxed W (h + 1) 22 v ∧ W.ownsRow (B + 1) 9 1 v (chR pre).length (Sv (chR pre)) ∧ True)) ∧ (noState (pre.map Prod.snd) = true ∧ (chR pre).length ≤ pre.length)) ∧ Boxed W B 22 (.slice a ts.length c)) ∧ Below h w W)
    (fun cc pre W => (((Boxed W h 9 (.string (tailS (lastT pre))) ∧ (∃ v, Boxed W (h + 1) 22 v ∧ W.ownsRow (B + 1) 9 1 v (chR pre.dropLast).length (Sv (chR pre.dropLast)) ∧ True)) ∧ (cc = .exit 0 ∧ isState (lastT pre) = true ∧ noState (pre.dropLast.map Prod.snd) = true ∧ pre ≠ [] ∧ (chR pre.dropLast).length ≤ pre.length)) ∧ Boxed W B 22 (.slice a ts.length c)) ∧ Below h w W)
    (OwnFrom.and (OwnFrom.and (OwnFrom.and (OwnFrom.and (Own.from (boxed_own h 9 (fun _ => .string ⟨#[]⟩)) _) (Own.from (holdsRow_own (B + 1) (h + 1) 22 9 1 (fun pre : List (Nat × ByteArray) => (chR pre).length) (fun pre => Sv (chR pre)) (fun _ _ => True)) _)) (ownFrom_pure _ _)) (Own.from (boxed_own B 22 (fun _ => .slice a ts.length c)) _)) (ownFrom_below (by omega) (by omega)))
    (fun c' => OwnFrom.and (OwnFrom.and (OwnFrom.and (OwnFrom.and (Own.from (boxed_own h 9 (fun pre : List (Nat × ByteArray) => .string (tailS (lastT pre)))) _) (Own.from (holdsRow_own (B + 1) (h + 1) 22 9 1 (fun pre : List (Nat × ByteArray) => (chR pre.dropLast).length) (fun pre => Sv (chR pre.dropLast)) (fun _ _ => True)) _)) (ownFrom_pure _ _)) (Own.from (boxed_own B 22 (fun _ => .slice a ts.length c)) _)) (ownFrom_below (by omega) (by omega)))
    ⟨⟨⟨⟨h40, _, h50, World.ownsRow_nil _ _ _ _, trivial⟩, ⟨rfl, by simp [chR, changesL]⟩⟩, h60⟩, hB0⟩
    (fun p => { tmps := #[.string s, undef, .string ⟨#[]⟩, .slice none 0 0, .pointer (some ⟨h, 0, none⟩), .pointer (some ⟨h + 1, 0, none⟩), .slice a ts.length c, .int .i64 (endN : Int), undef, .string p.2, undef, undef, .tuple #[.slice a ts.length c, .int .i64 (endN : Int)], .string s, .tuple #[.slice a ts.length c, .int .i64 (endN : Int)], .slice a ts.length c, .int .i64 (endN : Int), .slice a ts.length c, .func (.func 41) #[] #[.pointer (some ⟨B, 0, none⟩)], .int .i64 (p.1 : Int), .string p.2, undef, undef, undef, undef, undef, undef, undef, undef, undef, undef, undef, undef, undef, undef, undef, undef, undef, undef, undef], defers := [] }) ?assign ?body ?done ?stop
  case keepb =>
    intro W l o o' hl ho hc hw
    refine ⟨World.putObj_heap_other (by omega), fun k hk => World.putObj_heap_other ?_⟩
    have := (World.ownsRow.lt ho0 k hk).2
    omega
  case assign =>
    intro l x W K hK
    gi_wp2
    exact hK
  case body =>
    rintro l pre ⟨i, t⟩ W ⟨⟨⟨⟨h4, v, h5, hrow, -⟩, hns, hcl⟩, h6⟩, hB⟩ hlen
    have hsz : B + 1 ≤ W.heap.size := h6.lt
    have hkl : (chR pre).length ≤ 1000 := by omega
    have e1 := head_state t
    have e2 := head_change t
    have p1 := snd_snoc pre (i, t)
    have p2 := chR_snoc pre (i, t)
    have p3 := noState_snoc (pre.map Prod.snd) t
    have p4 := lastT_snoc pre (i, t)
    have hown : ∀ k, (Value.slice a ts.length c).ownBlock = some k → h + 2 ≤ k ∧ k < B + 1 := fun k hk => by
      have := World.ownsRow.lt ho0 k hk; omega
    have HS := Lib.hid (split_any t W)
    dsimp only at p2 p4
    generalize headS t = hd at e1 e2 HS
    obtain ⟨tl, etl⟩ : ∃ tl, tailS t = tl := ⟨_, rfl⟩
    rw [etl] at p2 HS
    have HTL := Lib.hid etl
    clear etl
    clear h40 h50 h60 ho0 hB0 hz
    gi_wp2
    refine ⟨trivial, ?_⟩
    refine (CallsIn.inRound l (callsIn_wide.2 HS.out)).mono ?_
    rintro e W1 ⟨rfl, hb1⟩
    have hko := KeepsOthers.of_grownBy (below_none hb1) (fun j o e => by cases e)
    have g4 := below_boxed h4 hb1 (by omega)
    have g5 := below_boxed h5 hb1 (by omega)
    have g6 := below_boxed h6 hb1 (by omega)
    have grow : OwnS W1 (B + 1) v (chR pre) := OwnS.on hrow hb1
    have gB := hB.trans (hb1.mono (by omega))
    have gsz := Nat.le_trans hsz hb1.size
    have gk : ∀ k, k < B + 1 → W1.heap[k]? = W.heap[k]? := fun k hk => hb1.block k (by omega)
    clear hb1 h4 h5 h6 hrow hB hsz HS
    have c5 := g5.cell
    have f4 := g4.frozen
    have c4 := g4.cell
    cases hs : isState t
    · rw [hs] at e1 p3
      have hns2 : noState ((pre ++ [(i, t)]).map Prod.snd) = true := by rw [p1, p3, hns]; rfl
      cases hc : isChange t
      · rw [hc] at e2 p2
        rw [if_neg (by simp)] at p2
        have HP := Lib.hid (And.intro p2 hns2)
        clear p1 p2 p3 p4 hns2 hs hc
        gi_wp2
        refine ⟨hko, ⟨gk B (by omega), fun k hk => gk k (hown k hk).2⟩, ⟨⟨⟨g4, v, g5, ?_⟩, HP.out.2, ?_⟩, g6⟩, gB⟩
        · rw [HP.out.1]; exact ⟨grow, trivial⟩
        · rw [HP.out.1]; simp; omega
      · rw [hc] at e2 p2
        rw [if_pos rfl] at p2
        have HP := Lib.hid (And.intro p2 hns2)
        clear p1 p2 p3 p4 hns2 hs hc
        gi_wp2_with (gi_at_builtin; refine wpListIn_append_own _ rfl _ _ 22 rfl (B + 1) 9 i0 (.string ⟨#[]⟩) 1 16 Try.underlying22 hi hz0 hz1 hz2 rfl (by decide) _ _ _ rfl (World.ownsRow.alloc grow _) ⟨W1.heap.size, 0, none⟩ 1 1 [.string tl] rfl rfl (cell_one_new _ _ _) (by simp [Value.oneCell']) (by unfold maxLen; omega) (by omega) (by simp; omega) ?_; intro v' w2 hown' hgrow _; obtain ⟨g', cap', rfl⟩ := ownsRow_succ hown'; obtain ⟨q1, q2, q3, q4⟩ := boxed_more (x := tl) g5 (by omega) grow hown' hgrow; have f5 := q1.frozen; have r5 := q1.cell)
        have hgr : ∀ k, k < B + 1 → w2.heap[k]? = W1.heap[k]? := fun k hk => (hgrow.block k (by simp; omega) (own_ne grow k (by omega))).trans (Below.heap_alloc _ _ k (by omega))
        have hset : ∀ k, k < B + 1 → k ≠ h + 1 → (w2.setCell ⟨h + 1, 0, none⟩ (.slice (some ⟨g', 0, none⟩) ((chR pre).length + 1) cap')).heap[k]? = W.heap[k]? := fun k hk hne => (Below.heap_setCell _ _ _ k (fun e => hne e)).trans ((hgr k hk).trans (gk k hk))
        have hB2 := ((gB.alloc (show h ≤ W1.heap.size by omega) (.cells #[.string tl] 9)).grown hgrow (by simp; omega) (fun k hk => Nat.le_trans (by omega) (World.ownsRow.lt grow k hk).1)).setCell (p := ⟨h + 1, 0, none⟩) (by show h ≤ h + 1; omega) (.slice (some ⟨g', 0, none⟩) ((chR pre).length + 1) cap')
        refine ⟨hko.trans q4, ⟨hset B (by omega) (by omega), fun k hk => hset k (hown k hk).2 (by have := (hown k hk).1; omega)⟩, ⟨⟨⟨?_, _, q2, ?_⟩, HP.out.2, ?_⟩, ?_⟩, hB2⟩
        · exact (hset h (by omega) (by omega)).trans ((gk h (by omega)).symm.trans g4)
        · rw [HP.out.1]; exact ⟨q3, trivial⟩
        · rw [HP.out.1]; simp; omega
        · exact (hset B (by omega) (by omega)).trans ((gk B (by omega)).symm.trans g6)
    · rw [hs] at e1
      have hdl : (pre ++ [(i, t)]).dropLast = pre := List.dropLast_concat
      have HP := Lib.hid (And.intro p4 (And.intro hdl hs))
      clear p1 p2 p3 p4 hdl hs
      gi_wp2
      have hset : ∀ k, k < B + 1 → k ≠ h → (W1.setCell ⟨h, 0, none⟩ (.string tl)).heap[k]? = W1.heap[k]? := fun k hk hne => Below.heap_setCell _ _ _ k (fun e => hne e)
      refine ⟨hko.trans (KeepsOthers.setCell _ _ _), ⟨⟨⟨?_, v, ?_, ?_⟩, rfl, ?_, ?_, by simp, ?_⟩, ?_⟩, gB.setCell (p := ⟨h, 0, none⟩) (Nat.le_refl _) _⟩
      · rw [HP.out.1, HTL.out]; exact g4.set _
      · exact g5.other (by omega) _
      · rw [HP.out.2.1]; exact ⟨World.ownsRow.kept grow (grownBy_setCell' W1 h (.string tl)) (.inr (own_ne grow h (by omega)).symm), trivial⟩
      · rw [HP.out.1]; exact HP.out.2.2
      · rw [HP.out.2.1]; exact hns
      · rw [HP.out.2.1]; simp; omega
      · exact g6.other (by omega) _
  case done =>
    rintro D xs W hD hS ⟨⟨⟨⟨h4, v, h5, hrow, -⟩, hns, hcl⟩, h6⟩, hB⟩ hK
    have hrec := rec_done ts xs hS hns
    have hlen : xs.length = ts.length := by
      have := congrArg List.length hS
      simpa using this
    have HR := Lib.hid (reverse_own v (chR xs) (B + 1) W hrow (by omega))
    have hcells := own_cells hrow
    have c4 := h4.cell
    have c5 := h5.cell
    have hneD : some D ≠ v.ownBlock := fun e => by
      have := hcells D _ e.symm hK
      cases this
    have HX := Lib.hid (And.intro hrec (And.intro hK (And.intro hB hneD))); have H4 := Lib.hid h4; have H5 := Lib.hid h5
    clear h40 h50 h60 ho0 hB0 hrec hcells hns hcl hS hrow h6 h4 h5 hK hB hneD
    gi_wp2
    refine ⟨trivial, ?_⟩
    refine (callsIn_wide.2 HR.out).mono ?_
    rintro e W1 ⟨rfl, ho1, hb1, hk1⟩
    have g4 := (below_boxed H4.out hb1 (by omega)).cell
    have g5 := (below_boxed H5.out hb1 (by omega)).cell
    have HY := Lib.hid (And.intro ho1 (And.intro (hb1.mono (show h ≤ B + 1 by omega)) (hk1 D HX.out.2.2.2)))
    clear ho1 hb1 hk1 HR c4 c5
    gi_wp2
    gi_region
    all_goals gi_wp2
    rw [Exit.noGoto_ret]
    have hKd : W1.drew.heap[D]? = some (.deferred (some [])) := HY.out.2.2.trans HX.out.2.1
    have hrd : W1.drew.ownsRow (B + 1) 9 1 v (chR xs).reverse.length (Sv (chR xs).reverse) := HY.out.1
    have hBd : Below h w W1.drew := (HX.out.2.2.1.trans HY.out.2.1).drew
    refine ⟨by simp, .inl ⟨_, _, rfl, run_takeDeferred hKd, ?_⟩⟩
    refine ⟨_, results_tmp2 rfl _ _ _, v, by rw [HX.out.1]; rfl, ?_, ?_⟩
    · rw [HX.out.1, eh]
      exact ownsRow_putObj (own_base hrd (by omega)) _ hKd rfl
    · rw [eh]
      exact hBd.trans (belowK_b (w := w) (by omega) W1.drew D _ _ (by omega) hKd rfl rfl)
  case stop =>
    rintro D c' pre W hD hSp ⟨⟨⟨⟨h4, v, h5, hrow, -⟩, rfl, hst, hns, hne, hcl⟩, h6⟩, hB⟩ hK
    have hrec := rec_stop ts pre hSp hne hst hns
    have hlen := pre_len ts pre hSp
    have HR := Lib.hid (reverse_own v (chR pre.dropLast) (B + 1) W hrow (by omega))
    have hcells := own_cells hrow
    have hneD : some D ≠ v.ownBlock := fun e => by
      have := hcells D _ e.symm hK
      cases this
    obtain ⟨st, est⟩ : ∃ st, tailS (lastT pre) = st := ⟨_, rfl⟩
    rw [est] at hrec h4
    have c4 := h4.cell
    have c5 := h5.cell
    generalize hq : pre.dropLast = q at hrec HR
    have HX := Lib.hid (And.intro hrec (And.intro hK (And.intro hB hneD))); have H4 := Lib.hid h4; have H5 := Lib.hid h5
    clear h40 h50 h60 ho0 hB0 hrec hcells hns hcl hst hSp hne hrow h6 h4 h5 hK hB hneD est hq
    gi_wp2
    refine ⟨trivial, ?_⟩
    refine (callsIn_wide.2 HR.out).mono ?_
    rintro e W1 ⟨rfl, ho1, hb1, hk1⟩
    have g4 := (below_boxed H4.out hb1 (by omega)).cell
    have g5 := (below_boxed H5.out hb1 (by omega)).cell
    have HY := Lib.hid (And.intro ho1 (And.intro (hb1.mono (show h ≤ B + 1 by omega)) (hk1 D HX.out.2.2.2)))
    clear ho1 hb1 hk1 HR c4 c5
    gi_wp2
    gi_region
    all_goals gi_wp2
    rw [Exit.noGoto_ret]
    have hKd : W1.drew.heap[D]? = some (.deferred (some [])) := HY.out.2.2.trans HX.out.2.1
    have hrd : W1.drew.ownsRow (B + 1) 9 1 v (chR q).reverse.length (Sv (chR q).reverse) := HY.out.1
    have hBd : Below h w W1.drew := (HX.out.2.2.1.trans HY.out.2.1).drew
    refine ⟨by simp, .inl ⟨_, _, rfl, run_takeDeferred hKd, ?_⟩⟩
    refine ⟨_, results_tmp2 rfl _ _ _, v, by rw [HX.out.1]; rfl, ?_, ?_⟩
    · rw [HX.out.1, eh]
      exact ownsRow_putObj (own_base hrd (by omega)) _ hKd rfl
    · rw [eh]
      exact hBd.trans (belowK_b (w := w) (by omega) W1.drew D _ _ (by omega) hKd rfl rfl)
end Go.Proofs.Ytimijdmigdlhfaa