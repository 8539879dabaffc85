/- prekeys: Fetch's closure. -/
import Derived.Test.YtmmaimopombepaaBm
namespace Go.Proofs.Ytmmaimopombepaa
open Go.RowKit
set_option maxRecDepth 100000
theorem Sl_keep {T : Type} {E : Enc T} {w w' : World} {a : Option Addr} {l : List T} (h : Sl E w a l) (hs : w.heap.size ≤ w'.heap.size) (hh : ∀ b off sp, a = some ⟨b, off, sp⟩ → b < w.heap.size → w'.heap[b]? = w.heap[b]?) : Sl E w' a l := by
  intro h0
  obtain ⟨b, off, ha, hlt, hc⟩ := h h0
  exact ⟨b, off, ha, Nat.lt_of_lt_of_le hlt hs, fun j u hu => by rw [World.cell?_of_block (w := w) (hh _ _ _ ha hlt)]; exact hc j u hu⟩
/-- an address at or beyond a base -/
def Ge (base : Nat) (a : Option Addr) : Prop := ∀ b off sp, a = some ⟨b, off, sp⟩ → base ≤ b
/-- shelves that can be read, all of it at or beyond a base -/
structure SSb (w : World) (base : Nat) (a : Option Addr) (c : Nat) (L : List ShM) : Prop where
  ss : SS w a c L
  ge : Ge base a
  pts : ∀ m ∈ L, Ge base m.a
theorem SSb.keep {w w' : World} {base : Nat} {a : Option Addr} {c : Nat} {L : List ShM} (h : SSb w base a c L) (hs : w.heap.size ≤ w'.heap.size) (hk : ∀ k, base ≤ k → k < w.heap.size → w'.heap[k]? = w.heap[k]?) : SSb w' base a c L :=
  ⟨⟨⟨Sl_keep h.ss.sl.row hs fun b off sp e hb => hk b (h.ge b off sp e) hb, fun m hm => ⟨Sl_keep (h.ss.sl.pts m hm).at_ hs fun b off sp e hb => hk b (h.pts m hm b off sp e) hb, (h.ss.sl.pts m hm).cap, (h.ss.sl.pts m hm).none⟩⟩, h.ss.cap, h.ss.nil⟩, h.ge, h.pts⟩
theorem PP_keep {w w' : World} {base : Nat} {a : Option Addr} {c : Nat} {l : List Pn} (h : PP w a c l) (hg : Ge base a) (hs : w.heap.size ≤ w'.heap.size) (hk : ∀ k, base ≤ k → k < w.heap.size → w'.heap[k]? = w.heap[k]?) : PP w' a c l :=
  ⟨Sl_keep h.at_ hs fun b off sp e hb => hk b (hg b off sp e) hb, h.cap, h.nil⟩
theorem PtsOwn.ge {w : World} {n : Nat} {m : ShM} (h : PtsOwn w n m) : Ge n m.a := by
  intro b off sp e
  rcases h.2 with ⟨h2, -⟩ | ⟨g2, cap, cur2, e2, hn, -⟩
  · rw [e] at h2
    cases h2
  · rw [e] at e2
    injection e2 with e3
    injection e3 with e3
    injection e3 with e3
    subst e3
    exact hn
/-- the shelves behind a change of the call's own row -/
def ChPost (W : World) (base g c : Nat) (K : List ShM) (i : Nat) (new : Sh) (W' : World) : Prop := ∃ m' : ShM, m'.s = new ∧ SSb W' base (some ⟨g, 0, none⟩) c (K.set i m') ∧ Below base W W'
theorem SS_of_own {w : World} {base g c n : Nat} {K : List ShM} (h : OwnE eSh 28 w base (.slice (some ⟨g, 0, none⟩) n c) K) (hp : ∀ m ∈ K, PtsAt w m) : SS w (some ⟨g, 0, none⟩) c K := by
  obtain ⟨a, c2, e, hss⟩ := h.ss hp
  injection e with e1 e2 e3
  subst e1
  subst e3
  exact hss
theorem results_ctU {P : Program} {fn : Func} {p q : Tmp} {T : TypeId} (h : fn.results = #[.cell p T, .tmp q]) (tmps : Array Value) (w : World) (B : Nat) {t : TypeId} {l : List Value} {d : TypeDesc}
    (hp : tmps.getD p undef = .pointer (some ⟨B, 0, none⟩)) (hb : BlkV w B t l) (hu : P.underlying T = some d) (hd : d.isRow = true) (hi : (P.info? T).map (·.size) = some l.length) (v : Value) (hv : tmps.getD q undef = v) :
    (results fn tmps).run P w = .ok (.tuple #[.agg l.toArray, v]) w := by
  have hp' : tmps[p]?.getD undef = .pointer (some ⟨B, 0, none⟩) := by simpa using hp
  have hv' : tmps[q]?.getD undef = v := by simpa using hv
  have hl := run_loadVar_row (P := P) w B t T l.toArray (0, 0) d hb hu (by cases d <;> simp_all) (by rw [List.size_toArray]; exact hi)
  simp [results, h, hp', hv', asAddr, hl]
theorem results_tctU {P : Program} {fn : Func} {p q r : Tmp} {T : TypeId} (h : fn.results = #[.tmp q, .cell p T, .tmp r]) (tmps : Array Value) (w : World) (B : Nat) {t : TypeId} {l : List Value} {d : TypeDesc}
    (hp : tmps.getD p undef = .pointer (some ⟨B, 0, none⟩)) (hb : BlkV w B t l) (hu : P.underlying T = some d) (hd : d.isRow = true) (hi : (P.info? T).map (·.size) = some l.length) (v u : Value) (hv : tmps.getD q undef = v) (hu2 : tmps.getD r undef = u) :
    (results fn tmps).run P w = .ok (.tuple #[v, .agg l.toArray, u]) w := by
  have hp' : tmps[p]?.getD undef = .pointer (some ⟨B, 0, none⟩) := by simpa using hp
  have hv' : tmps[q]?.getD undef = v := by simpa using hv
  have hu' : tmps[r]?.getD undef = u := by simpa using hu2
  have hl := run_loadVar_row (P := P) w B t T l.toArray (0, 0) d hb hu (by cases d <;> simp_all) (by rw [List.size_toArray]; exact hi)
  simp [results, h, hp', hv', hu', asAddr, hl]
theorem size_setCellsU (g : Nat) : ∀ (vs : List Value) (o : Nat) (w : World), (w.setCells g o vs).heap.size = w.heap.size
  | [], _, _ => rfl
  | v :: vs, o, w => (size_setCellsU g vs (o + 1) (w.setCell ⟨g, o, none⟩ v)).trans (World.size_setCell _ _ _)
/-- points where another block, of another type, turned -/
theorem Sl_far {w w' : World} {g : Nat} {a : Option Addr} {l : List Pn} (h : Sl ePn w a l) (hs : w.heap.size ≤ w'.heap.size) (hne : ∀ b off sp, a = some ⟨b, off, sp⟩ → b ≠ g) (hk : ∀ k, k ≠ g → w'.heap[k]? = w.heap[k]?) : Sl ePn w' a l :=
  h.via hs fun b off sp e => hk b (hne b off sp e)
theorem PtsOwn.ne {w : World} {n g : Nat} {m : ShM} {cur : Array Value} (h : PtsOwn w n m) (hc : w.heap[g]? = some (.cells cur 28 (0, 0))) : ∀ b off sp, m.a = some ⟨b, off, sp⟩ → b ≠ g := by
  intro b off sp e h3
  subst h3
  rcases h.2 with ⟨h2, -⟩ | ⟨g2, cap, cur2, e2, hn, hc2, -⟩
  · rw [e] at h2
    cases h2
  · rw [e] at e2
    injection e2 with e3
    injection e3 with e3
    injection e3 with e3
    subst e3
    rw [hc] at hc2
    injection hc2 with hc2
    injection hc2 with _ h4
    exact absurd h4 (by decide)
/-- a shelf's points behind a change in the row alone -/
theorem PtsOwn.behind {w w' : World} {n g : Nat} {m : ShM} {cur : Array Value} (h : PtsOwn w n m) (hc : w.heap[g]? = some (.cells cur 28 (0, 0))) (hs : w.heap.size ≤ w'.heap.size) (hk : ∀ k, k < w.heap.size → k ≠ g → w'.heap[k]? = w.heap[k]?) : PtsAt w' m :=
  ⟨Sl_keep h.at.at_ hs fun b off sp e hb => hk b hb (h.ne hc b off sp e), h.at.cap, h.at.none⟩
/-- a row of the call's own where its block stands -/
theorem OwnE.same {T : Type} {E : Enc T} {t : TypeId} {w w' : World} {base g n c : Nat} {l : List T} (h : OwnE E t w base (.slice (some ⟨g, 0, none⟩) n c) l) (hk : w'.heap[g]? = w.heap[g]?) : OwnE E t w' base (.slice (some ⟨g, 0, none⟩) n c) l := by
  refine ⟨h.1, ?_⟩
  rcases h.2 with ⟨e, -⟩ | ⟨g2, cap, cur, e, hg, hc, hr⟩
  · cases e
  · refine Or.inr ⟨g2, cap, cur, e, hg, ?_, hr⟩
    injection e with e1
    injection e1 with e1
    injection e1 with e1
    subst e1
    rw [hk]
    exact hc
/-- the shelves behind a change of one shelf's points -/
theorem ch_once {w W2 w' : World} {base g c i : Nat} {K : List ShM} (hi : i < K.length) (h : OwnSS w base (.slice (some ⟨g, 0, none⟩) K.length c) K) (hb : Below w.heap.size w W2) (a : Option Addr) (o : List Pn) (c' : Nat)
    (h3 : w'.heap[g]? = (W2.setCell ⟨g, i * 5 + 4, none⟩ (.slice a o.length c')).heap[g]?) (hs : w.heap.size ≤ w'.heap.size) (hk : ∀ k, k < w.heap.size → k ≠ g → w'.heap[k]? = w.heap[k]?) (ho : ∀ x, x = (⟨{ K[i].s with once := o }, a, c'⟩ : ShM) → PtsAt w' x) (hga : Ge base a) (hB : Below base w w') :
    ChPost w base g c K i { K[i].s with once := o } w' := by
  obtain ⟨cur, hcur, hgb, -⟩ := h.row.block
  refine ⟨⟨{ K[i].s with once := o }, a, c'⟩, rfl, ⟨?_, fun b off sp e => (by cases e; exact hgb), fun m hm => ?_⟩, hB⟩
  rotate_left
  · rcases List.mem_or_eq_of_mem_set hm with hm | rfl
    · exact (h.pts m hm).ge
    · exact hga
  have h4 := (h.row.on hb).putOnce i hi a o c'
  have h5 := h4.same h3
  rw [show K.length = (K.set i ⟨{ K[i].s with once := o }, a, c'⟩).length by rw [List.length_set]] at h5
  refine SS_of_own h5 fun m hm => ?_
  rcases List.mem_or_eq_of_mem_set hm with hm | rfl
  · exact (h.pts m hm).behind hcur hs hk
  · exact ho _ rfl
set_option maxHeartbeats 8000000 in
theorem fetch1_any (g c base i : Nat) (K : List ShM) (hi : i < K.length) (hf : K[i].s.once.length ≤ 1000) (w : World) (h : OwnSS w base (.slice (some ⟨g, 0, none⟩) K.length c) K) (hbs : base ≤ w.heap.size) :
    Calls Try.prog 60 #[.pointer (some ⟨g, i * 5, none⟩)] w fun e w' => ∃ (a' : Option Addr) (c' : Nat), e = .returned (.tuple #[.agg #[.int .u64 (K[i].s.user : Int), .string K[i].s.ident, .int .u64 (K[i].s.sgn.id : Int), .string K[i].s.sgn.pt, .slice a' (K[i].s.once.take 1).length c'], .int .i64 0]) ∧ PP w' a' c' (K[i].s.once.take 1) ∧ Ge base a' ∧ ChPost w base g c K i (restSh K[i].s) w' := by
  obtain ⟨cur, hcur, hg, -⟩ := h.row.block
  have hSS := SS_of_own h.row fun m hm => (h.pts m hm).at
  obtain ⟨g', off', e4, hgs, hall⟩ := hSS.sl.get i hi
  cases e4
  have h5 := hall i hi
  have hpo := h.pts K[i] (List.getElem_mem hi)
  have hpt := hpo.at
  have hne := hpo.ne hcur
  obtain ⟨m, em⟩ : ∃ m, K[i] = m := ⟨_, rfl⟩
  rw [em] at h5 hpo hpt hne hf ⊢
  rw [Nat.zero_add] at h5
  obtain ⟨c0, c1, c2, c3, c4⟩ := h5
  obtain ⟨⟨u, id, ⟨si, sp⟩, o⟩, a, cm⟩ := m
  simp only at c0 c1 c2 c3 c4 hf
  obtain ⟨n, en⟩ : ∃ n, min 1 o.length = n := ⟨_, rfl⟩
  have enz : min (1 : Int) (o.length : Int) = (n : Int) := by omega
  have hf2 : (o.length : Int) ≤ 1000 := by omega
  have HC4 := Lib.hid c4
  have hnc : n ≤ cm := by have h9 : o.length ≤ cm := hpt.cap; omega
  have hno : n ≤ o.length := by omega
  have hncz : (n : Int) ≤ (cm : Int) := by omega
  have HH := Lib.hid (And.intro h (And.intro hcur (And.intro hg (And.intro em (And.intro hpo (And.intro hpt (And.intro hne en)))))))
  clear h hSS hall hpo hpt hne em hcur en
  go_enter Try.func60, Try.ntmps60
  go_upto_region 1 with fail
  obtain ⟨W0, eW0⟩ : ∃ W0, w.alloc (.cells #[.int .u64 0, .string ⟨#[]⟩, .int .u64 0, .string ⟨#[]⟩, .slice none 0 0] 28) = W0 := ⟨_, rfl⟩
  have b0 : Below w.heap.size w W0 := by rw [← eW0]; exact (Below.refl _ w).alloc (Nat.le_refl _) _
  have k0 : BlkV W0 w.heap.size 28 zeroShL := by rw [← eW0]; exact BlkV.fresh w _ _ _ rfl _ rfl
  rw [eW0]
  have d0 := (b0.cell (p := ⟨g, i * 5, none⟩) hgs).trans c0
  have d1 := (b0.cell (p := ⟨g, i * 5 + 1, none⟩) hgs).trans c1
  have d2 := (b0.cell (p := ⟨g, i * 5 + 2, none⟩) hgs).trans c2
  have d3 := (b0.cell (p := ⟨g, i * 5 + 3, none⟩) hgs).trans c3
  have d4 := (b0.cell (p := ⟨g, i * 5 + 4, none⟩) hgs).trans c4
  have hgs0 : g < W0.heap.size := Nat.lt_of_lt_of_le hgs b0.size
  have HK := Lib.hid (And.intro b0 k0)
  clear b0 k0 eW0 c0 c1 c2 c3 c4
  go_region
  all_goals go_wp2_with fail
  have hlt : (o.take n).length = n := by rw [List.length_take]; omega
  obtain ⟨W1, eW1⟩ : ∃ W1, (W0.alloc (.cells #[.int .u64 (u : Int), .string id, .int .u64 (si : Int), .string sp, .slice a o.length cm] 28)).drew = W1 := ⟨_, rfl⟩
  have b1 : Below W0.heap.size W0 W1 := by rw [← eW1]; exact ((Below.refl _ W0).alloc (Nat.le_refl _) _).drew
  have k1 : BlkV W1 W0.heap.size 28 [.int .u64 (u : Int), .string id, .int .u64 (si : Int), .string sp, .slice a o.length cm] := by rw [← eW1]; exact BlkV.fresh W0 _ _ _ rfl _ rfl
  have k1r := HK.out.2.on b1
  have bw1 := HK.out.1.trans (b1.mono HK.out.1.size)
  have hpt1 : PP w a cm o := HH.out.2.2.2.2.2.1.pp
  have hp1 := ((hpt1.on bw1).take n)
  have C0 := cloneP_any a cm (o.take n) (by rw [hlt]; omega) W1 hp1
  rw [hlt] at C0
  rw [eW1]
  refine C0.mono ?_
  rintro e w1 ⟨v, rfl, ho, hb⟩
  obtain ⟨a1, c1, ev, g1, g2, g3, g4⟩ := ho.sl
  rw [hlt] at ev g1
  subst ev
  have k2 := k1.on hb
  have k2r := k1r.on hb
  have f4 := k2.frozen 4
  have e4 := k2.cell 4 _ rfl
  have bw2 := bw1.trans (hb.mono bw1.size)
  have hFw : w.heap.size ≤ W0.heap.size := HK.out.1.size
  have hRF : w.heap.size < W0.heap.size := HK.out.2.lt
  have hF1 : W0.heap.size < W1.heap.size := k1.lt
  obtain ⟨R, eR⟩ : ∃ R, w.heap.size = R := ⟨_, rfl⟩
  obtain ⟨F, eF⟩ : ∃ F, W0.heap.size = F := ⟨_, rfl⟩
  have HZ := Lib.hid (And.intro k2 (And.intro k2r (And.intro bw2 (And.intro g1 (And.intro g2 (And.intro g4 (And.intro hFw (And.intro hRF (And.intro hF1 (And.intro hb.size (And.intro eR eF)))))))))))
  have HG3 := Lib.hid g3
  rw [eF] at f4 e4 ⊢
  rw [eR]
  clear C0 hp1 hpt1 bw1 k1r k1 b1 eW1 ho hb g1 g2 g3 g4 k2 k2r bw2 hFw hRF hF1 HK d0 d1 d2 d3 d4 eR eF hgs0
  go_upto_region 3 with fail
  have z1 := HZ.out.1
  have z2 := HZ.out.2.1
  have zb := HZ.out.2.2.1
  rw [HZ.out.2.2.2.2.2.2.2.2.2.2.2] at z1
  rw [HZ.out.2.2.2.2.2.2.2.2.2.2.1] at z2
  have hRF : R < F := by have := HZ.out.2.2.2.2.2.2.2.1; have e1 := HZ.out.2.2.2.2.2.2.2.2.2.2.1; have e2 := HZ.out.2.2.2.2.2.2.2.2.2.2.2; omega
  have hgR : g < R := by have e1 := HZ.out.2.2.2.2.2.2.2.2.2.2.1; omega
  have j2 := z1.set 4 (.slice a1 n c1)
  have j2r := z2.far ⟨F, 4, none⟩ (by show R ≠ F; omega) (.slice a1 n c1)
  have bw := zb.setCell (show w.heap.size ≤ (⟨F, 4, none⟩ : Addr).block by show w.heap.size ≤ F; have e1 := HZ.out.2.2.2.2.2.2.2.2.2.2.1; omega) (.slice a1 n c1)
  have hkF : ∀ k, k ≠ F → (w1.setCell ⟨F, 4, none⟩ (.slice a1 n c1)).heap[k]? = w1.heap[k]? := fun k hk => heap_setCell_other w1 ⟨F, 4, none⟩ k _ hk
  have hsF : (w1.setCell ⟨F, 4, none⟩ (.slice a1 n c1)).heap.size = w1.heap.size := World.size_setCell _ _ _
  obtain ⟨W2, eW2⟩ : ∃ W2, w1.setCell ⟨F, 4, none⟩ (.slice a1 n c1) = W2 := ⟨_, rfl⟩
  rw [eW2] at j2 j2r bw hkF hsF ⊢
  have hc2 := (bw.block g hgs).trans HH.out.2.1
  have d4 := (bw.cell (p := ⟨g, i * 5 + 4, none⟩) hgs).trans HC4.out
  have f4g : W2.frozen? ⟨g, i * 5 + 4, none⟩ = false := frozen_of_row W2 g _ cur _ hc2
  obtain ⟨b2, d2, hrun, hdl, hSl, hnil, hbk⟩ := from_E (P := Try.prog) ePn 26 Try.underlying26 (fun W => by kernel_rfl) a o cm n hno (by have := HH.out.2.2.2.2.2.1.cap; exact this) w HH.out.2.2.2.2.2.1.at_
  have hgs2 : g < W2.heap.size := Nat.lt_of_lt_of_le hgs bw.size
  have HJ := Lib.hid (And.intro j2 (And.intro j2r (And.intro bw (And.intro hkF hsF))))
  have HD := Lib.hid (And.intro hdl (And.intro hSl (And.intro hnil hbk)))
  clear z1 z2 zb j2 j2r bw hkF hsF eW2 hc2 hdl hSl hnil hbk e4 f4
  have hrun2 := hrun
  go_upto_region 4 with fail
  have hol : o.length - n = (o.drop n).length := by rw [List.length_drop]
  rw [hol]
  have y2 := HJ.out.1.far ⟨g, i * 5 + 4, none⟩ (by show F ≠ g; omega) (.slice b2 (o.drop n).length d2)
  have y2r := HJ.out.2.1.far ⟨g, i * 5 + 4, none⟩ (by show R ≠ g; omega) (.slice b2 (o.drop n).length d2)
  have hs3 : (W2.setCell ⟨g, i * 5 + 4, none⟩ (.slice b2 (o.drop n).length d2)).heap.size = W2.heap.size := World.size_setCell _ _ _
  have hk3 : ∀ k, k ≠ g → (W2.setCell ⟨g, i * 5 + 4, none⟩ (.slice b2 (o.drop n).length d2)).heap[k]? = W2.heap[k]? := fun k hk => heap_setCell_other W2 ⟨g, i * 5 + 4, none⟩ k _ hk
  have hB3 : Below base w (W2.setCell ⟨g, i * 5 + 4, none⟩ (.slice b2 (o.drop n).length d2)) := (HJ.out.2.2.1.mono hbs).setCell (show base ≤ (⟨g, i * 5 + 4, none⟩ : Addr).block from hg) _
  obtain ⟨W3, eW3⟩ : ∃ W3, W2.setCell ⟨g, i * 5 + 4, none⟩ (.slice b2 (o.drop n).length d2) = W3 := ⟨_, rfl⟩
  rw [eW3] at y2 y2r hs3 hk3 hB3 ⊢
  have HY := Lib.hid (And.intro y2 (And.intro y2r (And.intro hs3 (And.intro hk3 (And.intro hB3 eW3)))))
  clear y2 y2r hs3 hk3 hB3 eW3 hrun hrun2 d4 f4g
  refine wp_region_lit ?_
  refine load_v rfl _ _ rfl F rfl HY.out.1 Try.underlying28 rfl (by kernel_rfl) ?_
  simp only [Act.put, List.setIfInBounds_toArray, List.set_cons_zero, List.set_cons_succ]
  refine store_v rfl rfl _ _ _ rfl R rfl (l' := [.int .u64 (u : Int), .string id, .int .u64 (si : Int), .string sp, .slice a1 n c1]) rfl HY.out.2.1 rfl (shL_oneU _ _ _ _ _ _ _) (by kernel_rfl) ?_
  have x1 := HY.out.2.1.stored [.int .u64 (u : Int), .string id, .int .u64 (si : Int), .string sp, .slice a1 n c1] rfl
  have hkR : ∀ k, k ≠ R → (W3.setCells R 0 [.int .u64 (u : Int), .string id, .int .u64 (si : Int), .string sp, .slice a1 n c1]).heap[k]? = W3.heap[k]? := fun k hk => heap_setCells_other R k hk _ _ _
  have hB4 := below_setCells (show base ≤ R by omega) [Value.int .u64 (u : Int), .string id, .int .u64 (si : Int), .string sp, .slice a1 n c1] 0 _ HY.out.2.2.2.2.1
  have hs4 : (W3.setCells R 0 [.int .u64 (u : Int), .string id, .int .u64 (si : Int), .string sp, .slice a1 n c1]).heap.size = W3.heap.size := size_setCellsU R _ _ _
  generalize World.setCells _ _ _ _ = W4 at x1 hkR hB4 hs4 ⊢
  have HX1 := Lib.hid x1
  have HW := Lib.hid (And.intro hkR (And.intro hB4 hs4))
  clear x1 hkR hB4 hs4
  go_wp2_with fail
  refine bodyPost_ret (results_ctU (p := 2) (q := 3) (T := 28) (by kernel_rfl) _ _ R rfl HX1.out Try.underlying28 rfl (by kernel_rfl) _ rfl) rfl ?_
  have ht1 : o.take n = o.take 1 := by
    have h9 := HH.out.2.2.2.2.2.2.2
    cases o with
    | nil => simp
    | cons p o => simp only [List.length_cons] at h9; rw [show n = 1 by omega]
  have hd1 : o.drop n = o.drop 1 := by
    have h9 := HH.out.2.2.2.2.2.2.2
    cases o with
    | nil => simp
    | cons p o => simp only [List.length_cons] at h9; rw [show n = 1 by omega]
  have eR := HZ.out.2.2.2.2.2.2.2.2.2.2.1
  have eF := HZ.out.2.2.2.2.2.2.2.2.2.2.2
  have hsz : w1.heap.size ≤ W4.heap.size := by rw [HW.out.2.2, HY.out.2.2.1, HJ.out.2.2.2.2]; exact Nat.le_refl _
  have hW1 := HZ.out.2.2.2.2.2.2.2.2.2.1
  have hFW := HZ.out.2.2.2.2.2.2.2.2.1
  have hbig : ∀ k, F < k → W4.heap[k]? = w1.heap[k]? := fun k hk => by rw [HW.out.1 k (by omega), HY.out.2.2.2.1 k (by omega), HJ.out.2.2.2.1 k (by omega)]
  have hold : ∀ k, k < w.heap.size → k ≠ g → W4.heap[k]? = w.heap[k]? := fun k hk hkg => by rw [HW.out.1 k (by omega), HY.out.2.2.2.1 k hkg, HJ.out.2.2.1.block k hk]
  have hsw : w.heap.size ≤ W4.heap.size := by have h8 := HZ.out.2.2.1.size; omega
  refine ⟨a1, c1, ?_, ?_, ?_, ?_⟩
  · rw [← ht1, hlt]
    rfl
  · rw [← ht1]
    refine ⟨Sl_keep HZ.out.2.2.2.2.1 hsz fun b off sp e hb => hbig b ?_, by rw [hlt]; exact HZ.out.2.2.2.1, HG3.out⟩
    have := HZ.out.2.2.2.2.2.1 b off sp e
    omega
  · intro b off sp e
    have := HZ.out.2.2.2.2.2.1 b off sp e
    omega
  · have eK := HH.out.2.2.2.1
    have hch := ch_once hi HH.out.1 HJ.out.2.2.1 b2 (o.drop n) d2 (w' := W4) (by rw [HW.out.1 g (by omega), HY.out.2.2.2.2.2]) hsw hold (fun x hx => by
      subst hx
      refine ⟨HD.out.2.1 W4 ?_, HD.out.1, HD.out.2.2.1 (fun e => HH.out.2.2.2.2.2.1.none e)⟩
      exact Sl_keep HH.out.2.2.2.2.2.1.at_ hsw fun b off sp e hb => hold b hb (HH.out.2.2.2.2.2.2.1 b off sp e)) (fun b off sp e => by obtain ⟨o2, s2, e2⟩ := HD.out.2.2.2 b off sp e; exact HH.out.2.2.2.2.1.ge b o2 s2 e2) HW.out.2.1
    rw [eK, hd1] at hch
    exact hch
end Go.Proofs.Ytmmaimopombepaa