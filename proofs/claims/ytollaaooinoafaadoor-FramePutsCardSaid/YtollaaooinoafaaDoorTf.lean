/- The formats in memory; a row in a block: one part read, one stored; the package's Right. -/
import Derived.Test.YtollaaooinoafaaDoorTe
namespace Go.Proofs.YtollaaooinoafaaDoor
open Go.RowKit Go.Sort
set_option maxRecDepth 100000
/-- the package's formats lie as their initialiser lays them -/
def FmtAt (w : World) : Prop := ∀ k, k < 3 → ∃ b off c : Nat, w.cell? ⟨0, k, none⟩ = some (.slice (some ⟨b, off, none⟩) (fmtL k).length c) ∧ ∀ i, i < (fmtL k).length → w.cell? ⟨b, off + i, none⟩ = some (.int .i64 ((fmtL k).getD i 0 : Int))
theorem FmtAt.on {w w' : World} (h : FmtAt w) (hb : Below w.heap.size w w') : FmtAt w' := by
  intro k hk
  obtain ⟨b, off, c, h1, h2⟩ := h k hk
  refine ⟨b, off, c, ?_, fun i hi => ?_⟩
  · rw [hb.cell (p := ⟨0, k, none⟩) (World.block_lt_of_cell? w _ h1)]; exact h1
  · have := h2 i hi
    rw [hb.cell (p := ⟨b, off + i, none⟩) (World.block_lt_of_cell? w _ this)]; exact this
theorem heap_setCells_seg (b : Nat) (t : TypeId) : ∀ (vs pre mid post : List Value) (w : World), mid.length = vs.length → w.heap[b]? = some (.cells (pre ++ mid ++ post).toArray t (0, 0)) →
    (w.setCells b pre.length vs).heap[b]? = some (.cells (pre ++ vs ++ post).toArray t (0, 0))
  | [], pre, mid, post, w, hl, hg => by
    have : mid = [] := by simpa using hl
    subst this
    simpa [World.setCells] using hg
  | v :: r, pre, mid, post, w, hl, hg => by
    obtain ⟨u, mid, rfl⟩ : ∃ u m, mid = u :: m := by
      cases mid with
      | nil => simp at hl
      | cons u m => exact ⟨u, m, rfl⟩
    rw [World.setCells]
    have h2 := heap_setCell_same w b pre.length _ t v hg
    have e3 : ((pre ++ u :: mid ++ post).toArray.setIfInBounds pre.length v) = ((pre ++ [v]) ++ mid ++ post).toArray := by
      apply Array.ext'
      simp
    rw [e3] at h2
    have h4 := heap_setCells_seg b t r (pre ++ [v]) mid post _ (by simpa using hl) h2
    rw [List.length_append, List.length_singleton] at h4
    rw [h4]
    simp
theorem set_split (l : List Pt) (i : Nat) (h : i < l.length) (p : Pt) : l = l.take i ++ [l.getD i p0] ++ l.drop (i + 1) ∧ l.set i p = l.take i ++ [p] ++ l.drop (i + 1) := by
  have e : l.getD i p0 = l[i] := by simp [List.getD, h]
  constructor
  · rw [e, List.take_append_getElem]
    exact (List.take_append_drop (i + 1) l).symm
  · rw [List.set_eq_take_append_cons_drop, if_pos h]; simp
theorem Pc_single (p : Pt) : Pc [p] = pcs p := by unfold Pc; simp
theorem BlkV.farO {w : World} {B B' : Nat} {t : TypeId} {l : List Value} (h : BlkV w B t l) (hne : B ≠ B') (o : Nat) (vs : List Value) : BlkV (w.setCells B' o vs) B t l := by
  unfold BlkV; rw [heap_setCells_other B' B hne]; exact h
/-- a part of a row, stored -/
theorem BlkV.setP {w : World} {B : Nat} {t : TypeId} {l : List Pt} (h : BlkV w B t (Pc l)) (i : Nat) (hi : i < l.length) (p : Pt) : BlkV (w.setCells B (i * 3) (pcs p)) B t (Pc (l.set i p)) := by
  obtain ⟨e1, e2⟩ := set_split l i hi p
  unfold BlkV at h ⊢
  rw [e1, Pc_append, Pc_append, Pc_single] at h
  rw [e2, Pc_append, Pc_append, Pc_single]
  have hl : (Pc (l.take i)).length = i * 3 := by rw [Pc_length, List.length_take]; omega
  rw [← hl]
  exact heap_setCells_seg B t (pcs p) _ (pcs (l.getD i p0)) _ w rfl h
theorem BlkV.ptAt {w : World} {B : Nat} {t : TypeId} {l : List Pt} (h : BlkV w B t (Pc l)) (i : Nat) (hi : i < l.length) : PtAt w B (i * 3) (l.getD i p0) := by
  obtain ⟨g0, g1, g2⟩ := Pc_get l i hi
  exact ⟨h.cell _ _ g0, h.cell _ _ g1, h.cell _ _ g2⟩
theorem BlkV.rangeP {w : World} {B : Nat} {t : TypeId} {l : List Pt} (h : BlkV w B t (Pc l)) (i : Nat) (hi : i < l.length) : w.rangeAt B (i * 3) (pcs (l.getD i p0)) := by
  have hp := h.ptAt i hi
  intro j v hv
  match j with
  | 0 => simp [pcs] at hv; subst hv; exact hp.c0
  | 1 => simp [pcs] at hv; subst hv; exact hp.c1
  | 2 => simp [pcs] at hv; subst hv; exact hp.c2
  | n + 3 => simp [pcs] at hv
theorem BlkV.thereP {w : World} {B : Nat} {t : TypeId} {l : List Pt} (h : BlkV w B t (Pc l)) (i : Nat) (hi : i < l.length) : w.there B (i * 3) 3 := by
  intro j hj
  have hp := h.ptAt i hi
  have hf := h.frozen (i * 3 + j)
  match j, hj with
  | 0, _ => exact ⟨by have := hp.c0; simp only [Nat.add_zero]; rw [this]; rfl, hf⟩
  | 1, _ => exact ⟨by rw [hp.c1]; rfl, hf⟩
  | 2, _ => exact ⟨by rw [hp.c2]; rfl, hf⟩
theorem pcs_one (p : Pt) : ∀ v ∈ pcs p, v.oneCell' = true := by
  intro v hv; simp [pcs] at hv; rcases hv with rfl | rfl | rfl <;> rfl
def blankC : Array Value := #[.bool false, .int .u64 0, .string ⟨#[]⟩, .bool false, .int .u64 0, .string ⟨#[]⟩, .bool false, .int .u64 0, .string ⟨#[]⟩, .bool false, .int .u64 0, .string ⟨#[]⟩, .bool false, .int .u64 0, .string ⟨#[]⟩, .bool false, .int .u64 0, .string ⟨#[]⟩, .bool false, .int .u64 0, .string ⟨#[]⟩, .bool false, .int .u64 0, .string ⟨#[]⟩, .bool false, .int .u64 0, .string ⟨#[]⟩, .bool false, .int .u64 0, .string ⟨#[]⟩, .bool false, .int .u64 0, .string ⟨#[]⟩, .bool false, .int .u64 0, .string ⟨#[]⟩, .bool false, .int .u64 0, .string ⟨#[]⟩]
theorem blankC_eq : blankC = (Pc blank).toArray := rfl
def LeftRel (w : World) (L E FB : Nat) (t : TypeId) (fc : List Value) (tf : TypeId) (R : List Pt) (ws : List Nat) (i : Value) (wr : World) : Prop :=
  ∃ (k : Nat) (l : List Pt), k ≤ ws.length ∧ i = .int .i64 (k : Int) ∧ l.length = 13 ∧ BlkV wr L t (Pc l) ∧ BlkV wr E t (Pc noneL) ∧ BlkV wr FB tf fc ∧ leftW l (ws.drop k) = leftW R ws ∧ Below w.heap.size w wr
theorem left_step (l : List Pt) (ws : List Nat) (k : Nat) (h : k < ws.length) (hf : fitsW (ws.getD k 0) (l.getD (ws.getD k 0) p0) = true) :
    leftW l (ws.drop k) = leftW (l.set (ws.getD k 0) (noneL.getD (ws.getD k 0) p0)) (ws.drop (k + 1)) := by
  have e : ws.getD k 0 = ws[k] := by simp [List.getD, h]
  rw [List.drop_eq_getElem_cons h, leftW, ← e, if_pos hf]
theorem left_stop (l : List Pt) (ws : List Nat) (k : Nat) (h : k < ws.length) (hf : fitsW (ws.getD k 0) (l.getD (ws.getD k 0) p0) = false) : leftW l (ws.drop k) = none := by
  have e : ws.getD k 0 = ws[k] := by simp [List.getD, h]
  rw [List.drop_eq_getElem_cons h, leftW, ← e, hf, if_neg (by simp)]
def rightB (R : List Pt) (ws : List Nat) (ks : List ByteArray) : Bool :=
  match leftW R ws with
  | none => false
  | some l => decide (l = noneL) && keysB ks
set_option maxHeartbeats 4000000 in
theorem fRight_any (f : Fr) (a : Option Addr) (c : Nat) (hl : f.keys.length ≤ maxLen) (w : World) (hp : SSl w a f.keys) (hF : FmtAt w) :
    Calls Tryd.prog 9 #[frV f a c] w fun e w' => e = .returned (.bool (rightF f)) ∧ Below w.heap.size w w' := by
  have hb1 : Below w.heap.size w (w.alloc (.cells (frC f a c) 25)) := (Below.refl _ _).alloc (Nat.le_refl _) _
  have hx1 : BlkV (w.alloc (.cells (frC f a c) 25)) w.heap.size 25 (frL f a c) := BlkV.fresh _ _ _ _ rfl _ rfl
  have d0 : (w.alloc (.cells (frC f a c) 25)).cell? ⟨w.heap.size, 0, none⟩ = some (.int .i64 f.kind) := hx1.cell 0 _ rfl
  have HK := Lib.hid (isKind_any f.kind)
  by_cases hk : 0 ≤ f.kind ∧ f.kind < 3
  case neg =>
    rw [decide_eq_false hk] at HK
    have HR := Lib.hid (right_not f hk)
    unfold frV
    simp only [frC] at hb1 d0 ⊢
    have HB := Lib.hid hb1
    clear hb1 hx1 hk hl hp hF
    go_enter Tryd.func9, Tryd.ntmps9
    go_wp2_with fail
    refine (HK.out _).mono ?_
    rintro e w1 ⟨rfl, rfl⟩
    go_wp2_with fail
    go_ret
    rw [HR.out]
    exact ⟨rfl, HB.out⟩
  rw [decide_eq_true hk] at HK
  obtain ⟨kn, hkn⟩ : ∃ kn : Nat, f.kind = (kn : Int) := ⟨f.kind.toNat, by omega⟩
  have hkn3 : kn < 3 := by omega
  have hRP := right_kindP f kn hkn3 hkn
  rw [← hRP]
  obtain ⟨ans, eans⟩ : ∃ ans, rightP kn f = ans := ⟨_, rfl⟩
  replace eans : rightB (rowL f) (fmtL kn) f.keys = ans := eans
  rw [show rightP kn f = ans from eans]
  have hro := fun W => rowOf_any f a c hl W
  have hrz : ∀ W : World, Calls Tryd.prog 21 #[.agg #[.int .i64 0, .int .u64 0, .int .u64 0, .int .u64 0, .string ⟨#[]⟩, .string ⟨#[]⟩, .int .u64 0, .int .u64 0, .string ⟨#[]⟩, .int .u64 0, .int .u64 0, .string ⟨#[]⟩, .slice none 0 0]] W fun e w' => e = .returned (rowV noneL) ∧ Below W.heap.size W w' :=
    fun W => rowOf_any ⟨0, 0, 0, 0, ⟨#[]⟩, ⟨#[]⟩, 0, 0, ⟨#[]⟩, 0, 0, ⟨#[]⟩, []⟩ none 0 (Nat.zero_le _) W
  have hak := fun W h => areKeys_any a c f.keys hl W h
  obtain ⟨fc, efc⟩ : ∃ fc, frL f a c = fc := ⟨_, rfl⟩
  obtain ⟨R, eR⟩ : ∃ R, rowL f = R := ⟨_, rfl⟩
  have hR13 : R.length = 13 := by rw [← eR]; rfl
  have e12 : fc[12]? = some (.slice a f.keys.length c) := by rw [← efc]; rfl
  have e0 : fc[0]? = some (.int .i64 (kn : Int)) := by rw [← efc, ← hkn]; rfl
  have eld : (fc : List Value).toArray = frC f a c := by rw [← efc]; rfl
  have hlen13 : fc.length = 13 := by rw [← efc]; rfl
  rw [eR] at hro eans
  rw [efc] at hx1
  have hfv : frV f a c = .agg fc.toArray := by rw [eld]; rfl
  rw [hfv] at hro ⊢
  rw [← eld] at hb1 hx1 d0
  rw [hkn] at HK d0
  generalize f.keys = ks at *
  have HB := Lib.hid hb1; have HX := Lib.hid hx1; have HP := Lib.hid hp; have HF := Lib.hid hF; have HRO := Lib.hid hro; have HRZ := Lib.hid hrz; have HAK := Lib.hid hak; have HE := Lib.hid (And.intro e0 e12); have HL13 := Lib.hid (And.intro hR13 hlen13); have HANS := Lib.hid eans
  clear hb1 hx1 hro hrz hak e0 e12 eld eR efc hRP hkn hk hl hp hF hfv hR13 hlen13 eans
  go_enter Tryd.func9, Tryd.ntmps9
  go_upto_region 1 with fail
  generalize World.alloc w _ = V at HB HX d0 ⊢
  go_wp2_with fail
  refine (HK.out _).mono ?_
  rintro e w1 ⟨rfl, rfl⟩
  go_upto_region 3 with fail
  clear d0
  refine wp_region_lit ?_
  refine load_v rfl _ _ rfl w.heap.size rfl HX.out Tryd.underlying25 rfl (by rw [HL13.out.2]; kernel_rfl) ?_
  refine wpList_step (fun K hK => ?_)
  go_simp
  refine (HRO.out _).mono ?_
  rintro e w1 ⟨rfl, hb⟩
  refine hK _ _ ?_
  clear hK K
  have HX1 := Lib.hid (HX.out.on hb); have HB1 := Lib.hid (HB.out.trans (hb.mono HB.out.size))
  clear HX HB hb HK HRO
  refine wpList_step (fun K hK => ?_)
  go_simp
  refine hK _ _ ?_
  clear hK K
  refine wpList_step (fun K hK => ?_)
  go_simp
  refine (HRZ.out _).mono ?_
  rintro e w2 ⟨rfl, hb⟩
  refine hK _ _ ?_
  clear hK K
  have hX := HX1.out.on hb
  have hB := HB1.out.trans (hb.mono HB1.out.size)
  have hsz := hX.lt
  have hle := hB.size
  clear HX1 HB1 hb HRZ
  obtain ⟨U0, eU0⟩ : ∃ U0, w2.alloc (.cells blankC 50) = U0 := ⟨_, rfl⟩
  obtain ⟨U, eU⟩ : ∃ U, U0.alloc (.cells blankC 50) = U := ⟨_, rfl⟩
  have hs0 : U0.heap.size = w2.heap.size + 1 := by rw [← eU0]; simp
  have hv : Below w2.heap.size w2 U := by rw [← eU, ← eU0]; go_grown
  have hL : BlkV U w2.heap.size 50 (Pc blank) := by rw [← eU]; exact BlkV.alloc (by rw [← eU0]; exact BlkV.fresh _ _ _ _ blankC_eq _ rfl) _
  have hE : BlkV U (w2.heap.size + 1) 50 (Pc blank) := by rw [← eU]; exact BlkV.fresh _ _ _ _ blankC_eq _ hs0.symm
  have hX2 := hX.on hv
  have hB2 := hB.trans (hv.mono hle)
  have HU := Lib.hid (And.intro eU0 eU); have HL := Lib.hid hL; have HE0 := Lib.hid hE; have HX := Lib.hid hX2; have HB := Lib.hid hB2; have HSZ := Lib.hid (And.intro hsz hle)
  clear eU0 eU hs0 hv hL hE hX2 hB2 hX hB hsz hle
  iterate 2 (refine wpList_step (fun K hK => ?_); go_simp; refine hK _ _ ?_; clear hK K)
  change wpList Tryd.prog _ _ _ _ ((w2.alloc (.cells blankC 50)).alloc (.cells blankC 50))
  rw [HU.out.1, HU.out.2]
  have hRl : (Pc R).length = (Pc blank).length := by rw [Pc_length, HL13.out.1]; rfl
  have hNl : (Pc noneL).length = (Pc blank).length := rfl
  refine store_v rfl rfl _ _ _ rfl w2.heap.size rfl (l' := Pc R) rfl HL.out hRl (Pc_one R) (by kernel_rfl) ?_
  refine store_v rfl rfl _ _ _ rfl (w2.heap.size + 1) rfl (l' := Pc noneL) rfl (HE0.out.farS (by omega) _) hNl (Pc_one noneL) (by kernel_rfl) ?_
  refine wpList_nil ?_
  obtain ⟨hsz, hle⟩ := HSZ.out
  have hL4 := (HL.out.stored (Pc R) hRl).farS (show w2.heap.size ≠ w2.heap.size + 1 by omega) (Pc noneL)
  have hE4 := (HE0.out.farS (show w2.heap.size + 1 ≠ w2.heap.size by omega) (Pc R)).stored (Pc noneL) hNl
  have hX4 := (HX.out.farS (show w.heap.size ≠ w2.heap.size by omega) (Pc R)).farS (show w.heap.size ≠ w2.heap.size + 1 by omega) (Pc noneL)
  have hB4 := below_setCells (show w.heap.size ≤ w2.heap.size + 1 by omega) (Pc noneL) 0 _ (below_setCells hle (Pc R) 0 _ HB.out)
  obtain ⟨L, eL⟩ : ∃ L, w2.heap.size = L := ⟨_, rfl⟩
  obtain ⟨FB, eFB⟩ : ∃ FB, w.heap.size = FB := ⟨_, rfl⟩
  have hne : FB < L := by omega
  rw [eL] at hL4 hE4 hX4 hB4 ⊢
  rw [eFB] at hX4
  generalize World.setCells (World.setCells U _ _ _) _ _ _ = W4 at hL4 hE4 hX4 hB4 ⊢
  clear HU HL HE0 HX HB HSZ hsz hle eL hRl hNl
  rename_i K hK
  refine hK _ _ ?_
  clear hK K
  obtain ⟨fb, fo, fcap, hf0, hf2⟩ := HF.out kn hkn3
  have hf1 : W4.cell? ⟨0, kn, none⟩ = _ := (hB4.cell (p := ⟨0, kn, none⟩) (World.block_lt_of_cell? w _ hf0)).trans hf0
  have hf3 := fmt_get kn
  have hws := fmt_len kn
  have d0 := hX4.cell 0 _ HE.out.1
  have HW4 := Lib.hid (And.intro hL4 (And.intro hE4 (And.intro hX4 (And.intro hB4 (And.intro hf2 (And.intro hne (And.intro hf3 (And.intro hws eFB))))))))
  clear hL4 hE4 hX4 hB4 hf2 hf3 hws hne hf0
  rw [eFB]
  go_upto_region 5 with fail
  clear d0 hf1
  obtain ⟨ws, ews⟩ : ∃ ws, fmtL kn = ws := ⟨_, rfl⟩
  rw [ews] at HW4 HANS ⊢
  clear ews
  go_loopw [20] (LeftRel w L (L + 1) FB 50 fc 25 R ws) (fun i _ => ws.length - (intOf i).toNat)
  case atStart => exact ⟨0, R, Nat.zero_le _, rfl, HL13.out.1, HW4.out.1, HW4.out.2.1, HW4.out.2.2.1, rfl, HW4.out.2.2.2.1⟩
  case round =>
    obtain ⟨k, l, hk, rfl, hl13, hL, hE, hX, hleft, hB⟩ := hrel
    obtain ⟨-, -, -, hB4, hf2, hne, hf3, hws, eFB⟩ := HW4.out
    by_cases hlt : k < ws.length
    · have h1 : (k : Int) < (ws.length : Int) := by omega
      have h1k : (k : Int) < 100 := by omega
      obtain ⟨q, eq⟩ : ∃ q, ws.getD k 0 = q := ⟨_, rfl⟩
      have hq := hf3 k hlt
      have hcell : wr.cell? ⟨fb, fo + k, none⟩ = _ := (hB.cell (p := ⟨fb, fo + k, none⟩) (World.block_lt_of_cell? w _ (hf2 k hlt))).trans (hf2 k hlt)
      rw [eq] at hq hcell
      have hpt := hL.ptAt q (by omega)
      have hst := left_step l ws k hlt
      have hsp := left_stop l ws k hlt
      rw [eq, hleft] at hst hsp
      obtain ⟨p, ep⟩ : ∃ p, l.getD q p0 = p := ⟨_, rfl⟩
      rw [ep] at hpt hst hsp
      have hft := fun W => fFits_any q hq p W
      obtain ⟨c0, c1, c2⟩ := hpt
      have hq13 : (q : Int) < 13 := by omega
      unfold pv at hft
      have HFT := Lib.hid hft; have HST := Lib.hid hst; have HSP := Lib.hid hsp; have HL := Lib.hid hL; have HE2 := Lib.hid hE; have HX := Lib.hid hX; have HB := Lib.hid hB; have HQ := Lib.hid (And.intro eFB hne)
      clear hft hst hsp hL hE hX hB hf2 hf3 hB4 hleft eq ep hws eFB hne HW4 hk
      go_wp2_with fail
      refine (HFT.out _).mono ?_
      rintro e w5 ⟨rfl, hb5⟩
      have hB5 := HB.out.trans (hb5.mono HB.out.size)
      have hL5 := HL.out.on hb5
      have hE5 := HE2.out.on hb5
      have hX5 := HX.out.on hb5
      obtain ⟨eFB, hne⟩ := HQ.out
      clear HFT HL HE2 HX HB HQ hb5 c0 c1 c2 hcell
      cases hfit : fitsW q p
      · have hno := HSP.out hfit
        have HNO := Lib.hid hno; have HB5 := Lib.hid hB5
        clear hno HST HSP hB5 hL5 hE5 hX5 hne hfit
        go_wp2_with fail
        go_ret
        rw [← HANS.out]
        unfold rightB
        rw [HNO.out]
        exact ⟨rfl, HB5.out⟩
      · have hyes := HST.out hfit
        clear HST HSP hfit
        have hq13' : q < l.length := by omega
        have hqn : q < noneL.length := hq
        have hB6 := below_setCells (show w.heap.size ≤ L by omega) (pcs (noneL.getD q p0)) (q * 3) _ hB5
        have hL6 := hL5.setP q hq13' (noneL.getD q p0)
        have hrg := hE5.rangeP q hqn
        have hth := hL5.thereP q hq13'
        have HH := Lib.hid (And.intro hyes (And.intro hB6 (And.intro hL6 (And.intro hrg hth)))); have HE5 := Lib.hid hE5; have HX5 := Lib.hid hX5; have HNE := Lib.hid (And.intro eFB hne)
        clear hyes hB6 hL6 hrg hth hE5 hX5 hL5 hB5 hne eFB hq13' hqn
        go_upto_region 9 with fail
        refine wp_region_lit ?_
        iterate 3 (refine wpList_step (fun K hK => ?_); go_simp; refine hK _ _ ?_; clear hK K)
        refine wpList_load_mid rfl 48 _ rfl (L + 1) (q * 3) rfl _ _ HH.out.2.2.2.1 Tryd.underlying48 rfl (by kernel_rfl) ?_
        refine wpList_step (fun K hK => ?_)
        go_simp
        refine hK _ _ ?_
        clear hK K
        refine wpList_store_mid rfl 48 _ _ rfl L (q * 3) (pcs (noneL.getD q p0)).toArray rfl rfl HH.out.2.2.2.2 (by kernel_rfl) (all_oneCell_toArray (pcs_one _)) ?_
        refine wpList_nil ?_
        obtain ⟨hyes, hB6, hL6, -, -⟩ := HH.out
        have hE6 := HE5.out.farO (show L + 1 ≠ L by omega) (q * 3) (pcs (noneL.getD q p0))
        have hX6 := HX5.out.farO (show FB ≠ L by have := HNE.out.2; omega) (q * 3) (pcs (noneL.getD q p0))
        rename_i K hK
        refine hK _ _ ?_
        clear hK K
        change Code.wp Tryd.prog _ _ _ (w5.setCells L (q * 3) (pcs (noneL.getD q p0)))
        generalize w5.setCells L (q * 3) (pcs (noneL.getD q p0)) = W6 at hB6 hL6 hE6 hX6 ⊢
        have HR := Lib.hid (And.intro hyes (And.intro hL6 (And.intro hE6 (And.intro hX6 hB6))))
        clear hyes hB6 hL6 hE6 hX6 HH HE5 HX5 HNE
        go_wp2_with fail
        exact ⟨⟨k + 1, _, by omega, by simp, by rw [List.length_set]; exact hl13, HR.out.2.1, HR.out.2.2.1, HR.out.2.2.2.1, HR.out.1.symm, HR.out.2.2.2.2⟩, by simp [intOf]; omega⟩
    · obtain rfl : k = ws.length := by omega
      have hn : ¬ (ws.length : Int) < (ws.length : Int) := by omega
      rw [List.drop_length, leftW] at hleft
      have hres : (decide (l = noneL) && keysB ks) = ans := by rw [← HANS.out]; unfold rightB; rw [← hleft]
      have hP := HP.out.on hB
      have hc12 := hX.cell 12 _ HE.out.2
      have hre := fun W => run_eq_row l noneL hl13 rfl W
      unfold rowV at hre
      have HL := Lib.hid hL; have HE2 := Lib.hid hE; have HB := Lib.hid hB; have HRS := Lib.hid hres; have HP2 := Lib.hid hP; have EFB := Lib.hid eFB
      clear hL hE hX hB hres hP hf2 hf3 hB4 hleft hws eFB hne HW4 hk
      go_upto_region 11 with fail
      have hz1 : (Tryd.prog.info? 50).map (·.size) = some (Pc l).length := by rw [Pc_length, hl13]; kernel_rfl
      refine wp_region_lit ?_
      refine load_v rfl _ _ rfl L rfl HL.out Tryd.underlying50 rfl hz1 ?_
      refine load_v rfl _ _ rfl (L + 1) rfl HE2.out Tryd.underlying50 rfl (by kernel_rfl) ?_
      clear hz1 HL HE2
      cases hd : decide (l = noneL)
      all_goals
        rw [hd] at hre HRS
        clear hd
        go_wp2_with (go_at_call 23; refine (HAK.out _ HP2.out).mono ?_; rintro e w1 ⟨rfl, rfl⟩)
        go_ret
        rw [← HRS.out]
        exact ⟨rfl, EFB.out ▸ HB.out⟩
end Go.Proofs.YtollaaooinoafaaDoor