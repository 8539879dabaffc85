/- The package frame's getOf: the frame of a kind that bytes tell. -/
import Derived.Test.YtollaaooinoafaaDoorTj
import Derived.Test.YtollaaooinoafaaDoorThi
import Derived.Test.YtollaaooinoafaaDoorKs
namespace Go.Proofs.YtollaaooinoafaaDoor
open Go.RowKit Go.Sort
set_option maxRecDepth 100000
def zeroFr : Fr := ⟨0, 0, 0, 0, ⟨#[]⟩, ⟨#[]⟩, 0, 0, ⟨#[]⟩, 0, 0, ⟨#[]⟩, []⟩
def gotF (o : Option Fr) : Fr := o.getD zeroFr
def gotE (o : Option Fr) : Int := if o.isSome then 0 else 4
theorem results_v2 {P : Program} {fn : Func} {p q : Tmp} {T : TypeId} (h : fn.results = #[.cell p T, .tmp q]) (tmps : Array Value) (w : World) (B : Nat) {t : TypeId} {l : List Value} {d : TypeDesc}
    (hp : tmps.getD p undef = .pointer (some ⟨B, 0, none⟩)) (hb : BlkV w B t l) (hu : P.underlying T = some d) (hd : d.isRow = true) (hi : (P.info? T).map (·.size) = some l.length) (v : Value) (hv : tmps.getD q undef = v) :
    (results fn tmps).run P w = .ok (.tuple #[.agg l.toArray, v]) w := by
  have hp' : tmps[p]?.getD undef = .pointer (some ⟨B, 0, none⟩) := by simpa using hp
  have hv' : tmps[q]?.getD undef = v := by simpa using hv
  have hl := run_loadVar_row (P := P) w B t T l.toArray (0, 0) d hb hu (by cases d <;> simp_all) (by rw [List.size_toArray]; exact hi)
  simp [results, h, hp', hv', asAddr, hl]
theorem okLen (s : List UInt8) (k : Nat) (hk : k < 3) (h : (unpackL s (fmK k)).2.2 = 0) : (unpackL s (fmK k)).1.length ≤ 40 := by
  match k, hk with
  | 0, _ =>
    obtain ⟨h1, h2⟩ := unpackL_shape s fmA fmA_nt h
    show (unpackL s fmA).1.length ≤ 40
    rw [rowA _ h1 h2]; exact (by decide : 12 ≤ 40)
  | 1, _ =>
    obtain ⟨h1, h2⟩ := unpackL_shape s fmB fmB_nt h
    show (unpackL s fmB).1.length ≤ 40
    rw [rowB _ h1 h2]; exact (by decide : 8 ≤ 40)
  | 2, _ =>
    obtain ⟨ts, hts, e⟩ := rowC s h
    show (unpackL s fmC).1.length ≤ 40
    rw [e]; simp; omega
def FillRel (W2 : World) (M : Nat) (l : List Pt) (ws : List Nat) (i : Value) (wr : World) : Prop :=
  ∃ (k : Nat) (r : List Pt), k ≤ ws.length ∧ i = .int .i64 (k : Int) ∧ r.length = 13 ∧ BlkV wr M 50 (Pc r) ∧ fillW r (ws.drop k) (l.drop k) = fillW blank ws l ∧ Below W2.heap.size W2 wr
def ToldRel (W2 : World) (M : Nat) (r : List Pt) (rest : List Pt) (o i : Value) (wr : World) : Prop :=
  ∃ j : Nat, j ≤ rest.length ∧ i = .int .i64 (j : Int) ∧ OwnS wr W2.heap.size o ((rest.take j).map (·.s)) ∧ BlkV wr M 50 (Pc r) ∧ Below W2.heap.size W2 wr
theorem fill_step (r : List Pt) (ws : List Nat) (l : List Pt) (k : Nat) (h : k < ws.length) : fillW r (ws.drop k) (l.drop k) = fillW (r.set (ws.getD k 0) (l.getD k p0)) (ws.drop (k + 1)) (l.drop (k + 1)) := by
  have e : ws.getD k 0 = ws[k] := by simp [List.getD, h]
  have e2 : (l.drop k).getD 0 p0 = l.getD k p0 := by simp [List.getD, List.getElem?_drop]
  rw [List.drop_eq_getElem_cons h, fillW, ← e, e2, List.drop_drop]
/-- what is no row of texts stands as it was -/
theorem OwnS.keepsT {w w' : World} {base : Nat} {v : Value} {l : List ByteArray} (h : OwnS w base v l) (hg : w.grownBy w' v.ownBlock) (k : Nat) (cs : Array Value) (t : TypeId) (fr : Nat × Nat) (h1 : w.heap[k]? = some (.cells cs t fr)) (h2 : t ≠ 9) : w'.heap[k]? = some (.cells cs t fr) := by
  rw [hg.block k (Array.getElem?_eq_some_iff.1 h1).1 ?_]
  · exact h1
  · intro e
    rcases h.2 with ⟨rfl, -⟩ | ⟨g, cap, cur, rfl, -, hc, -⟩
    · cases e
    · cases e
      rw [h1] at hc
      cases hc
      exact h2 rfl
theorem OwnS.ssl {w : World} {base : Nat} {v : Value} {l : List ByteArray} (h : OwnS w base v l) : ∃ (a : Option Addr) (c : Nat), v = .slice a l.length c ∧ l.length ≤ c ∧ (∀ b off : Nat, a = some ⟨b, off, none⟩ → base ≤ b) ∧ SSl w a l := by
  rcases h.2 with ⟨rfl, h0⟩ | ⟨g, cap, cur, rfl, hg, hc, hcap, -⟩
  · refine ⟨none, 0, by rw [h0], by omega, fun b off e => by (cases e), fun hp => ?_⟩
    omega
  · refine ⟨some ⟨g, 0, none⟩, cap, rfl, hcap, fun b off e => by (cases e; exact hg), fun _ => ⟨g, 0, rfl, (Array.getElem?_eq_some_iff.1 hc).1, fun i hi => ?_⟩⟩
    have := World.ownsRow.cellAt h i (by omega)
    rw [Nat.zero_add, this]
    simp [Sv, List.getD, hi]
theorem SSl.farB {w : World} {a : Option Addr} {l : List ByteArray} (h : SSl w a l) (B o : Nat) (vs : List Value) (hne : ∀ b off : Nat, a = some ⟨b, off, none⟩ → b ≠ B) : SSl (w.setCells B o vs) a l := by
  intro h0
  obtain ⟨b, off, ha, hlt, hc⟩ := h h0
  have hb := hne b off ha
  have hk : (w.setCells B o vs).heap[b]? = w.heap[b]? := heap_setCells_other B b hb vs o w
  have hcell : ∀ i, (w.setCells B o vs).cell? ⟨b, i, none⟩ = w.cell? ⟨b, i, none⟩ := fun i => by unfold World.cell?; simp only; rw [hk]
  refine ⟨b, off, ha, ?_, fun i hi => by rw [hcell]; exact hc i hi⟩
  have := World.block_lt_of_cell? (w.setCells B o vs) ⟨b, off + 0, none⟩ (by rw [hcell]; exact hc 0 h0)
  exact this
theorem zeroL_one : ∀ v ∈ zeroL, v.oneCell' = true := by
  intro v hv; simp only [zeroL, List.mem_cons, List.not_mem_nil, or_false] at hv; rcases hv with rfl | rfl | rfl | rfl | rfl | rfl | rfl | rfl | rfl | rfl | rfl | rfl | rfl <;> rfl
theorem PSl.drop {w : World} {b off : Nat} {l : List Pt} (h : PSl w (some ⟨b, off, none⟩) l) (n : Nat) : PSl w (some ⟨b, off + n * 3, none⟩) (l.drop n) := by
  intro h0
  rw [List.length_drop] at h0
  obtain ⟨b', off', ha, hlt, hc⟩ := h (by omega)
  simp only [Option.some.injEq, Addr.mk.injEq, and_true] at ha
  obtain ⟨rfl, rfl⟩ := ha
  refine ⟨b, off + n * 3, rfl, hlt, fun i hi => ?_⟩
  rw [List.length_drop] at hi
  have e : (l.drop n).getD i p0 = l.getD (n + i) p0 := by simp [List.getD, List.getElem?_drop]
  rw [e, show off + n * 3 + i * 3 = off + (n + i) * 3 by omega]
  exact hc (n + i) (by omega)
theorem slice_ps (wA : World) (b off : Nat) (l : List Pt) (c n : Nat) (hn : n ≤ l.length) (hlc : l.length ≤ c) (h : PSl wA (some ⟨b, off, none⟩) l) :
    ∃ (a5 : Option Addr) (c5 : Nat), (∀ W : World, (Instr.slice 42 (.slice (some ⟨b, off, none⟩) l.length c) (some (.int .i64 (n : Int))) none none).run Tryd.prog W = .ok (.slice a5 (l.drop n).length c5) W) ∧ PSl wA a5 (l.drop n) ∧ (∀ b' off' : Nat, a5 = some ⟨b', off', none⟩ → b' = b) := by
  have h1 : (n : Int) ≤ (l.length : Int) := by omega
  have h2 : (l.length : Int) ≤ (c : Int) := by omega
  have h3 : (n : Int) ≤ (c : Int) := by omega
  by_cases hcn : c = n
  · have hl0 : l.length = n := by omega
    refine ⟨some ⟨b, off, none⟩, 0, fun W => ?_, fun h0 => by rw [List.length_drop] at h0; omega, fun b' off' e => by cases e; rfl⟩
    have e : (l.drop n).length = 0 := by rw [List.length_drop]; omega
    rw [e, hl0]
    subst hcn
    clear e h hl0 hlc hn h1 h2 h3
    go_simp
  · refine ⟨some ⟨b, off + n * 3, none⟩, c - n, fun W => ?_, h.drop n, fun b' off' e => by cases e; rfl⟩
    rw [List.length_drop]
    clear h hlc hn
    go_simp
set_option maxHeartbeats 4000000 in
theorem getOf_any (kn : Nat) (hkn3 : kn < 3) (s : ByteArray) (hs : s.size ≤ maxLen) (w : World) (hF : FmtAt w) :
    Calls Tryd.prog 30 #[.int .i64 (kn : Int), .string s] w fun e w' => ∃ (a : Option Addr) (c : Nat), e = .returned (.tuple #[frV (gotF (getK kn (bl s))) a c, .int .i64 (gotE (getK kn (bl s)))]) ∧ (gotF (getK kn (bl s))).keys.length ≤ c ∧ (∀ b off : Nat, a = some ⟨b, off, none⟩ → w.heap.size ≤ b) ∧ SSl w' a (gotF (getK kn (bl s))).keys ∧ Below w.heap.size w w' := by
  obtain ⟨W0, eW0⟩ : ∃ W0, w.alloc (.cells #[.int .i64 0, .int .u64 0, .int .u64 0, .int .u64 0, .string ⟨#[]⟩, .string ⟨#[]⟩, .int .u64 0, .int .u64 0, .string ⟨#[]⟩, .int .u64 0, .int .u64 0, .string ⟨#[]⟩, .slice none 0 0] 25) = W0 := ⟨_, rfl⟩
  have hB0 : Below w.heap.size w W0 := by rw [← eW0]; exact (Below.refl _ _).alloc (Nat.le_refl _) _
  have hR0 : BlkV W0 w.heap.size 25 zeroL := by rw [← eW0]; exact BlkV.fresh _ _ _ _ rfl _ rfl
  have hwk := wireKinds_any kn hkn3 W0 (hF.on hB0)
  have hun := fun W => Unpack_any s (strL (fmK kn)) hs (by rw [strL_size]; unfold fmK; split <;> decide) W
  rw [bl_strL] at hun
  have hok := okK (bl s) kn hkn3
  have hol := okLen (bl s) kn hkn3
  obtain ⟨ans, eans⟩ : ∃ ans, getK kn (bl s) = ans := ⟨_, rfl⟩
  rw [eans]
  unfold getK at eans
  obtain ⟨U, eU⟩ : ∃ U, unpackL (bl s) (fmK kn) = U := ⟨_, rfl⟩
  rw [eU] at hun hok hol eans
  obtain ⟨l, pl, wh⟩ := U
  simp only at hun hok hol eans
  obtain ⟨KS, eKS⟩ : ∃ KS, strL (fmK kn) = KS := ⟨_, rfl⟩
  rw [eKS] at hwk hun
  have hk3 : (kn : Int) < 3 := by omega
  have HEW := Lib.hid eW0; have HB0 := Lib.hid hB0; have HR0 := Lib.hid hR0; have HWK := Lib.hid hwk; have HUN := Lib.hid hun; have HOK := Lib.hid (And.intro hok hol); have HANS := Lib.hid eans; have HF := Lib.hid hF
  clear eW0 hB0 hR0 hwk hun hok hol eans eU eKS hF hs
  go_enter Tryd.func30, Tryd.ntmps30
  go_upto_region 1 with fail
  change Code.wp Tryd.prog _ _ _ (w.alloc (.cells #[.int .i64 0, .int .u64 0, .int .u64 0, .int .u64 0, .string ⟨#[]⟩, .string ⟨#[]⟩, .int .u64 0, .int .u64 0, .string ⟨#[]⟩, .int .u64 0, .int .u64 0, .string ⟨#[]⟩, .slice none 0 0] 25))
  rw [HEW.out]
  go_wp2_with fail
  refine HWK.out.mono ?_
  rintro e w1 ⟨rfl, hb1⟩
  have HB1 := Lib.hid (HB0.out.trans (hb1.mono HB0.out.size)); have HR1 := Lib.hid (HR0.out.on hb1)
  clear hb1 HEW HB0 HR0 HWK
  go_wp2_with fail
  refine (HUN.out _).mono ?_
  rintro e W2 ⟨a, c, rfl, hlc, hps, hb2⟩
  have HB2 := Lib.hid (HB1.out.trans (hb2.mono HB1.out.size)); have HR2 := Lib.hid (HR1.out.on hb2); have HPS := Lib.hid hps; have HLC := Lib.hid hlc
  clear hb2 HB1 HR1 HUN hps hlc
  by_cases hw : wh = 0
  case neg =>
    have hans := HANS.out
    rw [if_neg hw] at hans
    subst hans
    have hw9 : ((wh : Int) == 0) = false := by rw [beq_eq_false_iff_ne]; omega
    have hw8 : ¬ (wh : Int) = 0 := by omega
    clear HANS HOK hw
    go_upto_region 3 with fail
    clear hw9 hw8
    refine wp_region_lit ?_
    iterate 1 (refine wpList_step (fun K hK => ?_); go_simp; refine hK _ _ ?_; clear hK K)
    refine store_v rfl rfl _ _ _ rfl w.heap.size rfl (l' := zeroL) rfl HR2.out rfl (by intro v hv; simp only [zeroL, List.mem_cons, List.not_mem_nil, or_false] at hv; rcases hv with rfl | rfl | rfl | rfl | rfl | rfl | rfl | rfl | rfl | rfl | rfl | rfl | rfl <;> rfl) (by kernel_rfl) ?_
    have hF2 := HR2.out.stored zeroL rfl
    have hBF := below_setCells (Nat.le_refl w.heap.size) zeroL 0 _ HB2.out
    generalize World.setCells W2 _ _ _ = W at hF2 hBF ⊢
    have HF2 := Lib.hid hF2; have HBF := Lib.hid hBF
    clear hF2 hBF HB2 HR2
    go_wp2_with fail
    refine bodyPost_ret (results_v2 (p := 4) (q := 5) (T := 25) (by kernel_rfl) _ _ w.heap.size rfl HF2.out Tryd.underlying25 rfl (by kernel_rfl) _ rfl) rfl ?_
    exact ⟨none, 0, rfl, Nat.le_refl _, fun b off e => (by cases e), fun h => absurd h (Nat.lt_irrefl 0), HBF.out⟩
  case pos =>
    subst hw
    have hans := HANS.out
    clear HANS
    rw [if_pos (show (0 : Nat) = 0 from rfl)] at hans
    obtain ⟨-, hlen, -⟩ := HOK.out.1 rfl
    have HOL := Lib.hid (HOK.out.2 rfl)
    have HANS := Lib.hid hans
    clear hans HOK
    obtain ⟨fb, fo, fcap, hf0, hf2⟩ := (HF.out.on HB2.out) kn hkn3
    have hf3 := fmt_get kn
    have hws := fmt_len kn
    unfold frameK at HANS
    obtain ⟨ws, ews⟩ : ∃ ws, fmtL kn = ws := ⟨_, rfl⟩
    rw [ews] at HANS hlen hf0 hf2 hf3 hws
    have HW := Lib.hid (And.intro hf2 (And.intro hf3 (And.intro hws hlen)))
    clear hf2 hf3 hws hlen ews
    obtain ⟨M, eM⟩ : ∃ M, W2.heap.size = M := ⟨_, rfl⟩
    have hlt : w.heap.size < M := by rw [← eM]; exact HR2.out.lt
    obtain ⟨W3, eW3⟩ : ∃ W3, W2.alloc (.cells blankC 50) = W3 := ⟨_, rfl⟩
    have hv3 : Below W2.heap.size W2 W3 := by rw [← eW3]; exact (Below.refl _ _).alloc (Nat.le_refl _) _
    have hM3 : BlkV W3 M 50 (Pc blank) := by rw [← eW3]; exact BlkV.fresh _ _ _ _ blankC_eq _ eM.symm
    have hf1 : W3.cell? ⟨0, kn, none⟩ = _ := (hv3.cell (p := ⟨0, kn, none⟩) (World.block_lt_of_cell? W2 _ hf0)).trans hf0
    have HV := Lib.hid (And.intro hv3 (And.intro hM3 (And.intro eM hlt))); have HE3 := Lib.hid eW3
    have HF0 := Lib.hid hf0
    clear hv3 hM3 eM hlt eW3 hf0
    go_upto_region 5 with fail
    change Code.wp Tryd.prog _ _ _ (W2.alloc (.cells blankC 50))
    rw [HE3.out, HV.out.2.2.1]
    clear HE3
    go_upto_region 6 with fail
    clear hf1 hk3
    go_loopw [31] (FillRel W2 M l ws) (fun i _ => ws.length - (intOf i).toNat)
    case atStart => exact ⟨0, blank, Nat.zero_le _, rfl, rfl, HV.out.2.1, rfl, HV.out.1⟩
    case round =>
      obtain ⟨k, r, hk, rfl, hr13, hM, hfill, hB⟩ := hrel
      obtain ⟨hf2, hf3, hws, hlen⟩ := HW.out
      by_cases hlt : k < ws.length
      · have h1 : (k : Int) < (ws.length : Int) := by omega
        have h1k : (k : Int) < 100 := by omega
        have h1l : (k : Int) < (l.length : Int) := by omega
        obtain ⟨q, eq⟩ : ∃ q, ws.getD k 0 = q := ⟨_, rfl⟩
        have hq := hf3 k hlt
        have hcell : wr.cell? ⟨fb, fo + k, none⟩ = _ := (hB.cell (p := ⟨fb, fo + k, none⟩) (World.block_lt_of_cell? W2 _ (hf2 k hlt))).trans (hf2 k hlt)
        have hst := fill_step r ws l k hlt
        rw [eq] at hq hcell hst
        rw [hfill] at hst
        obtain ⟨b, off, rfl, hbl, hc⟩ := (HPS.out.on hB) (by omega)
        have hpt := hc k (by omega)
        obtain ⟨p, ep⟩ : ∃ p, l.getD k p0 = p := ⟨_, rfl⟩
        rw [ep] at hpt hst
        obtain ⟨c0, c1, c2⟩ := hpt
        have hq13 : (q : Int) < 13 := by omega
        have hsz := hB.size
        have hqr : q < r.length := by omega
        have hM6 := hM.setP q hqr p
        have hB6 := below_setCells (show W2.heap.size ≤ M by have := HV.out.2.2.1; omega) (pcs p) (q * 3) _ hB
        have hth := hM.thereP q hqr
        have HH := Lib.hid (And.intro hst.symm (And.intro hM6 (And.intro hB6 hth)))
        clear hM hB hfill hst hM6 hB6 hth hf2 hf3 hws hlen eq ep hk hc hbl hsz hqr
        go_upto_region 8 with fail
        refine wp_region_lit ?_
        iterate 6 (refine wpList_step (fun K hK => ?_); go_simp; refine hK _ _ ?_; clear hK K)
        refine wpList_store_mid rfl 48 _ _ rfl M (q * 3) (pcs p).toArray rfl rfl HH.out.2.2.2 (by kernel_rfl) (all_oneCell_toArray (pcs_one _)) ?_
        refine wpList_nil ?_
        obtain ⟨hst, hM6, hB6, -⟩ := HH.out
        rename_i K hK
        refine hK _ _ ?_
        clear hK K
        change Code.wp Tryd.prog _ _ _ (wr.setCells M (q * 3) (pcs p))
        generalize wr.setCells M (q * 3) (pcs p) = W6 at hM6 hB6 ⊢
        have HR := Lib.hid (And.intro hM6 (And.intro hst hB6))
        clear hst hM6 hB6 HH c0 c1 c2 hcell
        go_wp2_with fail
        exact ⟨⟨k + 1, _, by omega, by simp, by rw [List.length_set]; exact hr13, HR.out.1, HR.out.2.1, HR.out.2.2⟩, by simp [intOf]; omega⟩
      · obtain rfl : k = ws.length := by omega
        have hn : ¬ (ws.length : Int) < (ws.length : Int) := by omega
        rw [List.drop_length, fillW] at hfill
        have hl9 : (ws.length : Int) ≤ (l.length : Int) := by omega
        have hc9 : (l.length : Int) ≤ (c : Int) := by have := HLC.out; omega
        obtain ⟨b, off, rfl, hbl, hc⟩ := (HPS.out) (by omega)
        have HM := Lib.hid hM; have HB := Lib.hid hB; have HFL := Lib.hid hfill
        have hf1 : wr.cell? ⟨0, kn, none⟩ = _ := (hB.cell (p := ⟨0, kn, none⟩) (World.block_lt_of_cell? W2 _ HF0.out)).trans HF0.out
        have hk3 : (kn : Int) < 3 := by omega
        have hln : ws.length ≤ l.length := by omega
        obtain ⟨a5, c5, hsl, hp5, -⟩ := slice_ps W2 b off l c ws.length hln HLC.out HPS.out
        obtain ⟨rest, erest⟩ : ∃ rest, l.drop ws.length = rest := ⟨_, rfl⟩
        rw [erest] at hsl hp5
        have HP5 := Lib.hid hp5; have HER := Lib.hid erest
        clear hM hB hfill hf2 hf3 hws hlen hbl hc hk hp5 erest hl9 hc9 hln
        go_upto_region 12 with fail
        clear hf1 hk3 hsl
        have hrl : rest.length ≤ 40 := by rw [← HER.out, List.length_drop]; have := HOL.out; omega
        have HRL := Lib.hid hrl
        clear hrl
        go_loopw [12, 50] (ToldRel W2 M r rest) (fun _ i _ => rest.length - (intOf i).toNat)
        case atStart => exact ⟨0, Nat.zero_le _, rfl, ⟨rfl, .inl ⟨rfl, rfl⟩⟩, HM.out, HB.out⟩
        case round =>
          clear HM HB
          obtain ⟨j, hj, rfl, hO, hM, hB⟩ := hrel
          by_cases hlj : j < rest.length
          · have h1 : (j : Int) < (rest.length : Int) := by omega
            have h1k : (j : Int) < 1000 := by have := HRL.out; omega
            obtain ⟨b5, off5, rfl, hbl, hc⟩ := (HP5.out.on hB) (by omega)
            have hpt := hc j hlj
            have hst : (rest.take (j + 1)).map (·.s) = (rest.take j).map (·.s) ++ [(rest.getD j p0).s] := by
              have e : rest.getD j p0 = rest[j] := by simp [List.getD, hlj]
              rw [e, List.take_succ_eq_append_getElem hlj, List.map_append]; rfl
            obtain ⟨p, ep⟩ : ∃ p, rest.getD j p0 = p := ⟨_, rfl⟩
            rw [ep] at hpt hst
            obtain ⟨c0, c1, c2⟩ := hpt
            obtain ⟨acc, eacc⟩ : ∃ acc, (rest.take j).map (·.s) = acc := ⟨_, rfl⟩
            have hkl : acc.length ≤ 40 := by rw [← eacc, List.length_map, List.length_take]; have := HRL.out; omega
            rw [eacc] at hO hst
            have hv : Below wr.heap.size wr (wr.alloc (.cells #[.bool p.text, .int .u64 (p.n : Int), .string p.s] 48)) := (Below.refl _ _).alloc (Nat.le_refl _) _
            have hPA := PtAt.fresh wr p 48
            have hO2 := hO.on hv
            have hM2 := hM.on hv
            have hB2 := hB.trans (hv.mono hB.size)
            have hsz := hB.size
            have HO := Lib.hid hO2; have HM := Lib.hid hM2; have HB := Lib.hid hB2; have HPA := Lib.hid hPA; have HST := Lib.hid (And.intro hst hkl)
            clear hO hM hB hO2 hM2 hB2 hPA hv hst hkl hsz eacc ep hc hbl hj
            go_upto_region 14 with fail
            clear c0 c1 c2
            generalize World.alloc wr _ = V at HO HM HB HPA ⊢
            obtain ⟨c0, c1, c2⟩ := HPA.out
            simp only [Nat.zero_add] at c1 c2
            have hv : Below V.heap.size V (V.alloc (.cells #[.string p.s] 9)) := (Below.refl _ _).alloc (Nat.le_refl _) _
            have hcs : (V.alloc (.cells #[.string p.s] 9)).cell? ⟨V.heap.size, 0, none⟩ = some (.string p.s) := by rw [cell_of_row _ _ _ _ _ _ (heap_alloc_new _ _)]; rfl
            have hO3 := HO.out.on hv
            have hM3 := HM.out.on hv
            have hB3 := HB.out.trans (hv.mono HB.out.size)
            have hs3 : W2.heap.size ≤ (V.alloc (.cells #[.string p.s] 9)).heap.size := hB3.size
            have HO3 := Lib.hid hO3; have HM3 := Lib.hid hM3; have HB3 := Lib.hid hB3; have HCS := Lib.hid (And.intro hcs hs3)
            clear hv hcs hO3 hM3 hB3 hs3 HO HM HB HPA
            go_wp2_with (at_builtin; refine append_s rfl _ _ rfl W2.heap.size _ _ p.s V.heap.size rfl HO3.out rfl HCS.out.1 (by have := HST.out.2; omega) HCS.out.2 ?_)
            intro g' cap' w6 hO4 hg
            have hB4 := HB3.out.grown hg HCS.out.2 (fun i hi => (World.ownsRow.lt HO3.out i hi).1)
            have hM4 : BlkV w6 M 50 (Pc r) := HO3.out.keepsT hg M _ _ _ HM3.out (by decide)
            have hl : acc.length + 1 = (acc ++ [p.s]).length := by simp
            rw [← HST.out.1] at hO4 hl
            have HO4 := Lib.hid hO4; have HB4 := Lib.hid hB4; have HM4 := Lib.hid hM4
            clear hO4 hB4 hM4 hg HO3 HM3 HB3 HCS HST c0 c1 c2
            go_wp2_with fail
            exact ⟨⟨j + 1, by omega, by simp, HO4.out, HM4.out, HB4.out⟩, by simp [intOf]; omega⟩
          · obtain rfl : j = rest.length := by omega
            have hnj : ¬ (rest.length : Int) < (rest.length : Int) := by omega
            rw [List.take_length] at hO
            have HO := Lib.hid hO; have HM := Lib.hid hM; have HB := Lib.hid hB
            clear hO hM hB hj
            obtain ⟨a6, c6, rfl, hc6, hb6, hp6⟩ := HO.out.ssl
            obtain ⟨ks, eks⟩ : ∃ ks, rest.map (·.s) = ks := ⟨_, rfl⟩
            have hans := HANS.out
            rw [HER.out, eks, ← HFL.out] at hans
            rw [eks] at hc6 hp6 ⊢
            have hkl : ks.length ≤ 40 := by rw [← eks, List.length_map]; exact HRL.out
            have hrf := fun W => rowFrame_any r hr13 ks a6 c6 W
            obtain ⟨F, eF⟩ : ∃ F, frameR r ks = F := ⟨_, rfl⟩
            rw [eF] at hrf hans
            have hFk : F.keys = ks := by rw [← eF]; rfl
            have hBw := HB2.out.trans (HB.out.mono HB2.out.size)
            have hRB := HR2.out.on HB.out
            have HP6 := Lib.hid hp6; have HBB := Lib.hid hb6; have HLW := Lib.hid HR2.out.lt; have HRF := Lib.hid hrf; have HANS2 := Lib.hid hans; have HBW := Lib.hid hBw; have HRB := Lib.hid hRB; have HKL := Lib.hid (And.intro hkl (And.intro hFk (And.intro hc6 hr13)))
            clear hb6 hp6 hrf hans hBw hRB hkl hFk eF eks HO HANS HFL HER HRL HOL HW HF0 HB2 HR2 HB HV HP5 HPS HLC hc6
            go_upto_region 16 with fail
            refine wp_region_lit ?_
            refine load_v rfl _ _ rfl M rfl HM.out Tryd.underlying50 rfl (by rw [Pc_length, HKL.out.2.2.2]; kernel_rfl) ?_
            iterate 1 (refine wpList_step (fun K hK => ?_); go_simp; refine hK _ _ ?_; clear hK K)
            refine wpList_step (fun K hK => ?_)
            go_simp
            refine (HRF.out _).mono ?_
            rintro e W4 ⟨rfl, hb4⟩
            refine hK _ _ ?_
            clear hK K
            have hB4 := HBW.out.trans (hb4.mono HBW.out.size)
            have hR4 := HRB.out.on hb4
            have hP4 := HP6.out.on hb4
            obtain ⟨D, eD⟩ : ∃ D, W4.heap.size = D := ⟨_, rfl⟩
            obtain ⟨W5, eW5⟩ : ∃ W5, W4.alloc (.cells zeroL.toArray 25) = W5 := ⟨_, rfl⟩
            have hv5 : Below W4.heap.size W4 W5 := by rw [← eW5]; exact (Below.refl _ _).alloc (Nat.le_refl _) _
            have hD5 : BlkV W5 D 25 zeroL := by rw [← eW5]; exact BlkV.fresh _ _ _ _ rfl _ eD.symm
            have hlt : w.heap.size < D := by rw [← eD]; exact hR4.lt
            have hB5 := hB4.trans (hv5.mono hB4.size)
            have hR5 := hR4.on hv5
            have HE5 := Lib.hid (And.intro eW5 eD); have HD5 := Lib.hid hD5; have HB5 := Lib.hid hB5; have HR5 := Lib.hid hR5; have HP4 := Lib.hid (And.intro hP4 hv5); have HLT := Lib.hid hlt
            clear hB4 hR4 hP4 eW5 eD hv5 hD5 hlt hB5 hR5 hb4 HP6 HRF HBW HRB HM
            iterate 1 (refine wpList_step (fun K hK => ?_); go_simp; refine hK _ _ ?_; clear hK K)
            change wpList Tryd.prog _ _ _ _ (W4.alloc (.cells zeroL.toArray 25))
            rw [HE5.out.1, HE5.out.2]
            refine store_v rfl rfl _ _ _ rfl D rfl (l' := frL F a6 c6) rfl HD5.out rfl (frL_one F a6 c6) (by kernel_rfl) ?_
            refine wpList_nil ?_
            have hD6 := HD5.out.stored (frL F a6 c6) rfl
            have hR6 := HR5.out.farS (show w.heap.size ≠ D by have := HLT.out; omega) (frL F a6 c6)
            have hB6 := below_setCells (show w.heap.size ≤ D by have := HLT.out; omega) (frL F a6 c6) 0 _ HB5.out
            have hP6 := HP4.out.1.on (below_setCells (show W4.heap.size ≤ D by rw [HE5.out.2]; exact Nat.le_refl _) (frL F a6 c6) 0 _ HP4.out.2)
            generalize World.setCells W5 _ _ _ = W6 at hD6 hR6 hB6 hP6 ⊢
            have hl9 : ks.length ≤ maxLen := by have := HKL.out.1; unfold maxLen; omega
            have hrt := fRight_any F a6 c6 (by rw [HKL.out.2.1]; exact hl9) W6 (by rw [HKL.out.2.1]; exact hP6) (HF.out.on hB6)
            have hfv : frV F a6 c6 = .agg (frL F a6 c6).toArray := rfl
            rw [hfv] at hrt
            have HD6 := Lib.hid hD6; have HR6 := Lib.hid hR6; have HB6 := Lib.hid hB6; have HP6 := Lib.hid hP6; have HRT := Lib.hid hrt
            clear hD6 hR6 hB6 hP6 hrt hfv hl9 HD5 HB5 HR5 HP4 HE5
            rename_i K hK
            refine hK _ _ ?_
            clear hK K
            go_upto_region 17 with fail
            refine wp_region_lit ?_
            refine load_v rfl _ _ rfl D rfl HD6.out Tryd.underlying25 rfl (by kernel_rfl) ?_
            go_wp2_with fail
            refine HRT.out.mono ?_
            rintro e W7 ⟨rfl, hb7⟩
            have HD7 := Lib.hid (HD6.out.on hb7); have HR7 := Lib.hid (HR6.out.on hb7); have HB7 := Lib.hid (HB6.out.trans (hb7.mono HB6.out.size)); have HP7 := Lib.hid (HP6.out.on hb7)
            clear hb7 HD6 HR6 HB6 HP6 HRT
            cases hrf : rightF F
            · have hans := HANS2.out
              rw [hrf, if_neg (by decide)] at hans
              subst hans
              clear hrf HD7 HP7 HANS2
              go_upto_region 18 with fail
              refine wp_region_lit ?_
              iterate 1 (refine wpList_step (fun K hK => ?_); go_simp; refine hK _ _ ?_; clear hK K)
              refine store_v rfl rfl _ _ _ rfl w.heap.size rfl (l' := zeroL) rfl HR7.out rfl zeroL_one (by kernel_rfl) ?_
              have hF2 := HR7.out.stored zeroL rfl
              have hBF := below_setCells (Nat.le_refl w.heap.size) zeroL 0 _ HB7.out
              generalize World.setCells W7 _ _ _ = W at hF2 hBF ⊢
              have HF2 := Lib.hid hF2; have HBF := Lib.hid hBF
              clear hF2 hBF HB7 HR7
              go_wp2_with fail
              refine bodyPost_ret (results_v2 (p := 4) (q := 5) (T := 25) (by kernel_rfl) _ _ w.heap.size rfl HF2.out Tryd.underlying25 rfl (by kernel_rfl) _ rfl) rfl ?_
              exact ⟨none, 0, rfl, Nat.le_refl _, fun b off e => (by cases e), fun h => absurd h (Nat.lt_irrefl 0), HBF.out⟩
            · have hans := HANS2.out
              rw [hrf, if_pos rfl] at hans
              subst hans
              clear hrf HANS2
              go_upto_region 19 with fail
              refine wp_region_lit ?_
              refine load_v rfl _ _ rfl D rfl HD7.out Tryd.underlying25 rfl (by kernel_rfl) ?_
              refine store_v rfl rfl _ _ _ rfl w.heap.size rfl (l' := frL F a6 c6) rfl HR7.out rfl (frL_one F a6 c6) (by kernel_rfl) ?_
              have hF2 := HR7.out.stored (frL F a6 c6) rfl
              have hBF := below_setCells (Nat.le_refl w.heap.size) (frL F a6 c6) 0 _ HB7.out
              have hP9 := HP7.out.farB w.heap.size 0 (frL F a6 c6) (fun b off e => by have := HBB.out b off e; have := HLW.out; omega)
              generalize World.setCells W7 _ _ _ = W at hF2 hBF hP9 ⊢
              have HF2 := Lib.hid hF2; have HBF := Lib.hid hBF; have HP9 := Lib.hid hP9
              clear hF2 hBF hP9 HB7 HR7 HP7 HD7
              go_wp2_with fail
              refine bodyPost_ret (results_v2 (p := 4) (q := 5) (T := 25) (by kernel_rfl) _ _ w.heap.size rfl HF2.out Tryd.underlying25 rfl (by kernel_rfl) _ rfl) rfl ?_
              refine ⟨a6, c6, rfl, ?_, fun b off e => by have := HBB.out b off e; have := HLW.out; omega, ?_, HBF.out⟩
              · show F.keys.length ≤ c6
                rw [HKL.out.2.1]; exact HKL.out.2.2.1
              · show SSl W a6 F.keys
                rw [HKL.out.2.1]; exact HP9.out
end Go.Proofs.YtollaaooinoafaaDoor