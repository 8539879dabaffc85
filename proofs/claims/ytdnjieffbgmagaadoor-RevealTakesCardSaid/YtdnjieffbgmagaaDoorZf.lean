/- The package reveal's Frame; the law's few and alive. -/
import Derived.Test.YtdnjieffbgmagaaDoorZa
import Derived.Test.YtdnjieffbgmagaaDoorZe
import Derived.Test.YtdnjieffbgmagaaDoorBRg2
import Derived.Test.YtdnjieffbgmagaaDoorBg14
import Derived.BigQuiet
namespace Go.Proofs.YtdnjieffbgmagaaDoor
open Go.RowKit Go.Sort
set_option maxRecDepth 100000

/-- a fresh block, stored whole -/
theorem newBlk (w : World) (t : TypeId) (l0 l : List Value) (hl : l.length = l0.length) : BlkV (w.alloc (.cells l0.toArray t)) w.heap.size t l0 ∧ BlkV ((w.alloc (.cells l0.toArray t)).setCells w.heap.size 0 l) w.heap.size t l ∧ Below w.heap.size w ((w.alloc (.cells l0.toArray t)).setCells w.heap.size 0 l) := by
  have h : BlkV (w.alloc (.cells l0.toArray t)) w.heap.size t l0 := BlkV.fresh _ _ _ _ rfl _ rfl
  exact ⟨h, h.stored l hl, below_setCells (Nat.le_refl _) _ _ _ ((Below.refl _ _).alloc (Nat.le_refl _) _)⟩
/-- the frame that tells keys -/
def revF (x y z : Nat) (l : List ByteArray) : Fr := ⟨2, x, y, z, ⟨#[]⟩, ⟨#[]⟩, 0, 0, ⟨#[]⟩, 0, 0, ⟨#[]⟩, l⟩
def frZ : Fr := ⟨0, 0, 0, 0, ⟨#[]⟩, ⟨#[]⟩, 0, 0, ⟨#[]⟩, 0, 0, ⟨#[]⟩, []⟩
def zeroZ : List Value := frL frZ none 0
theorem frL_oneZ (f : Fr) (a : Option Addr) (c : Nat) : ∀ v ∈ frL f a c, v.oneCell' = true := by
  intro v hv
  simp only [frL, List.mem_cons, List.not_mem_nil, or_false] at hv
  rcases hv with rfl | rfl | rfl | rfl | rfl | rfl | rfl | rfl | rfl | rfl | rfl | rfl | rfl <;> rfl
def FramePost (w : World) (x y z : Nat) (l : List ByteArray) (e : Ending) (w' : World) : Prop :=
  (rightF (revF x y z l) = true ∧ ∃ (a' : Option Addr) (c' : Nat), e = .returned (.tuple #[.agg (frL (revF x y z l) a' c').toArray, .int .i64 0]) ∧ Rd9 w' a' c' l ∧ Below w.heap.size w w') ∨
  (rightF (revF x y z l) = false ∧ e = .returned (.tuple #[.agg zeroZ.toArray, .int .i64 1]) ∧ Below w.heap.size w w')
set_option maxHeartbeats 8000000 in
theorem Frame_any (x y z : Nat) (a : Option Addr) (c : Nat) (l : List ByteArray) (hl : l.length ≤ 1000) (w : World) (hp : SSl w a l) (hF : FmtAt w) :
    Calls Tryd.prog 7 #[.int .u64 (x : Int), .int .u64 (y : Int), .int .u64 (z : Int), .slice a l.length c] w (FramePost w x y z l) := by
  obtain ⟨W1, e1⟩ : ∃ W1, w.alloc (.cells zeroZ.toArray 32) = W1 := ⟨_, rfl⟩
  obtain ⟨W2, e2⟩ : ∃ W2, W1.alloc (.cells zeroZ.toArray 32) = W2 := ⟨_, rfl⟩
  have z1 : W1.heap.size = w.heap.size + 1 := by rw [← e1]; simp
  have hb1 : Below w.heap.size w W1 := by rw [← e1]; exact (Below.refl _ _).alloc (Nat.le_refl _) _
  have hb2 : Below w.heap.size w W2 := by rw [← e2]; exact hb1.alloc hb1.size _
  have h0 : BlkV W2 w.heap.size 32 zeroZ := by rw [← e2, ← e1]; exact (BlkV.fresh _ _ _ _ rfl _ rfl).alloc _
  have h1 : BlkV W2 (w.heap.size + 1) 32 zeroZ := by rw [← e2]; exact BlkV.fresh _ _ _ _ rfl _ z1.symm
  obtain ⟨F, eF⟩ : ∃ F, revF x y z l = F := ⟨_, rfl⟩
  have hfk : F.keys = l := by rw [← eF]; rfl
  have hlist : frL F a c = [.int .i64 2, .int .u64 (x : Int), .int .u64 (y : Int), .int .u64 (z : Int), .string ⟨#[]⟩, .string ⟨#[]⟩, .int .u64 0, .int .u64 0, .string ⟨#[]⟩, .int .u64 0, .int .u64 0, .string ⟨#[]⟩, .slice a l.length c] := by rw [← eF]; rfl
  have hr := fun (W : World) (hW : Below w.heap.size w W) => fRight_any F a c (by rw [hfk]; unfold maxLen; omega) W (by rw [hfk]; exact hp.on hW) (hF.on hW)
  have hcl := fun (W : World) (hW : Below w.heap.size w W) => CloneS_any a c l hl W (hp.on hW)
  have ef : frV F a c = .agg (frL F a c).toArray := rfl
  rw [ef] at hr
  have HR := Lib.hid hr; have H0 := Lib.hid (And.intro h0 h1); have HB := Lib.hid hb2; have HE := Lib.hid (And.intro e1 (And.intro e2 z1)); have HC := Lib.hid hcl; have HF := Lib.hid (And.intro eF (And.intro hlist hfk))
  clear hr h0 h1 hb2 hb1 e1 e2 z1 hcl ef eF hfk hp hF hl hlist
  go_enter Tryd.func7, Tryd.ntmps7
  go_upto_region 1 with fail
  generalize hG : World.alloc w _ = G
  obtain rfl : W1 = G := by rw [← hG, ← HE.out.1]; rfl
  clear hG
  refine wp_region_lit ?_
  iterate 6 (refine wpList_step (fun K hK => ?_); go_simp; refine hK _ _ ?_; clear hK K)
  generalize hG : World.alloc W1 _ = G
  obtain rfl : W2 = G := by rw [← hG, ← HE.out.2.1]; rfl
  clear hG
  rw [HE.out.2.2]
  refine store_v rfl rfl _ _ _ rfl (w.heap.size + 1) rfl (l' := frL F a c) (by rw [HF.out.2.1]; rfl) H0.out.2 rfl (frL_oneZ _ _ _) (by kernel_rfl) ?_
  have hX := H0.out.2.stored (frL F a c) rfl
  have hZ := H0.out.1.farS (show w.heap.size ≠ w.heap.size + 1 by omega) (frL F a c)
  have hB := below_setCells (Nat.le_succ w.heap.size) (frL F a c) 0 _ HB.out
  generalize World.setCells _ _ _ _ = V at hX hZ hB ⊢
  have HX := Lib.hid (And.intro hX hZ); have HV := Lib.hid hB
  clear hX hZ hB HB H0 HE
  go_upto_region 2 with fail
  refine wp_region_lit ?_
  refine load_v rfl _ _ rfl (w.heap.size + 1) rfl HX.out.1 Tryd.underlying32 rfl (by kernel_rfl) ?_
  go_wp2_with fail
  refine (HR.out V HV.out).mono ?_
  rintro e w1 ⟨rfl, hb⟩
  have HX1 := Lib.hid (And.intro (HX.out.1.on hb) (HX.out.2.on hb))
  have HB1 := Lib.hid (HV.out.trans (hb.mono HV.out.size))
  clear hb HR HX HV
  by_cases hr : rightF F = true
  case neg =>
    have hrf : rightF F = false := by simpa using hr
    rw [hrf]
    have HW := Lib.hid hrf
    clear hr hrf
    go_upto_region 3 with fail
    refine wp_region_lit ?_
    iterate 1 (refine wpList_step (fun K hK => ?_); go_simp; refine hK _ _ ?_; clear hK K)
    refine store_v rfl rfl _ _ _ rfl w.heap.size rfl (l' := zeroZ) rfl HX1.out.2 rfl (frL_oneZ _ _ _) (by kernel_rfl) ?_
    have hF := HX1.out.2.stored zeroZ rfl
    have hBF := below_setCells (Nat.le_refl w.heap.size) zeroZ 0 _ HB1.out
    generalize World.setCells _ _ _ _ = W9 at hF hBF ⊢
    go_wp2_with fail
    refine bodyPost_ret (results_zt (p := 8) (q := 9) (T := 32) (by kernel_rfl) _ _ w.heap.size rfl hF Tryd.underlying32 rfl (by kernel_rfl) _ rfl) rfl ?_
    exact Or.inr ⟨by rw [HF.out.1]; exact HW.out, rfl, hBF⟩
  case pos =>
    rw [hr]
    have HW := Lib.hid hr
    clear hr
    go_upto_region 5 with (go_at_call 22; refine (HC.out w1 HB1.out).mono ?_; rintro e w2 ⟨v, rfl, hO, hb⟩; obtain ⟨a', c', rfl, hrd⟩ := hO.rd; have lo := ownS_lo hO (show w.heap.size + 1 < w1.heap.size from HX1.out.1.lt); have y12 := (HX1.out.1.on hb).frozen 12; have d12 := (HX1.out.1.on hb).cell 12 _ rfl)
    have hset : (frL F a c).set 12 (.slice a' l.length c') = frL F a' c' := by rw [← HF.out.2.2]; rfl
    have hX2 := (HX1.out.1.on hb).set 12 (.slice a' l.length c')
    rw [hset] at hX2
    have hZ2 := (HX1.out.2.on hb).far ⟨w.heap.size + 1, 12, none⟩ (show w.heap.size ≠ w.heap.size + 1 by omega) (.slice a' l.length c')
    have hB2 := (HB1.out.trans (hb.mono HB1.out.size)).setCell (p := ⟨w.heap.size + 1, 12, none⟩) (Nat.le_succ _) (.slice a' l.length c')
    have hfar : ∀ (g : Nat), w.heap.size + 1 < g → (((w2.setCell ⟨w.heap.size + 1, 12, none⟩ (.slice a' l.length c')).setCells w.heap.size 0 (frL F a' c')).heap[g]? = w2.heap[g]?) := fun g hg => by
      rw [heap_setCells_other w.heap.size g (by omega), heap_setCell_other _ ⟨w.heap.size + 1, 12, none⟩ g _ (show g ≠ w.heap.size + 1 by omega)]
    have hszz : w2.heap.size ≤ ((w2.setCell ⟨w.heap.size + 1, 12, none⟩ (.slice a' l.length c')).setCells w.heap.size 0 (frL F a' c')).heap.size := by rw [size_setCellsZ]; simp
    have q := hrd.ss.via hszz fun g off sp e => hfar g (lo g off sp e)
    have HQ := Lib.hid (show Rd9 _ a' c' l from ⟨q, hrd.cap, hrd.none⟩)
    clear q hfar hszz hrd hO lo y12 d12 hb hset HX1 HB1 HC
    generalize World.setCell w2 _ _ = V2 at hX2 hZ2 hB2 HQ ⊢
    have H2 := Lib.hid (And.intro hX2 (And.intro hZ2 hB2))
    clear hX2 hZ2 hB2
    refine wp_region_lit ?_
    refine load_v rfl _ _ rfl (w.heap.size + 1) rfl H2.out.1 Tryd.underlying32 rfl (by kernel_rfl) ?_
    refine store_v rfl rfl _ _ _ rfl w.heap.size rfl (l' := frL F a' c') rfl H2.out.2.1 rfl (frL_oneZ _ _ _) (by kernel_rfl) ?_
    have hF := H2.out.2.1.stored (frL F a' c') rfl
    have hBF := below_setCells (Nat.le_refl w.heap.size) (frL F a' c') 0 _ H2.out.2.2
    have hq := HQ.out
    clear HQ H2
    generalize World.setCells _ _ _ _ = W9 at hF hBF hq ⊢
    have HQ := Lib.hid hq
    clear hq
    go_wp2_with fail
    refine bodyPost_ret (results_zt (p := 8) (q := 9) (T := 32) (by kernel_rfl) _ _ w.heap.size rfl hF Tryd.underlying32 rfl (by kernel_rfl) _ rfl) rfl ?_
    exact Or.inl ⟨by rw [HF.out.1]; exact HW.out, a', c', by rw [HF.out.1]; rfl, HQ.out, hBF⟩
/-- a text of 32 bytes -/
def keyZ : ByteArray := ⟨#[48, 49, 50, 51, 52, 53, 54, 55, 56, 57, 97, 98, 99, 100, 101, 102, 48, 49, 50, 51, 52, 53, 54, 55, 56, 57, 97, 98, 99, 100, 101, 102]⟩
theorem rightZ : rightF (revF 1 2 3 [keyZ]) = true := by decide +kernel
set_option maxHeartbeats 4000000 in
theorem few14_any (a : Option Addr) (c : Nat) (l : List ByteArray) (hl : l.length ≤ maxLen) (hlc : l.length ≤ c) (w : World) :
    Calls Tryd.prog 5 #[.slice a l.length c] w fun e w' => e = .returned (.slice a (l.take 34).length c) ∧ w = w' := by
  obtain ⟨n, en⟩ : ∃ n, l.length = n := ⟨_, rfl⟩
  obtain ⟨m, em⟩ : ∃ m : Nat, min (n : Int) 34 = (m : Int) := ⟨min n 34, by omega⟩
  have hm : (l.take 34).length = m := by rw [List.length_take]; omega
  have h1 : (m : Int) ≤ (n : Int) := by omega
  have h2 : (m : Int) ≤ (c : Int) := by omega
  unfold maxLen at hl
  have hl' : n ≤ 9223372036854775807 := by omega
  rw [hm, en]
  clear hm en hl hlc
  go_enter Tryd.func5, Tryd.ntmps5
  go_wp2_with fail
  go_ret
  exact ⟨rfl, rfl⟩
set_option maxHeartbeats 4000000 in
theorem alive14_any (w : World) (hF : FmtAt w) :
    Calls Tryd.prog 10 #[] w fun e w' => e = .returned (.bool true) ∧ Below w.heap.size w w' := by
  obtain ⟨W1, e1⟩ : ∃ W1, w.alloc (.cells #[.string keyZ] 9) = W1 := ⟨_, rfl⟩
  have z1 : W1.heap.size = w.heap.size + 1 := by rw [← e1]; simp
  have hb1 : Below w.heap.size w W1 := by rw [← e1]; exact (Below.refl _ _).alloc (Nat.le_refl _) _
  have hs : SSl W1 (some ⟨w.heap.size, 0, none⟩) [keyZ] := fun _ => ⟨w.heap.size, 0, rfl, by omega, fun i hi => by
    obtain rfl : i = 0 := by simpa using hi
    rw [← e1]
    simp⟩
  have hfr := Frame_any 1 2 3 (some ⟨w.heap.size, 0, none⟩) 1 [keyZ] (by simp) W1 hs (hF.on hb1)
  have HFR := Lib.hid hfr; have HB := Lib.hid hb1; have HE := Lib.hid e1
  clear hfr hb1 e1 z1 hs hF
  go_enter Tryd.func10, Tryd.ntmps10
  go_upto_region 1 with fail
  refine wp_region_lit ?_
  iterate 1 (refine wpList_step (fun K hK => ?_); go_simp; refine hK _ _ ?_; clear hK K)
  generalize hG : World.alloc w _ = G
  obtain rfl : W1 = G := by rw [← hG, ← HE.out]; rfl
  clear hG HE
  go_wp2_with fail
  refine HFR.out.mono ?_
  rintro e w1 (⟨hr, a', c', rfl, hrd, hb⟩ | ⟨hr, -, -⟩)
  case inr => rw [rightZ] at hr; cases hr
  case inl =>
    have HB1 := Lib.hid (HB.out.trans (hb.mono HB.out.size))
    obtain ⟨L, eL⟩ : ∃ L, frL (revF 1 2 3 [keyZ]) a' c' = L := ⟨_, rfl⟩
    have hLl : L.length = zeroZ.length := by rw [← eL]; rfl
    have hL0 : L[0]? = some (.int .i64 2) := by rw [← eL]; rfl
    have hL12 : L[12]? = some (.slice a' 1 c') := by rw [← eL]; rfl
    have hLo : ∀ v ∈ L, v.oneCell' = true := by rw [← eL]; exact frL_oneZ _ _ _
    rw [eL]
    clear hb HFR HB eL hrd hr
    rename_i K hK
    refine hK _ _ ?_
    clear hK K
    iterate 4 (refine wpList_step (fun K hK => ?_); go_simp; refine hK _ _ ?_; clear hK K)
    obtain ⟨g0, g1, g2⟩ := newBlk w1 32 zeroZ L hLl
    obtain ⟨V, eV⟩ : ∃ V, w1.alloc (.cells zeroZ.toArray 32) = V := ⟨_, rfl⟩
    rw [eV] at g0 g1 g2
    generalize hG : World.alloc w1 _ = G
    obtain rfl : V = G := by rw [← hG, ← eV]; rfl
    clear hG eV
    refine store_v rfl rfl _ _ _ rfl w1.heap.size rfl (l' := L) rfl g0 hLl hLo (by kernel_rfl) ?_
    generalize World.setCells V _ _ _ = V2 at g1 g2 ⊢
    have d0 := g1.cell 0 _ hL0
    have d12 := g1.cell 12 _ hL12
    have HB2 := Lib.hid (HB1.out.trans (g2.mono HB1.out.size))
    clear g0 g1 g2 HB1 hLo hLl hL0 hL12
    go_wp2_with fail
    go_ret
    exact ⟨rfl, HB2.out⟩
end Go.Proofs.YtdnjieffbgmagaaDoor
