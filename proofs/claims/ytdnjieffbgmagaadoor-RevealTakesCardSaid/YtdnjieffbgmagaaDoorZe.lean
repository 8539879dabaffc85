/- The package reveal's Take: a session without its first used keys, and these. -/
import Derived.Test.YtdnjieffbgmagaaDoorZa
import Derived.Test.YtdnjieffbgmagaaDoorQk
import Derived.Test.YtdnjieffbgmagaaDoorBRg2
import Derived.Test.YtdnjieffbgmagaaDoorBRg1
import Derived.Test.YtdnjieffbgmagaaDoorBg16
import Derived.Test.YtdnjieffbgmagaaDoorBg18
import Derived.BigQuiet
namespace Go.Proofs.YtdnjieffbgmagaaDoor
open Go.RowKit Go.Sort
set_option maxRecDepth 100000

theorem OwnK.kslZ {w : World} {base : Nat} {v : Value} {l : List Kk} (h : OwnK w base v l) : ∃ (a : Option Addr) (c : Nat), v = .slice a l.length c ∧ l.length ≤ c ∧ KSl w a l := by
  rcases h.2 with ⟨rfl, h0⟩ | ⟨g, cap, cur, rfl, hg, hc, hcap, -⟩
  · refine ⟨none, 0, by rw [h0], by omega, fun hp => ?_⟩
    omega
  · refine ⟨some ⟨g, 0, none⟩, cap, rfl, hcap, fun _ => ⟨g, 0, rfl, (Array.getElem?_eq_some_iff.1 hc).1, fun i hi => ?_⟩⟩
    obtain ⟨g0, g1, g2⟩ := Kc_get l i hi
    have hcs := World.ownsRow.cells h (g := g) rfl
    have c0 := hcs _ _ g0
    have c1 := hcs _ _ g1
    have c2 := hcs _ _ g2
    rw [Addr.add_mid] at c0 c1 c2
    exact ⟨c0, by rw [Nat.add_assoc]; exact c1, by rw [Nat.add_assoc]; exact c2⟩
theorem size_setCellsZ (b : Nat) : ∀ (vs : List Value) (o : Nat) (w : World), (w.setCells b o vs).heap.size = w.heap.size
  | [], _, _ => rfl
  | v :: r, o, w => by rw [World.setCells, size_setCellsZ b r (o + 1)]; simp [World.setCell]
theorem seL_oneZ (s : Se) (a : Option Addr) (c : Nat) (b : Option Addr) (d : Nat) : ∀ v ∈ seL s a c b d, v.oneCell' = true := by
  intro v hv
  simp only [seL, List.mem_cons, List.not_mem_nil, or_false] at hv
  rcases hv with rfl | rfl | rfl | rfl | rfl | rfl | rfl | rfl | rfl | rfl <;> rfl
theorem SSl.dropZ {w : World} {b off : Nat} {l : List ByteArray} (h : SSl w (some ⟨b, off, none⟩) l) (n : Nat) : SSl w (some ⟨b, off + n, none⟩) (l.drop n) := by
  intro h0
  rw [List.length_drop] at h0
  obtain ⟨b', off', e, hlt, hc⟩ := h (by omega)
  cases e
  refine ⟨b, off + n, rfl, hlt, fun i hi => ?_⟩
  rw [List.length_drop] at hi
  rw [Nat.add_assoc, hc (n + i) (by omega)]
  simp [List.getD_eq_getElem?_getD, List.getElem?_drop]
/-- a row from a place on -/
theorem cut_from (b : Option Addr) (l : List ByteArray) (d n : Nat) (hn : n ≤ l.length) (hd : l.length ≤ d) (w0 : World) (hs : SSl w0 b l) : ∃ (b2 : Option Addr) (d2 : Nat), (∀ W, (Instr.slice 24 (.slice b l.length d) (some (.int .i64 (n : Int))) none none).run Tryd.prog W = .ok (.slice b2 (l.drop n).length d2) W) ∧ ∀ W, SSl W b l → SSl W b2 (l.drop n) := by
  have hsz : ∀ W, (sizeOf (Tryd.prog.elem 24)).run Tryd.prog W = .ok 1 W := fun W => by kernel_rfl
  by_cases e : d = n
  · have hl : l.length = n := by omega
    refine ⟨b, 0, fun W => ?_, fun W _ h0 => ?_⟩
    · rw [run_slice_l (P := Tryd.prog) (w := W) 24 b l.length d (by kernel_rfl) .i64 (n : Int) (by omega) (by omega), hsz W]
      show Result.ok (sliced b ((n : Int).toNat) l.length d 1) W = _
      unfold sliced
      rw [if_pos (by omega), List.length_drop, show d - (n : Int).toNat = 0 by omega, show l.length - (n : Int).toNat = l.length - n by omega]
    · rw [List.length_drop] at h0; omega
  · rcases Nat.eq_zero_or_pos l.length with h0 | h0
    · refine ⟨b.map (·.add (n * 1)), d - n, fun W => ?_, fun W _ h1 => ?_⟩
      · rw [run_slice_l (P := Tryd.prog) (w := W) 24 b l.length d (by kernel_rfl) .i64 (n : Int) (by omega) (by omega), hsz W]
        show Result.ok (sliced b ((n : Int).toNat) l.length d 1) W = _
        unfold sliced
        rw [if_neg (by omega), List.length_drop, show (n : Int).toNat = n by omega]
      · rw [List.length_drop] at h1; omega
    · obtain ⟨g, off, rfl, -, -⟩ := hs h0
      refine ⟨some ⟨g, off + n, none⟩, d - n, fun W => ?_, fun W h1 => h1.dropZ n⟩
      rw [run_slice_l (P := Tryd.prog) (w := W) 24 (some ⟨g, off, none⟩) l.length d (by kernel_rfl) .i64 (n : Int) (by omega) (by omega), hsz W]
      show Result.ok (sliced (some ⟨g, off, none⟩) ((n : Int).toNat) l.length d 1) W = _
      unfold sliced
      rw [if_neg (by omega), List.length_drop, show (n : Int).toNat = n by omega, Nat.mul_one, Option.map_some, Addr.add_mid]
/-- what Take tells -/
def TakePost (w : World) (s : Se) (m : Int) (e : Ending) (w' : World) : Prop :=
  (takeE s m ≠ 0 ∧ e = .returned (.tuple #[.agg (seL se0 none 0 none 0).toArray, .slice none 0 0, .int .i64 (takeE s m)]) ∧ Below w.heap.size w w') ∨
  (takeE s m = 0 ∧ ∃ (n : Nat) (a' : Option Addr) (c' : Nat) (b' : Option Addr) (d' : Nat) (k : Option Addr) (j : Nat), min m (s.used.length : Int) = (n : Int) ∧ e = .returned (.tuple #[.agg (seL (takeS s n) a' c' b' d').toArray, .slice k (s.used.take n).length j, .int .i64 0]) ∧
    KSl w' a' s.kept ∧ Rd9 w' b' d' (s.used.drop n) ∧ Rd9 w' k j (s.used.take n) ∧ s.kept.length ≤ c' ∧ Below w.heap.size w w')
set_option maxHeartbeats 8000000 in
theorem Take_any (s : Se) (a : Option Addr) (c : Nat) (b : Option Addr) (d : Nat) (hk : s.kept.length ≤ 1000) (hkc : s.kept.length ≤ c) (hu : s.used.length ≤ 1000) (hud : s.used.length ≤ d) (m : Int) (w : World) (h : SeAt w s a b) :
    Calls Tryd.prog 6 #[seV s a c b d, .int .i64 m] w (TakePost w s m) := by
  obtain ⟨W0, eW0⟩ : ∃ W0, w.alloc (.cells (seL s a c b d).toArray 26) = W0 := ⟨_, rfl⟩
  obtain ⟨W, eW⟩ : ∃ W, W0.alloc (.cells (seL se0 none 0 none 0).toArray 26) = W := ⟨_, rfl⟩
  have z0 : W0.heap.size = w.heap.size + 1 := by rw [← eW0]; simp
  have hb0 : Below w.heap.size w W0 := by rw [← eW0]; exact (Below.refl _ _).alloc (Nat.le_refl _) _
  have hbW : Below w.heap.size w W := by rw [← eW]; exact hb0.alloc hb0.size _
  have h0 : BlkV W w.heap.size 26 (seL s a c b d) := by rw [← eW, ← eW0]; exact (BlkV.fresh _ _ _ _ rfl _ rfl).alloc _
  have h1 : BlkV W (w.heap.size + 1) 26 (seL se0 none 0 none 0) := by rw [← eW]; exact BlkV.fresh _ _ _ _ rfl _ z0.symm
  have hr := sRight_any s a c b d hk hkc hu W ⟨h.kept.on hbW, h.used.on hbW⟩
  have es : seV s a c b d = .agg (seL s a c b d).toArray := rfl
  rw [es] at hr ⊢
  have HR := Lib.hid hr; have H0 := Lib.hid (And.intro h0 h1); have HB := Lib.hid hbW; have HE := Lib.hid (And.intro eW0 eW); have HS := Lib.hid h; have HL := Lib.hid (And.intro hk (And.intro hkc (And.intro hu hud)))
  clear hr h0 h1 hbW eW0 eW z0 hb0 es h hk hkc hu hud
  go_enter Tryd.func6, Tryd.ntmps6
  go_upto_region 1 with fail
  generalize hG : World.alloc (World.alloc w _) _ = G
  obtain rfl : W = G := by rw [← hG, ← HE.out.2, ← HE.out.1]; rfl
  clear hG HE
  refine wp_region_lit ?_
  refine load_v rfl _ _ rfl w.heap.size rfl H0.out.1 Tryd.underlying26 rfl (by kernel_rfl) ?_
  go_wp2_with fail
  refine HR.out.mono ?_
  rintro e w1 ⟨rfl, hb⟩
  have HX := Lib.hid (And.intro (H0.out.1.on hb) (H0.out.2.on hb))
  have HB1 := Lib.hid (HB.out.trans (hb.mono HB.out.size))
  clear hb HR H0 HB
  by_cases hr : rightS s
  case neg =>
    rw [decide_eq_false hr]
    have HW := Lib.hid (show takeE s m = 1 by unfold takeE; rw [if_pos hr])
    go_upto_region 2 with fail
    refine wp_region_lit ?_
    iterate 1 (refine wpList_step (fun K hK => ?_); go_simp; refine hK _ _ ?_; clear hK K)
    refine store_v rfl rfl _ _ _ rfl (w.heap.size + 1) rfl (l' := seL se0 none 0 none 0) rfl HX.out.2 rfl (seL_oneZ _ _ _ _ _) (by kernel_rfl) ?_
    have hF := (HX.out.2).stored (seL se0 none 0 none 0) rfl
    have hBF := below_setCells (show w.heap.size ≤ w.heap.size + 1 by omega) (seL se0 none 0 none 0) 0 _ (HB1.out)
    generalize World.setCells _ _ _ _ = W9 at hF hBF ⊢
    go_wp2_with fail
    refine bodyPost_ret (results_ztt (p := 4) (q := 5) (r := 6) (T := 26) (by kernel_rfl) _ _ (w.heap.size + 1) rfl hF Tryd.underlying26 rfl (by kernel_rfl) _ _ rfl rfl) rfl ?_
    exact Or.inl ⟨by rw [HW.out]; decide, by rw [HW.out]; rfl, hBF⟩
  case pos =>
    rw [decide_eq_true hr]
    by_cases h0 : m < 0
    case pos =>
      have HW := Lib.hid (show takeE s m = 2 by unfold takeE; rw [if_neg (not_not_intro hr), if_pos (Or.inl h0)])
      go_upto_region 4 with fail
      refine wp_region_lit ?_
      iterate 1 (refine wpList_step (fun K hK => ?_); go_simp; refine hK _ _ ?_; clear hK K)
      refine store_v rfl rfl _ _ _ rfl (w.heap.size + 1) rfl (l' := seL se0 none 0 none 0) rfl HX.out.2 rfl (seL_oneZ _ _ _ _ _) (by kernel_rfl) ?_
      have hF := (HX.out.2).stored (seL se0 none 0 none 0) rfl
      have hBF := below_setCells (show w.heap.size ≤ w.heap.size + 1 by omega) (seL se0 none 0 none 0) 0 _ (HB1.out)
      generalize World.setCells _ _ _ _ = W9 at hF hBF ⊢
      go_wp2_with fail
      refine bodyPost_ret (results_ztt (p := 4) (q := 5) (r := 6) (T := 26) (by kernel_rfl) _ _ (w.heap.size + 1) rfl hF Tryd.underlying26 rfl (by kernel_rfl) _ _ rfl rfl) rfl ?_
      exact Or.inl ⟨by rw [HW.out]; decide, by rw [HW.out]; rfl, hBF⟩
    case neg =>
      by_cases h32 : 32 < m
      case pos =>
        have HW := Lib.hid (show takeE s m = 2 by unfold takeE; rw [if_neg (not_not_intro hr), if_pos (Or.inr h32)])
        go_upto_region 4 with fail
        refine wp_region_lit ?_
        iterate 1 (refine wpList_step (fun K hK => ?_); go_simp; refine hK _ _ ?_; clear hK K)
        refine store_v rfl rfl _ _ _ rfl (w.heap.size + 1) rfl (l' := seL se0 none 0 none 0) rfl HX.out.2 rfl (seL_oneZ _ _ _ _ _) (by kernel_rfl) ?_
        have hF := (HX.out.2).stored (seL se0 none 0 none 0) rfl
        have hBF := below_setCells (show w.heap.size ≤ w.heap.size + 1 by omega) (seL se0 none 0 none 0) 0 _ (HB1.out)
        generalize World.setCells _ _ _ _ = W9 at hF hBF ⊢
        go_wp2_with fail
        refine bodyPost_ret (results_ztt (p := 4) (q := 5) (r := 6) (T := 26) (by kernel_rfl) _ _ (w.heap.size + 1) rfl hF Tryd.underlying26 rfl (by kernel_rfl) _ _ rfl rfl) rfl ?_
        exact Or.inl ⟨by rw [HW.out]; decide, by rw [HW.out]; rfl, hBF⟩
      case neg =>
        have HW := Lib.hid (show takeE s m = 0 by unfold takeE; rw [if_neg (not_not_intro hr), if_neg (by omega)])
        obtain ⟨n, en⟩ : ∃ n : Nat, min m (s.used.length : Int) = (n : Int) := ⟨(min m (s.used.length : Int)).toNat, by omega⟩
        have hnl : n ≤ s.used.length := by omega
        have hn0 : (n : Int) ≤ (d : Int) := by have := HL.out; omega
        have htl : (s.used.take n).length = n := by rw [List.length_take]; omega
        obtain ⟨b2, d2, hc1, hc2⟩ := cut_from b s.used d n hnl HL.out.2.2.2 w HS.out.used
        have d9 : w1.cell? ⟨w.heap.size, 9, none⟩ = some (.slice b s.used.length d) := HX.out.1.cell 9 _ rfl
        have hcl := CloneS_any b d (s.used.take n) (by have := HL.out; omega) w1 ((HS.out.used.on HB1.out).take n)
        rw [htl] at hcl
        have HCL := Lib.hid hcl; have HCF := Lib.hid (And.intro hc1 hc2); have HN := Lib.hid (And.intro hnl (And.intro htl en)); have HRR := Lib.hid hr
        clear hcl hc1 hc2 hnl htl hr
        go_wp2_with fail
        refine HCL.out.mono ?_
        rintro e w2 ⟨v, rfl, hO0, hb⟩
        obtain ⟨k, j, rfl, hk0⟩ := hO0.rd
        rw [HN.out.2.1]
        have HX2 := Lib.hid (And.intro (HX.out.1.on hb) (HX.out.2.on hb))
        have HB2 := Lib.hid (HB1.out.trans (hb.mono HB1.out.size))
        have hk0lo := ownS_lo hO0 (show w.heap.size + 1 < w1.heap.size from HX.out.2.lt)
        have HK0 := Lib.hid (And.intro hk0 hk0lo)
        clear hb HX HB1 HCL hO0 hk0 hk0lo d9
        have hck := fun W (hW : Below w2.heap.size w2 W) => CloneK_any a c s.kept HL.out.1 W ((HS.out.kept.on HB2.out).on hW)
        have hcu := fun W (hW : Below w2.heap.size w2 W) => CloneS_any b2 d2 (s.used.drop n) (by rw [List.length_drop]; have := HL.out; omega) W (HCF.out.2 W ((HS.out.used.on HB2.out).on hW))
        have HCK := Lib.hid hck; have HCU := Lib.hid hcu
        clear hck hcu en h0 h32 hn0
        go_upto_region 7 with fail
        have hS0 : BlkV w2.drew w.heap.size 26 (seL s a c b d) ∧ Below w2.heap.size w2 w2.drew := ⟨HX2.out.1.on (Below.refl _ _).drew, (Below.refl _ _).drew⟩
        refine region_K 9 (fun W => BlkV W w.heap.size 26 (seL s a c b d) ∧ Below w2.heap.size w2 W) (by kernel_rfl) ?_
        refine K_pure (i := 0) (v := Value.pointer (some ⟨w.heap.size, 8, none⟩)) rfl (by kernel_rfl) (by kernel_rfl) (by kernel_rfl) (by kernel_rfl) (fun _ _ _ h => h) (Or.inl ⟨rfl, fun _ _ => by first | (go_simp; done) | kernel_rfl⟩) hS0 ?_
        try simp only [Act.put, List.getElem_toArray, List.getElem_cons_zero, List.setIfInBounds_toArray, List.set_cons_zero, List.set_cons_succ]
        refine K_pure (i := 3) (v := Value.pointer (some ⟨w.heap.size, 9, none⟩)) rfl (by kernel_rfl) (by kernel_rfl) (by kernel_rfl) (by kernel_rfl) (fun _ _ _ h => h) (Or.inl ⟨rfl, fun _ _ => by first | (go_simp; done) | kernel_rfl⟩) hS0 ?_
        try simp only [Act.put, List.getElem_toArray, List.getElem_cons_zero, List.getElem_cons_succ, List.setIfInBounds_toArray, List.set_cons_zero, List.set_cons_succ]
        refine K_pure (i := 5) (v := Value.int .i64 (n : Int)) rfl (by kernel_rfl) (by kernel_rfl) (by kernel_rfl) (by kernel_rfl) (fun _ _ _ h => h) (Or.inl ⟨rfl, fun _ _ => by first | (go_simp; done) | kernel_rfl⟩) hS0 ?_
        try simp only [Act.put, List.getElem_toArray, List.getElem_cons_zero, List.getElem_cons_succ, List.setIfInBounds_toArray, List.set_cons_zero, List.set_cons_succ]
        refine K_take (i := 1) (v := Value.slice a s.kept.length c) rfl (by kernel_rfl) (by kernel_rfl) (by kernel_rfl) (by kernel_rfl) (by kernel_rfl) (fun _ _ _ h => h) (Or.inl ⟨rfl, fun W hW => by have hc := hW.1.cell 8 _ rfl; go_simp⟩) hS0 ?_
        try simp only [Act.put, List.getElem_toArray, List.getElem_cons_zero, List.getElem_cons_succ, List.setIfInBounds_toArray, List.set_cons_zero, List.set_cons_succ]
        refine K_take (i := 4) (v := Value.slice b s.used.length d) rfl (by kernel_rfl) (by kernel_rfl) (by kernel_rfl) (by kernel_rfl) (by kernel_rfl) (fun _ _ _ h => h) (Or.inl ⟨rfl, fun W hW => by have hc := hW.1.cell 9 _ rfl; go_simp⟩) hS0 ?_
        try simp only [Act.put, List.getElem_toArray, List.getElem_cons_zero, List.getElem_cons_succ, List.setIfInBounds_toArray, List.set_cons_zero, List.set_cons_succ]
        refine K_pure (i := 6) (v := Value.slice b2 (s.used.drop n).length d2) rfl (by kernel_rfl) (by kernel_rfl) (by kernel_rfl) (by kernel_rfl) (fun _ _ _ h => h) (Or.inl ⟨rfl, fun W _ => by have hc := HCF.out.1 W; go_simp⟩) hS0 ?_
        try simp only [Act.put, List.getElem_toArray, List.getElem_cons_zero, List.getElem_cons_succ, List.setIfInBounds_toArray, List.set_cons_zero, List.set_cons_succ]
        refine K_all (rs := [2]) (by kernel_rfl) (by decide) (List.forall_mem_cons.2 ⟨?_, List.forall_mem_nil _⟩)
        refine callx_any (f := 23) (args := #[.slice a s.kept.length c]) rfl rfl (by kernel_rfl) (HCK.out _ hS0.2) ?_
        rintro v w3 ⟨hO, hbk⟩
        have hsz2 : w.heap.size + 1 < w2.drew.heap.size := HX2.out.2.lt
        obtain ⟨a', c', rfl, hkc', hks⟩ := (show OwnK w3 w2.drew.heap.size v s.kept from hO).kslZ
        have hS1 : BlkV w3 w.heap.size 26 (seL s a c b d) ∧ Below w2.heap.size w2 w3 := ⟨hS0.1.on hbk, hS0.2.trans (hbk.mono hS0.2.size)⟩
        refine ⟨fun _ => hS1, ?_⟩
        try simp only [Act.put, List.getElem_toArray, List.getElem_cons_zero, List.getElem_cons_succ, List.setIfInBounds_toArray, List.set_cons_zero, List.set_cons_succ]
        refine K_pure (i := 8) (v := Value.pointer (some ⟨w.heap.size, 8, none⟩)) rfl (by kernel_rfl) (by kernel_rfl) (by kernel_rfl) (by kernel_rfl) (fun _ _ _ h => h) (Or.inl ⟨rfl, fun _ _ => by first | (go_simp; done) | kernel_rfl⟩) hS1 ?_
        try simp only [Act.put, List.getElem_toArray, List.getElem_cons_zero, List.getElem_cons_succ, List.setIfInBounds_toArray, List.set_cons_zero, List.set_cons_succ]
        refine K_all (rs := [7]) (by kernel_rfl) (by decide) (List.forall_mem_cons.2 ⟨?_, List.forall_mem_nil _⟩)
        refine callx_any (f := 22) (args := #[.slice b2 (s.used.drop n).length d2]) rfl rfl (by kernel_rfl) (HCU.out _ hS1.2) ?_
        rintro v w4 ⟨hO2, hbu⟩
        obtain ⟨b', d', rfl, hrd⟩ := (show OwnS w4 w3.heap.size v (s.used.drop n) from hO2).rd
        have hS2 : BlkV w4 w.heap.size 26 (seL s a c b d) ∧ Below w2.heap.size w2 w4 := ⟨hS1.1.on hbu, hS1.2.trans (hbu.mono hS1.2.size)⟩
        refine ⟨fun _ => hS2, ?_⟩
        try simp only [Act.put, List.getElem_toArray, List.getElem_cons_zero, List.getElem_cons_succ, List.setIfInBounds_toArray, List.set_cons_zero, List.set_cons_succ]
        have hks2 := hks.on hbu
        have hka := ownK_lo hO hsz2
        have hua := ownS_lo hO2 (Nat.lt_of_lt_of_le hsz2 hbk.size)
        refine K_all (rs := [9]) (by kernel_rfl) (by decide) (List.forall_mem_cons.2 ⟨?_, List.forall_mem_nil _⟩)
        have h8 := hS2.1.cell 8 _ rfl
        have y8 := hS2.1.frozen 8
        refine skip_any rfl rfl (w' := w4.setCell ⟨w.heap.size, 8, none⟩ (.slice a' s.kept.length c')) (by go_simp) ?_
        clear h8 y8
        refine ⟨fun hf => absurd (show true = false from hf) (by decide), K_of_any _ _ _ _ (by kernel_rfl) ?_⟩
        try simp only [Act.put, List.getElem_toArray, List.getElem_cons_zero, List.getElem_cons_succ]
        have hX5 := hS2.1.set 8 (.slice a' s.kept.length c')
        have hb5 := (HB2.out.trans (hS2.2.mono HB2.out.size)).setCell (p := ⟨w.heap.size, 8, none⟩) (Nat.le_refl _) (.slice a' s.kept.length c')
        refine wpAny_take (i := 10) (v := Value.pointer (some ⟨w.heap.size, 9, none⟩)) rfl (by kernel_rfl) (by kernel_rfl) (by kernel_rfl) (fun _ _ _ h => h) (.inl ⟨rfl, fun W => by first | (go_simp; done) | kernel_rfl⟩) ?_
        try simp only [Act.put, List.getElem_toArray, List.getElem_cons_zero, List.getElem_cons_succ, List.setIfInBounds_toArray, List.set_cons_zero, List.set_cons_succ]
        refine wpAny_all (rs := [11]) (by kernel_rfl) (by decide) (List.forall_mem_cons.2 ⟨?_, List.forall_mem_nil _⟩)
        have h9 := hX5.cell 9 _ rfl
        have y9 := hX5.frozen 9
        refine skip_any rfl rfl (w' := (w4.setCell ⟨w.heap.size, 8, none⟩ (.slice a' s.kept.length c')).setCell ⟨w.heap.size, 9, none⟩ (.slice b' (s.used.drop n).length d')) (by go_simp) ?_
        clear h9 y9
        try simp only [Act.put, List.getElem_toArray, List.getElem_cons_zero, List.getElem_cons_succ]
        refine wpAny_done (by kernel_rfl) ?_ _
        have hX6 := hX5.set 9 (.slice b' (s.used.drop n).length d')
        have hset : ((seL s a c b d).set 8 (.slice a' s.kept.length c')).set 9 (.slice b' (s.used.drop n).length d') = seL (takeS s n) a' c' b' d' := rfl
        rw [hset] at hX6
        have hb6 := hb5.setCell (p := ⟨w.heap.size, 9, none⟩) (Nat.le_refl _) (.slice b' (s.used.drop n).length d')
        have hZ6 := ((HX2.out.2.on hS2.2).far ⟨w.heap.size, 8, none⟩ (show w.heap.size + 1 ≠ w.heap.size by omega) (.slice a' s.kept.length c')).far ⟨w.heap.size, 9, none⟩ (show w.heap.size + 1 ≠ w.heap.size by omega) (.slice b' (s.used.drop n).length d')
        have hfar : ∀ (g : Nat), w.heap.size + 1 < g → ((((w4.setCell ⟨w.heap.size, 8, none⟩ (.slice a' s.kept.length c')).setCell ⟨w.heap.size, 9, none⟩ (.slice b' (s.used.drop n).length d')).setCells (w.heap.size + 1) 0 (seL (takeS s n) a' c' b' d')).heap[g]? = w4.heap[g]?) := fun g hg => by
          rw [heap_setCells_other (w.heap.size + 1) g (by omega), heap_setCell_other _ ⟨w.heap.size, 9, none⟩ g _ (show g ≠ w.heap.size by omega), heap_setCell_other _ ⟨w.heap.size, 8, none⟩ g _ (show g ≠ w.heap.size by omega)]
        have hszz : w4.heap.size ≤ (((w4.setCell ⟨w.heap.size, 8, none⟩ (.slice a' s.kept.length c')).setCell ⟨w.heap.size, 9, none⟩ (.slice b' (s.used.drop n).length d')).setCells (w.heap.size + 1) 0 (seL (takeS s n) a' c' b' d')).heap.size := by rw [size_setCellsZ]; simp
        have q1 := hks2.via hszz fun g off sp e => hfar g (hka g off sp e)
        have q2 := hrd.ss.via hszz fun g off sp e => hfar g (hua g off sp e)
        have q3 := (HK0.out.1.ss.on hS2.2).via hszz fun g off sp e => hfar g (HK0.out.2 g off sp e)
        have HQ := Lib.hid (And.intro q1 (And.intro (show Rd9 _ b' d' (s.used.drop n) from ⟨q2, hrd.cap, hrd.none⟩) (show Rd9 _ k j (s.used.take n) from ⟨q3, HK0.out.1.cap, HK0.out.1.none⟩)))
        have HC := Lib.hid hkc'
        clear q1 q2 q3 hfar hszz hks hks2 hka hua hrd hkc' hO hO2 hS0 hS1 hS2 hbk hbu hX5 hb5 hset hsz2 HCK HCU HX2 HB2 HK0 HCF
        generalize World.setCell (World.setCell w4 _ _) _ _ = V6 at hX6 hb6 hZ6 HQ ⊢
        have H6 := Lib.hid (And.intro hX6 (And.intro hb6 hZ6))
        clear hX6 hb6 hZ6
        go_upto_region 8 with fail
        refine wp_region_lit ?_
        refine load_v rfl _ _ rfl w.heap.size rfl H6.out.1 Tryd.underlying26 rfl (by kernel_rfl) ?_
        iterate 1 (refine wpList_step (fun K hK => ?_); go_simp; refine hK _ _ ?_; clear hK K)
        refine store_v rfl rfl _ _ _ rfl (w.heap.size + 1) rfl (l' := seL (takeS s n) a' c' b' d') rfl H6.out.2.2 rfl (seL_oneZ _ _ _ _ _) (by kernel_rfl) ?_
        have hF := H6.out.2.2.stored (seL (takeS s n) a' c' b' d') rfl
        have hBF := below_setCells (show w.heap.size ≤ w.heap.size + 1 by omega) (seL (takeS s n) a' c' b' d') 0 _ H6.out.2.1
        have hq := HQ.out
        clear HQ H6
        generalize World.setCells _ _ _ _ = W9 at hF hBF hq ⊢
        have HQ := Lib.hid hq
        clear hq
        go_wp2_with fail
        refine bodyPost_ret (results_ztt (p := 4) (q := 5) (r := 6) (T := 26) (by kernel_rfl) _ _ (w.heap.size + 1) rfl hF Tryd.underlying26 rfl (by kernel_rfl) _ _ rfl rfl) rfl ?_
        exact Or.inr ⟨HW.out, n, a', c', b', d', k, j, HN.out.2.2, by rw [HN.out.2.1]; rfl, HQ.out.1, HQ.out.2.1, HQ.out.2.2, HC.out, hBF⟩
end Go.Proofs.YtdnjieffbgmagaaDoor
