/- The texts Se, Sf, Sg, Ta, Tb, one behind the other. -/
import Derived.Test.YtdnjieffbgmagaaDoorBg12
import Derived.Test.YtdnjieffbgmagaaDoorBg11
/- The reference's Same: whether two frames are the same. -/
namespace Go.Proofs.YtdnjieffbgmagaaDoor
open Go.RowKit Go.Sort
set_option maxRecDepth 100000
theorem frBox_old {w : World} {B : Nat} {o obj : Obj} (h : w.heap[B]? = some o) : (w.alloc obj).heap[B]? = some o := by
  have := (Array.getElem?_eq_some_iff.1 h).1
  rw [World.alloc]; simp only [Array.getElem?_push]; rw [if_neg (by omega)]; exact h
def SameRelS (V : World) (l m : List ByteArray) (i : Value) (wr : World) : Prop :=
  ∃ k : Nat, k ≤ l.length ∧ i = .int .i64 (k : Int) ∧ l.take k = m.take k ∧ Below V.heap.size V wr
theorem tl_eq (s t : ByteArray) : (s.toList = t.toList) = (s = t) := by
  have := str_eq s t
  by_cases h : s = t
  · subst h; simp
  · rw [decide_eq_false h, beq_eq_false_iff_ne] at this; simp [h, this]
theorem take_same (l m : List ByteArray) (k : Nat) (h : k < l.length) (hl : l.length = m.length) (hk : l.take k = m.take k) (hx : l.getD k ⟨#[]⟩ = m.getD k ⟨#[]⟩) : l.take (k + 1) = m.take (k + 1) := by
  rw [List.take_succ_eq_append_getElem h, List.take_succ_eq_append_getElem (by omega), hk]
  have h1 : l[k] = l.getD k ⟨#[]⟩ := by simp [List.getD, h]
  have h2 : m[k] = m.getD k ⟨#[]⟩ := by simp [List.getD, (show k < m.length by omega)]
  rw [h1, h2, hx]
set_option maxHeartbeats 8000000 in
theorem r8Same_any (x y : Fr) (a a' : Option Addr) (c c' : Nat) (hlx : x.keys.length ≤ maxLen) (hly : y.keys.length ≤ maxLen) (w : World) (hpx : SSl w a x.keys) (hpy : SSl w a' y.keys) :
    Calls Tryd.prog 9 #[frV x a c, frV y a' c'] w fun e w' => e = .returned (.bool (decide (x = y))) ∧ Below w.heap.size w w' := by
  obtain ⟨W1, e1⟩ : ∃ W1, w.alloc (.cells (frC x a c) 32) = W1 := ⟨_, rfl⟩
  obtain ⟨W2, e2⟩ : ∃ W2, W1.alloc (.cells (frC y a' c') 32) = W2 := ⟨_, rfl⟩
  have hb1 : Below w.heap.size w W1 := by rw [← e1]; exact (Below.refl _ _).alloc (Nat.le_refl _) _
  have hb2 : Below w.heap.size w W2 := by rw [← e2]; exact hb1.alloc hb1.size _
  have hx1 : W1.heap[w.heap.size]? = some (.cells (frC x a c) 32) := by rw [← e1]; exact frBox w x a c 32
  have hx : W2.heap[w.heap.size]? = some (.cells (frC x a c) 32) := by rw [← e2]; exact frBox_old hx1
  have hy : W2.heap[W1.heap.size]? = some (.cells (frC y a' c') 32) := by rw [← e2]; exact frBox W1 y a' c' 32
  obtain ⟨A, eA⟩ : ∃ A, w.heap.size = A := ⟨_, rfl⟩
  obtain ⟨B, eB⟩ : ∃ B, W1.heap.size = B := ⟨_, rfl⟩
  have hsx := hpx.on hb2
  have hsy := hpy.on hb2
  rw [eA] at hx
  rw [eB] at hy
  clear hx1 hpx hpy hb1
  obtain ⟨kd, fm, dt, fi, it, bs, sg, oc, rt, pv, nm, bd, ks⟩ := x
  obtain ⟨ykd, yfm, ydt, yfi, yit, ybs, ysg, yoc, yrt, ypv, ynm, ybd, yks⟩ := y
  unfold frV
  simp only [frC] at hx hy e1 e2 hsx hsy hlx hly ⊢
  have HX := Lib.hid hx; have HY := Lib.hid hy; have HB := Lib.hid hb2; have HSX := Lib.hid hsx; have HSY := Lib.hid hsy; have HLX := Lib.hid hlx; have HLY := Lib.hid hly
  clear hx hy hb2 hsx hsy hlx hly
  by_cases hall : kd = ykd ∧ fm = yfm ∧ dt = ydt ∧ fi = yfi ∧ it = yit ∧ bs = ybs ∧ sg = ysg ∧ oc = yoc ∧ rt = yrt ∧ pv = ypv ∧ nm = ynm ∧ bd = ybd ∧ ks.length = yks.length
  · obtain ⟨rfl, rfl, rfl, rfl, rfl, rfl, rfl, rfl, rfl, rfl, rfl, rfl, hkl⟩ := hall
    have HKL := Lib.hid hkl
    have hE : decide ((⟨kd, fm, dt, fi, it, bs, sg, oc, rt, pv, nm, bd, ks⟩ : Fr) = ⟨kd, fm, dt, fi, it, bs, sg, oc, rt, pv, nm, bd, yks⟩) = decide (ks = yks) := by
      by_cases h : ks = yks
      · subst h; simp
      · rw [decide_eq_false h, decide_eq_false]; intro e; injection e; contradiction
    rw [hE]
    clear hE hkl
    go_enter Tryd.func9, Tryd.ntmps9
    go_upto_region 1 with fail
    clear e1 e2 eA eB
    rw [← HKL.out] at HY ⊢
    have d0 : W2.cell? ⟨A, 0, none⟩ = some (.int .i64 kd) := by rw [cell_of_row _ _ _ _ _ _ HX.out]; rfl
    have d1 : W2.cell? ⟨A, 1, none⟩ = some (.int .u64 (fm : Int)) := by rw [cell_of_row _ _ _ _ _ _ HX.out]; rfl
    have d2 : W2.cell? ⟨A, 2, none⟩ = some (.int .u64 (dt : Int)) := by rw [cell_of_row _ _ _ _ _ _ HX.out]; rfl
    have d3 : W2.cell? ⟨A, 3, none⟩ = some (.int .u64 (fi : Int)) := by rw [cell_of_row _ _ _ _ _ _ HX.out]; rfl
    have d4 : W2.cell? ⟨A, 4, none⟩ = some (.string it) := by rw [cell_of_row _ _ _ _ _ _ HX.out]; rfl
    have d5 : W2.cell? ⟨A, 5, none⟩ = some (.string bs) := by rw [cell_of_row _ _ _ _ _ _ HX.out]; rfl
    have d6 : W2.cell? ⟨A, 6, none⟩ = some (.int .u64 (sg : Int)) := by rw [cell_of_row _ _ _ _ _ _ HX.out]; rfl
    have d7 : W2.cell? ⟨A, 7, none⟩ = some (.int .u64 (oc : Int)) := by rw [cell_of_row _ _ _ _ _ _ HX.out]; rfl
    have d8 : W2.cell? ⟨A, 8, none⟩ = some (.string rt) := by rw [cell_of_row _ _ _ _ _ _ HX.out]; rfl
    have d9 : W2.cell? ⟨A, 9, none⟩ = some (.int .u64 (pv : Int)) := by rw [cell_of_row _ _ _ _ _ _ HX.out]; rfl
    have d10 : W2.cell? ⟨A, 10, none⟩ = some (.int .u64 (nm : Int)) := by rw [cell_of_row _ _ _ _ _ _ HX.out]; rfl
    have d11 : W2.cell? ⟨A, 11, none⟩ = some (.string bd) := by rw [cell_of_row _ _ _ _ _ _ HX.out]; rfl
    have d12 : W2.cell? ⟨A, 12, none⟩ = some (.slice a ks.length c) := by rw [cell_of_row _ _ _ _ _ _ HX.out]; rfl
    have g0 : W2.cell? ⟨B, 0, none⟩ = some (.int .i64 kd) := by rw [cell_of_row _ _ _ _ _ _ HY.out]; rfl
    have g1 : W2.cell? ⟨B, 1, none⟩ = some (.int .u64 (fm : Int)) := by rw [cell_of_row _ _ _ _ _ _ HY.out]; rfl
    have g2 : W2.cell? ⟨B, 2, none⟩ = some (.int .u64 (dt : Int)) := by rw [cell_of_row _ _ _ _ _ _ HY.out]; rfl
    have g3 : W2.cell? ⟨B, 3, none⟩ = some (.int .u64 (fi : Int)) := by rw [cell_of_row _ _ _ _ _ _ HY.out]; rfl
    have g4 : W2.cell? ⟨B, 4, none⟩ = some (.string it) := by rw [cell_of_row _ _ _ _ _ _ HY.out]; rfl
    have g5 : W2.cell? ⟨B, 5, none⟩ = some (.string bs) := by rw [cell_of_row _ _ _ _ _ _ HY.out]; rfl
    have g6 : W2.cell? ⟨B, 6, none⟩ = some (.int .u64 (sg : Int)) := by rw [cell_of_row _ _ _ _ _ _ HY.out]; rfl
    have g7 : W2.cell? ⟨B, 7, none⟩ = some (.int .u64 (oc : Int)) := by rw [cell_of_row _ _ _ _ _ _ HY.out]; rfl
    have g8 : W2.cell? ⟨B, 8, none⟩ = some (.string rt) := by rw [cell_of_row _ _ _ _ _ _ HY.out]; rfl
    have g9 : W2.cell? ⟨B, 9, none⟩ = some (.int .u64 (pv : Int)) := by rw [cell_of_row _ _ _ _ _ _ HY.out]; rfl
    have g10 : W2.cell? ⟨B, 10, none⟩ = some (.int .u64 (nm : Int)) := by rw [cell_of_row _ _ _ _ _ _ HY.out]; rfl
    have g11 : W2.cell? ⟨B, 11, none⟩ = some (.string bd) := by rw [cell_of_row _ _ _ _ _ _ HY.out]; rfl
    have g12 : W2.cell? ⟨B, 12, none⟩ = some (.slice a' ks.length c') := by rw [cell_of_row _ _ _ _ _ _ HY.out]; rfl
    go_wp2_with fail
    clear d0 g0 d1 g1 d2 g2 d3 g3 d4 g4 d5 g5 d6 g6 d7 g7 d8 g8 d9 g9 d10 g10 d11 g11 d12 g12
    go_loopw [98] (SameRelS W2 ks yks) (fun i _ => ks.length - (intOf i).toNat)
    case atStart => exact ⟨0, Nat.zero_le _, rfl, rfl, Below.refl _ _⟩
    case round =>
      obtain ⟨k, hk1, rfl, htk, hB⟩ := hrel
      have hxa := (hB.block A (Array.getElem?_eq_some_iff.1 HX.out).1).trans HX.out
      have hya := (hB.block B (Array.getElem?_eq_some_iff.1 HY.out).1).trans HY.out
      by_cases hlt : k < ks.length
      · have h1 : (k : Int) < (ks.length : Int) := by omega
        have h1k : (k : Int) < 9223372036854775807 := by have := HLX.out; unfold maxLen at this; omega
        obtain ⟨b, off, rfl, hbl, hc⟩ := (HSX.out.on hB) (by omega)
        obtain ⟨b', off', rfl, hbl', hc'⟩ := (HSY.out.on hB) (by have := HKL.out; omega)
        have hcx := hc k hlt
        have hcy := hc' k (by have := HKL.out; omega)
        have hts := take_same ks yks k hlt HKL.out htk
        obtain ⟨x, ex⟩ : ∃ x, ks.getD k ⟨#[]⟩ = x := ⟨_, rfl⟩
        obtain ⟨y, ey⟩ : ∃ y, yks.getD k ⟨#[]⟩ = y := ⟨_, rfl⟩
        rw [ex] at hcx hts
        rw [ey] at hcy hts
        have hxy : x ≠ y → decide (ks = yks) = false := fun h => by
          rw [decide_eq_false_iff_not]; intro e; apply h; rw [← ex, ← ey, e]
        obtain ⟨q, hq⟩ : ∃ q, (x.toList == y.toList) = q := ⟨_, rfl⟩
        have HQ := Lib.hid (show q = decide (x = y) by rw [← hq, str_eq])
        have HB2 := Lib.hid hB; have HTS := Lib.hid hts; have HXY := Lib.hid hxy
        clear hc hc' hts hxy ex ey hbl hbl'
        go_upto_region 8 with fail
        have qx := cell_regrown (show wr.cell? ⟨A, 12, none⟩ = some (.slice (some ⟨b, off, none⟩) ks.length c) by rw [cell_of_row _ _ _ _ _ _ hxa]; rfl)
        have qy := cell_regrown (show wr.cell? ⟨B, 12, none⟩ = some (.slice (some ⟨b', off', none⟩) ks.length c') by rw [cell_of_row _ _ _ _ _ _ hya]; rfl)
        have px := cell_regrown hcx
        have py := cell_regrown hcy
        refine wp_region_quiet_below (by kernel_rfl) (by kernel_rfl) ?_
        iterate 11 (quiet_step (fail))
        refine wpQuiet_nil ?_
        intro _ hw'
        obtain ⟨⟨dq, osq⟩, hw''⟩ := hw'
        subst hw''
        have HB3 := Lib.hid (HB2.out.trans ((below_regrown wr dq osq).mono HB2.out.size))
        clear hq qx qy px py hxa hya hcx hcy hB htk HX HY
        generalize grow (redrawn wr dq) osq = V1 at HB3 ⊢
        rename_i K hK
        refine hK _ _ ?_
        clear hK K
        by_cases he : x = y
        · have hq := HQ.out
          rw [decide_eq_true he] at hq
          subst hq
          rw [Bool.not_true]
          go_wp2_with fail
          exact ⟨⟨k + 1, by omega, by simp, HTS.out he, HB3.out⟩, by simp [intOf]; omega⟩
        · have hq := HQ.out
          rw [decide_eq_false he] at hq
          subst hq
          rw [Bool.not_false]
          have HE := Lib.hid (HXY.out he)
          go_wp2_with fail
          go_ret
          rw [HE.out]
          exact ⟨rfl, HB.out.trans (HB3.out.mono HB.out.size)⟩
      · obtain rfl : k = ks.length := by omega
        have hn : ¬ (ks.length : Int) < (ks.length : Int) := by omega
        have he : ks = yks := by rw [List.take_of_length_le (Nat.le_refl _), List.take_of_length_le (by rw [HKL.out]; exact Nat.le_refl _)] at htk; exact htk
        have HE := Lib.hid (decide_eq_true he)
        have HB2 := Lib.hid (HB.out.trans (hB.mono HB.out.size))
        clear hB htk hxa hya he
        go_wp2_with fail
        go_ret
        rw [HE.out]
        exact ⟨rfl, HB2.out⟩
  · have HN := Lib.hid hall
    have HE := Lib.hid (show decide ((⟨kd, fm, dt, fi, it, bs, sg, oc, rt, pv, nm, bd, ks⟩ : Fr) = ⟨ykd, yfm, ydt, yfi, yit, ybs, ysg, yoc, yrt, ypv, ynm, ybd, yks⟩) = false by
      rw [decide_eq_false_iff_not]; intro e; injection e with i1 i2 i3 i4 i5 i6 i7 i8 i9 i10 i11 i12 i13; exact hall (by subst i13; exact ⟨i1, i2, i3, i4, i5, i6, i7, i8, i9, i10, i11, i12, rfl⟩))
    clear hall
    go_enter Tryd.func9, Tryd.ntmps9
    go_upto_region 1 with fail
    clear e1 e2 eA eB
    have d0 : W2.cell? ⟨A, 0, none⟩ = some (.int .i64 kd) := by rw [cell_of_row _ _ _ _ _ _ HX.out]; rfl
    have d1 : W2.cell? ⟨A, 1, none⟩ = some (.int .u64 (fm : Int)) := by rw [cell_of_row _ _ _ _ _ _ HX.out]; rfl
    have d2 : W2.cell? ⟨A, 2, none⟩ = some (.int .u64 (dt : Int)) := by rw [cell_of_row _ _ _ _ _ _ HX.out]; rfl
    have d3 : W2.cell? ⟨A, 3, none⟩ = some (.int .u64 (fi : Int)) := by rw [cell_of_row _ _ _ _ _ _ HX.out]; rfl
    have d4 : W2.cell? ⟨A, 4, none⟩ = some (.string it) := by rw [cell_of_row _ _ _ _ _ _ HX.out]; rfl
    have d5 : W2.cell? ⟨A, 5, none⟩ = some (.string bs) := by rw [cell_of_row _ _ _ _ _ _ HX.out]; rfl
    have d6 : W2.cell? ⟨A, 6, none⟩ = some (.int .u64 (sg : Int)) := by rw [cell_of_row _ _ _ _ _ _ HX.out]; rfl
    have d7 : W2.cell? ⟨A, 7, none⟩ = some (.int .u64 (oc : Int)) := by rw [cell_of_row _ _ _ _ _ _ HX.out]; rfl
    have d8 : W2.cell? ⟨A, 8, none⟩ = some (.string rt) := by rw [cell_of_row _ _ _ _ _ _ HX.out]; rfl
    have d9 : W2.cell? ⟨A, 9, none⟩ = some (.int .u64 (pv : Int)) := by rw [cell_of_row _ _ _ _ _ _ HX.out]; rfl
    have d10 : W2.cell? ⟨A, 10, none⟩ = some (.int .u64 (nm : Int)) := by rw [cell_of_row _ _ _ _ _ _ HX.out]; rfl
    have d11 : W2.cell? ⟨A, 11, none⟩ = some (.string bd) := by rw [cell_of_row _ _ _ _ _ _ HX.out]; rfl
    have d12 : W2.cell? ⟨A, 12, none⟩ = some (.slice a ks.length c) := by rw [cell_of_row _ _ _ _ _ _ HX.out]; rfl
    have g0 : W2.cell? ⟨B, 0, none⟩ = some (.int .i64 ykd) := by rw [cell_of_row _ _ _ _ _ _ HY.out]; rfl
    have g1 : W2.cell? ⟨B, 1, none⟩ = some (.int .u64 (yfm : Int)) := by rw [cell_of_row _ _ _ _ _ _ HY.out]; rfl
    have g2 : W2.cell? ⟨B, 2, none⟩ = some (.int .u64 (ydt : Int)) := by rw [cell_of_row _ _ _ _ _ _ HY.out]; rfl
    have g3 : W2.cell? ⟨B, 3, none⟩ = some (.int .u64 (yfi : Int)) := by rw [cell_of_row _ _ _ _ _ _ HY.out]; rfl
    have g4 : W2.cell? ⟨B, 4, none⟩ = some (.string yit) := by rw [cell_of_row _ _ _ _ _ _ HY.out]; rfl
    have g5 : W2.cell? ⟨B, 5, none⟩ = some (.string ybs) := by rw [cell_of_row _ _ _ _ _ _ HY.out]; rfl
    have g6 : W2.cell? ⟨B, 6, none⟩ = some (.int .u64 (ysg : Int)) := by rw [cell_of_row _ _ _ _ _ _ HY.out]; rfl
    have g7 : W2.cell? ⟨B, 7, none⟩ = some (.int .u64 (yoc : Int)) := by rw [cell_of_row _ _ _ _ _ _ HY.out]; rfl
    have g8 : W2.cell? ⟨B, 8, none⟩ = some (.string yrt) := by rw [cell_of_row _ _ _ _ _ _ HY.out]; rfl
    have g9 : W2.cell? ⟨B, 9, none⟩ = some (.int .u64 (ypv : Int)) := by rw [cell_of_row _ _ _ _ _ _ HY.out]; rfl
    have g10 : W2.cell? ⟨B, 10, none⟩ = some (.int .u64 (ynm : Int)) := by rw [cell_of_row _ _ _ _ _ _ HY.out]; rfl
    have g11 : W2.cell? ⟨B, 11, none⟩ = some (.string ybd) := by rw [cell_of_row _ _ _ _ _ _ HY.out]; rfl
    have g12 : W2.cell? ⟨B, 12, none⟩ = some (.slice a' yks.length c') := by rw [cell_of_row _ _ _ _ _ _ HY.out]; rfl
    clear HX HY HSX HSY HLX HLY
    go_wp2_with fail
    all_goals
      clear d0 g0 d1 g1 d2 g2 d3 g3 d4 g4 d5 g5 d6 g6 d7 g7 d8 g8 d9 g9 d10 g10 d11 g11 d12 g12
      first
        | (go_ret; rw [HE.out]; exact ⟨rfl, HB.out⟩)
        | (exfalso; have hn := HN.out; clear HN HE HB; simp only [str_eq, tl_eq, bne, Bool.not_eq_false', beq_iff_eq, decide_eq_true_eq] at *; refine hn ⟨?_, ?_, ?_, ?_, ?_, ?_, ?_, ?_, ?_, ?_, ?_, ?_, ?_⟩ <;> first | assumption | omega)
end Go.Proofs.YtdnjieffbgmagaaDoor

/- What is put is got as it was; what is got, put, is those bytes. -/
namespace Go.Proofs.YtdnjieffbgmagaaDoor
set_option maxRecDepth 100000
theorem rA {f : Fr} (h0 : f.kind = 0) (h : rightF f = true) : f.ident.size = 32 ∧ f.base.size = 32 ∧ f.ratchet.size = 32 ∧ f.body.size ≤ 1024 ∧ f.keys = [] := by
  unfold rightF at h
  rw [if_pos h0] at h
  simp only [Bool.and_eq_true, decide_eq_true_eq] at h
  exact ⟨h.1.1.1.1, h.1.1.1.2, h.1.1.2, h.1.2, List.eq_nil_of_length_eq_zero h.2⟩
theorem size_no (x : ByteArray) (h : x.size = 0) : x = ⟨#[]⟩ := ByteArray.ext (Array.eq_empty_of_size_eq_zero h)
theorem rB {f : Fr} (h0 : f.kind = 1) (h : rightF f = true) : f.ident = ⟨#[]⟩ ∧ f.base = ⟨#[]⟩ ∧ f.signed = 0 ∧ f.once = 0 ∧ f.ratchet.size = 32 ∧ f.body.size ≤ 1024 ∧ f.keys = [] := by
  unfold rightF at h
  rw [if_neg (by omega)] at h
  split at h
  · rename_i h1
    simp only [Bool.and_eq_true, decide_eq_true_eq] at h
    exact ⟨size_no _ h1.1, size_no _ h1.2.1, h1.2.2.1, h1.2.2.2, h.1.1, h.1.2, List.eq_nil_of_length_eq_zero h.2⟩
  · simp at h
theorem rC {f : Fr} (h0 : f.kind = 2) (h : rightF f = true) : f.ident = ⟨#[]⟩ ∧ f.base = ⟨#[]⟩ ∧ f.signed = 0 ∧ f.once = 0 ∧ f.ratchet = ⟨#[]⟩ ∧ f.prev = 0 ∧ f.num = 0 ∧ f.body = ⟨#[]⟩ ∧ (∀ k ∈ f.keys, k.size = 32) ∧ f.keys.length ≤ 32 := by
  unfold rightF at h
  rw [if_neg (by omega)] at h
  split at h
  · rename_i h1
    rw [if_neg (by omega)] at h
    simp only [Bool.and_eq_true, decide_eq_true_eq] at h
    obtain ⟨⟨⟨⟨⟨⟨-, h2⟩, h3⟩, h4⟩, h5⟩, h6⟩, h7⟩ := h
    exact ⟨size_no _ h1.1, size_no _ h1.2.1, h1.2.2.1, h1.2.2.2, size_no _ h2, h4, h5, size_no _ h3, fun k hk => by simpa using List.all_eq_true.1 h6 k hk, h7⟩
  · simp at h
theorem right_kind {f : Fr} (h : rightF f = true) : f.kind = 0 ∨ f.kind = 1 ∨ f.kind = 2 := by
  unfold rightF at h
  split at h
  · exact Or.inl (by assumption)
  · split at h
    · split at h
      · exact Or.inr (Or.inl (by assumption))
      · simp only [Bool.and_eq_true, decide_eq_true_eq] at h
        exact Or.inr (Or.inr h.1.1.1.1.1.1)
    · simp at h
theorem allP_A {f : Fr} (h : f.kind = 0) : allP f = [np 0, np f.frm, np f.dst, np f.id, tp f.ident, tp f.base, np f.signed, np f.once, tp f.ratchet, np f.prev, np f.num, tp f.body] := by
  unfold allP headP; rw [h]; rfl
theorem allP_B {f : Fr} (h : f.kind = 1) : allP f = [np 1, np f.frm, np f.dst, np f.id, tp f.ratchet, np f.prev, np f.num, tp f.body] := by
  unfold allP headP; rw [h]; rfl
theorem allP_C {f : Fr} (h : f.kind = 2) : allP f = [np 2, np f.frm, np f.dst, np f.id] ++ np f.keys.length :: f.keys.map tp := by
  unfold allP headP; rw [h]; rfl
theorem long_np (n : Nat) : longP (np n) = false := rfl
theorem long_tp (s : ByteArray) (h : s.size ≤ 1024) : longP (tp s) = false := by
  show (true && decide (1024 < s.size)) = false; rw [decide_eq_false (by omega)]; rfl
end Go.Proofs.YtdnjieffbgmagaaDoor

/- A frame in a block, read and stored whole. -/
namespace Go.Proofs.YtdnjieffbgmagaaDoor
open Go.RowKit Go.Sort
set_option maxRecDepth 100000
/-- block B holds the values vs, all of them may be written -/
def BlkV (w : World) (B : Nat) (t : TypeId) (vs : List Value) : Prop := w.heap[B]? = some (.cells vs.toArray t (0, 0))
theorem BlkV.lt {w : World} {B : Nat} {t : TypeId} {l : List Value} (h : BlkV w B t l) : B < w.heap.size := by
  unfold BlkV at h
  exact (Array.getElem?_eq_some_iff.1 h).1
theorem BlkV.cell {w : World} {B : Nat} {t : TypeId} {l : List Value} (h : BlkV w B t l) (i : Nat) (v : Value) (hv : l[i]? = some v) : w.cell? ⟨B, i, none⟩ = some v := by
  rw [cell_of_row w B i _ t (0, 0) h]
  simpa using hv
theorem BlkV.frozen {w : World} {B : Nat} {t : TypeId} {l : List Value} (h : BlkV w B t l) (i : Nat) : w.frozen? ⟨B, i, none⟩ = false := frozen_of_row w B i _ t h
theorem BlkV.set {w : World} {B : Nat} {t : TypeId} {l : List Value} (h : BlkV w B t l) (i : Nat) (v : Value) : BlkV (w.setCell ⟨B, i, none⟩ v) B t (l.set i v) := by
  unfold BlkV
  rw [heap_setCell_same w B i _ t _ h]
  congr 2
  apply Array.ext'
  simp
theorem BlkV.far {w : World} {B : Nat} {t : TypeId} {l : List Value} (h : BlkV w B t l) (a : Addr) (hne : B ≠ a.block) (v : Value) : BlkV (w.setCell a v) B t l := by
  unfold BlkV
  rw [heap_setCell_other w a B v hne]; exact h
theorem BlkV.on {w w' : World} {B : Nat} {t : TypeId} {l : List Value} (h : BlkV w B t l) (hb : Below w.heap.size w w') : BlkV w' B t l := by
  unfold BlkV
  rw [hb.block B h.lt]; exact h
theorem BlkV.alloc {w : World} {B : Nat} {t : TypeId} {l : List Value} (h : BlkV w B t l) (o : Obj) : BlkV (w.alloc o) B t l := h.on ((Below.refl _ _).alloc (Nat.le_refl _) o)
theorem BlkV.fresh (w : World) (t : TypeId) (l : List Value) (cs : Array Value) (hc : cs = l.toArray) (n : Nat) (hn : n = w.heap.size) : BlkV (w.alloc (.cells cs t)) n t l := by
  subst hn hc; exact heap_alloc_new w _
theorem BlkV.stored {w : World} {B : Nat} {t : TypeId} {l : List Value} (h : BlkV w B t l) (l' : List Value) (hl : l'.length = l.length) : BlkV (w.setCells B 0 l') B t l' := by
  have := heap_setCells_all B t l' [] l w (by simp [hl]) h
  simpa [BlkV] using this
theorem BlkV.farS {w : World} {B B' : Nat} {t : TypeId} {l : List Value} (h : BlkV w B t l) (hne : B ≠ B') (vs : List Value) : BlkV (w.setCells B' 0 vs) B t l := by
  unfold BlkV; rw [heap_setCells_other B' B hne]; exact h
theorem BlkV.there {w : World} {B : Nat} {t : TypeId} {l : List Value} (h : BlkV w B t l) (n : Nat) (hn : n ≤ l.length) : w.there B 0 n := by
  intro j hj
  rw [Nat.zero_add, h.frozen j, h.cell j l[j] (by simp [List.getElem?_eq_getElem (show j < l.length by omega)])]
  exact ⟨rfl, rfl⟩
theorem BlkV.range {w : World} {B : Nat} {t : TypeId} {l : List Value} (h : BlkV w B t l) : w.rangeAt B 0 l := by
  intro j v hv
  rw [Nat.zero_add]
  exact h.cell j v hv
theorem load_v {P : Program} {ops : Array Oper} {rest : List Oper} {o : Oper} {a : Act} {Q : Exit → Act → World → Prop} {w : World} (hgd : o.guard = none) (T : TypeId) (x : Operand) (ho : o.op = .load T x)
    (B : Nat) (hx : a.eval x = .pointer (some ⟨B, 0, none⟩)) {t : TypeId} {l : List Value} (hb : BlkV w B t l) {d : TypeDesc} (hu : P.underlying T = some d) (hd : d.isRow = true) (hi : (P.info? T).map (·.size) = some l.length)
    (h : wpList P ops Q rest (a.put o.dst (.agg l.toArray)) w) : wpList P ops Q (o :: rest) a w :=
  wpList_load_mid hgd T x ho B 0 hx l d hb.range hu hd hi h
theorem store_v {P : Program} {ops : Array Oper} {rest : List Oper} {o : Oper} {a : Act} {Q : Exit → Act → World → Prop} {w : World} (hgd : o.guard = none) (hdst : o.dst = none) (T : TypeId) (x y : Operand) (ho : o.op = .store T x y)
    (B : Nat) (hx : a.eval x = .pointer (some ⟨B, 0, none⟩)) {l' : List Value} (hy : a.eval y = .agg l'.toArray) {t : TypeId} {l : List Value} (hb : BlkV w B t l) (hl : l'.length = l.length) (h1 : ∀ v ∈ l', v.oneCell' = true)
    (hi : (P.info? T).map (·.size) = some l.length)
    (h : wpList P ops Q rest a (w.setCells B 0 l')) : wpList P ops Q (o :: rest) a w := by
  refine wpList_store_mid hgd T x y ho B 0 l'.toArray hx hy ?_ ?_ ?_ ?_
  · rw [List.size_toArray, hl]; exact hb.there _ (Nat.le_refl _)
  · rw [List.size_toArray, hl]; exact hi
  · exact all_oneCell_toArray h1
  · rw [hdst]; simpa [Act.put] using h
theorem results_v {P : Program} {fn : Func} {p : Tmp} {T : TypeId} (h : fn.results = #[.cell p T]) (tmps : Array Value) (w : World) (B : Nat) {t : TypeId} {l : List Value} {d : TypeDesc}
    (hp : tmps.getD p undef = .pointer (some ⟨B, 0, none⟩)) (hb : BlkV w B t l) (hu : P.underlying T = some d) (hd : d.isRow = true) (hi : (P.info? T).map (·.size) = some l.length) :
    (results fn tmps).run P w = .ok (.agg l.toArray) w :=
  results_cell_row h tmps w B t _ (0, 0) d hp hb hu (by cases d <;> simp_all) (by rw [List.size_toArray]; exact hi)
/-- a frame's cells -/
def frL (f : Fr) (a : Option Addr) (c : Nat) : List Value := [.int .i64 f.kind, .int .u64 (f.frm : Int), .int .u64 (f.dst : Int), .int .u64 (f.id : Int), .string f.ident, .string f.base, .int .u64 (f.signed : Int), .int .u64 (f.once : Int), .string f.ratchet, .int .u64 (f.prev : Int), .int .u64 (f.num : Int), .string f.body, .slice a f.keys.length c]
end Go.Proofs.YtdnjieffbgmagaaDoor

/- Rows of a frame's fields in plain mathematics: what the package looks at is what the document asks. -/
namespace Go.Proofs.YtdnjieffbgmagaaDoor
set_option maxRecDepth 100000
instance : DecidableEq Pt := fun p q => decidable_of_iff (p.text = q.text ∧ p.n = q.n ∧ p.s = q.s) (by cases p; cases q; simp)
/-- by kind, the fields in the order of the bytes -/
def fmtL : Nat → List Nat
  | 0 => [0, 1, 2, 3, 4, 5, 6, 7, 8, 9, 10, 11]
  | 1 => [0, 1, 2, 3, 8, 9, 10, 11]
  | _ => [0, 1, 2, 3, 12]
/-- a frame's fields as parts -/
def rowL (f : Fr) : List Pt := [np (f.kind % 18446744073709551616).toNat, np f.frm, np f.dst, np f.id, tp f.ident, tp f.base, np f.signed, np f.once, tp f.ratchet, np f.prev, np f.num, tp f.body, np f.keys.length]
def noneL : List Pt := [np 0, np 0, np 0, np 0, tp ⟨#[]⟩, tp ⟨#[]⟩, np 0, np 0, tp ⟨#[]⟩, np 0, np 0, tp ⟨#[]⟩, np 0]
def fitsW (w : Nat) (p : Pt) : Bool :=
  if w = 4 ∨ w = 5 ∨ w = 8 then decide (p.s.size = 32) else if w = 11 then decide (p.s.size ≤ 1024) else if w = 12 then decide (p.n ≤ 32) else true
/-- what is left of a row, where all of its fields fit -/
def leftW : List Pt → List Nat → Option (List Pt)
  | l, [] => some l
  | l, w :: ws => if fitsW w (l.getD w p0) = true then leftW (l.set w (noneL.getD w p0)) ws else none
def keysB (l : List ByteArray) : Bool := l.all fun x => decide (x.size = 32)
theorem fmt_lt (k w : Nat) (h : w ∈ fmtL k) : w < 13 := by
  unfold fmtL at h
  split at h <;> simp at h <;> omega
theorem fmt_get (k i : Nat) (h : i < (fmtL k).length) : (fmtL k).getD i 0 < 13 := by
  have e : (fmtL k).getD i 0 = (fmtL k)[i] := by simp [List.getD, h]
  rw [e]; exact fmt_lt k _ (List.getElem_mem h)
theorem fmt_len (k : Nat) : 5 ≤ (fmtL k).length ∧ (fmtL k).length ≤ 12 := by
  unfold fmtL; split <;> decide
theorem np_inj (a b : Nat) : (np a = np b) = (a = b) := by
  unfold np; simp
theorem tp_none (s : ByteArray) : (tp s = tp ⟨#[]⟩) = (s.size = 0) := by
  unfold tp
  simp only [Pt.mk.injEq, true_and]
  apply propext
  constructor
  · rintro rfl; rfl
  · exact size_no s
theorem keysB_nil (l : List ByteArray) (h : l.length = 0) : keysB l = true := by
  rw [List.eq_nil_of_length_eq_zero h]; rfl
def rightP (k : Nat) (f : Fr) : Bool :=
  match leftW (rowL f) (fmtL k) with
  | none => false
  | some l => decide (l = noneL) && keysB f.keys
theorem right_0 (f : Fr) (h : f.kind = 0) : rightP 0 f = rightF f := by
  obtain ⟨kd, fm, dt, fi, it, bs, sg, oc, rt, pv, nm, bd, ks⟩ := f
  simp only at h
  subst h
  simp only [rightP, leftW, fmtL, rowL, noneL, fitsW, List.getD_cons_zero, List.getD_cons_succ, List.set_cons_zero, List.set_cons_succ, rightF]
  simp only [np, tp]
  by_cases h1 : it.size = 32
  · by_cases h2 : bs.size = 32
    · by_cases h3 : rt.size = 32
      · by_cases h4 : bd.size ≤ 1024
        · by_cases h5 : ks.length = 0
          · simp [h1, h2, h3, h4, h5, keysB_nil]
          · simp [h1, h2, h3, h4, h5]
        · simp [h1, h2, h3, h4]
      · simp [h1, h2, h3]
    · simp [h1, h2]
  · simp [h1]
theorem right_1 (f : Fr) (h : f.kind = 1) : rightP 1 f = rightF f := by
  obtain ⟨kd, fm, dt, fi, it, bs, sg, oc, rt, pv, nm, bd, ks⟩ := f
  simp only at h
  subst h
  simp only [rightP, leftW, fmtL, rowL, noneL, fitsW, List.getD_cons_zero, List.getD_cons_succ, List.set_cons_zero, List.set_cons_succ, rightF]
  by_cases h3 : rt.size = 32
  · by_cases h4 : bd.size ≤ 1024
    · by_cases h5 : ks.length = 0
      · by_cases h1 : it.size = 0
        · by_cases h2 : bs.size = 0
          · by_cases h6 : sg = 0
            · by_cases h7 : oc = 0
              · simp [h1, h2, h3, h4, h5, h6, h7, keysB_nil, tp_none, show (tp rt).s = rt from rfl, show (tp bd).s = bd from rfl]
              · simp [h1, h2, h3, h4, h5, h6, h7, tp_none, np_inj, show (tp rt).s = rt from rfl, show (tp bd).s = bd from rfl]
            · simp [h1, h2, h3, h4, h5, h6, tp_none, np_inj, show (tp rt).s = rt from rfl, show (tp bd).s = bd from rfl]
          · simp [h1, h2, h3, h4, h5, tp_none, np_inj, show (tp rt).s = rt from rfl, show (tp bd).s = bd from rfl]
        · simp [h1, h3, h4, h5, tp_none, np_inj, show (tp rt).s = rt from rfl, show (tp bd).s = bd from rfl]
      · simp [h3, h4, h5, tp_none, np_inj, show (tp rt).s = rt from rfl, show (tp bd).s = bd from rfl]
    · simp [h3, h4, show (tp rt).s = rt from rfl, show (tp bd).s = bd from rfl]
  · simp [h3, show (tp rt).s = rt from rfl]
theorem right_2 (f : Fr) (h : f.kind = 2) : rightP 2 f = rightF f := by
  obtain ⟨kd, fm, dt, fi, it, bs, sg, oc, rt, pv, nm, bd, ks⟩ := f
  simp only at h
  subst h
  simp only [rightP, leftW, fmtL, rowL, noneL, fitsW, List.getD_cons_zero, List.getD_cons_succ, List.set_cons_zero, List.set_cons_succ, rightF]
  by_cases h8 : ks.length ≤ 32
  · by_cases h1 : it.size = 0 ∧ bs.size = 0 ∧ sg = 0 ∧ oc = 0
    · obtain ⟨a1, a2, a3, a4⟩ := h1
      by_cases h2 : rt.size = 0
      · by_cases h3 : bd.size = 0
        · by_cases h4 : pv = 0
          · by_cases h5 : nm = 0
            · simp [a1, a2, a3, a4, h2, h3, h4, h5, h8, keysB, tp_none, show (np ks.length).n = ks.length from rfl]
            · simp [a1, a2, a3, a4, h2, h3, h4, h5, h8, tp_none, np_inj, show (np ks.length).n = ks.length from rfl]
          · simp [a1, a2, a3, a4, h2, h3, h4, h8, tp_none, np_inj, show (np ks.length).n = ks.length from rfl]
        · simp [a1, a2, a3, a4, h2, h3, h8, tp_none, np_inj, show (np ks.length).n = ks.length from rfl]
      · simp [a1, a2, a3, a4, h2, h8, tp_none, np_inj, show (np ks.length).n = ks.length from rfl]
    · simp [h8, tp_none, np_inj, show (np ks.length).n = ks.length from rfl]
      simp only [keysB, Bool.and_assoc, Bool.and_comm, Bool.and_left_comm]
  · simp [h8, show (np ks.length).n = ks.length from rfl]
theorem right_kindP (f : Fr) (k : Nat) (hk : k < 3) (h : f.kind = (k : Int)) : rightP k f = rightF f := by
  match k, hk with
  | 0, _ => exact right_0 f h
  | 1, _ => exact right_1 f h
  | 2, _ => exact right_2 f h
theorem right_not (f : Fr) (h : ¬ (0 ≤ f.kind ∧ f.kind < 3)) : rightF f = false := by
  rw [Bool.eq_false_iff]
  intro hr
  rcases right_kind hr with e | e | e <;> omega
/-- the parts that are put -/
def partsF (k : Nat) (f : Fr) : List Pt := (fmtL k).map fun w => (rowL f).getD w p0
theorem parts_all (f : Fr) (k : Nat) (hk : k < 3) (h : f.kind = (k : Int)) (hr : rightF f = true) : partsF k f ++ f.keys.map tp = allP f := by
  match k, hk with
  | 0, _ =>
    obtain ⟨-, -, -, -, h5⟩ := rA h hr
    rw [allP_A h]
    unfold partsF rowL
    rw [h, h5]; rfl
  | 1, _ =>
    obtain ⟨-, -, -, -, -, -, h5⟩ := rB h hr
    rw [allP_B h]
    unfold partsF rowL
    rw [h, h5]; rfl
  | 2, _ =>
    rw [allP_C h]
    unfold partsF rowL
    rw [h]; rfl
theorem parts_head (f : Fr) (k : Nat) (hk : k < 3) (h : f.kind = (k : Int)) : (partsF k f).take ((fmtL k).length - 1) = headP f := by
  match k, hk with
  | 0, _ => unfold partsF rowL headP; rw [h]; rfl
  | 1, _ => unfold partsF rowL headP; rw [h]; rfl
  | 2, _ => unfold partsF rowL headP; rw [h]; rfl
theorem partsF_length (k : Nat) (f : Fr) : (partsF k f).length = (fmtL k).length := by unfold partsF; rw [List.length_map]
def blank : List Pt := List.replicate 13 p0
end Go.Proofs.YtdnjieffbgmagaaDoor

/- The package frame's small calls: number, text, isKey, isKind, fits, areKeys, wireKind. -/
namespace Go.Proofs.YtdnjieffbgmagaaDoor
open Go.RowKit Go.Sort
set_option maxRecDepth 100000
set_option maxHeartbeats 400000 in
theorem fNumber_any (n : Nat) (w : World) :
    Calls Tryd.prog 56 #[.int .u64 (n : Int)] w fun e w' => e = .returned (pv (np n)) ∧ Below w.heap.size w w' := by
  have hS : BlkV (w.alloc (.cells #[.bool false, .int .u64 0, .string ⟨#[]⟩] 77)) w.heap.size 77 (pcs p0) := BlkV.fresh _ _ _ _ rfl _ rfl
  have hB : Below w.heap.size w (w.alloc (.cells #[.bool false, .int .u64 0, .string ⟨#[]⟩] 77)) := (Below.refl _ _).alloc (Nat.le_refl _) _
  have HS := Lib.hid hS; have HB := Lib.hid hB
  clear hS hB
  go_enter Tryd.func56, Tryd.ntmps56
  go_upto_region 1 with fail
  generalize World.alloc w _ = V at HS HB ⊢
  refine wp_region_lit ?_
  iterate 2 (refine wpList_step (fun K hK => ?_); go_simp; refine hK _ _ ?_; clear hK K)
  refine store_v rfl rfl _ _ _ rfl w.heap.size rfl (l' := pcs (np n)) rfl HS.out rfl (by intro v hv; simp [pcs] at hv; rcases hv with rfl | rfl | rfl <;> rfl) (by kernel_rfl) ?_
  refine wpList_nil ?_
  have hF := HS.out.stored (pcs (np n)) rfl
  have hBF := below_setCells (Nat.le_refl w.heap.size) (pcs (np n)) 0 _ HB.out
  generalize World.setCells V _ _ _ = W at hF hBF ⊢
  rename_i K hK
  refine hK _ _ ?_
  refine wp_ret ?_
  exact bodyPost_ret (results_v (p := 2) (T := 77) (by kernel_rfl) _ _ w.heap.size rfl hF Tryd.underlying77 rfl (by kernel_rfl)) rfl ⟨rfl, hBF⟩
set_option maxHeartbeats 400000 in
theorem fText_any (s : ByteArray) (w : World) :
    Calls Tryd.prog 57 #[.string s] w fun e w' => e = .returned (pv (tp s)) ∧ Below w.heap.size w w' := by
  have hS : BlkV (w.alloc (.cells #[.bool false, .int .u64 0, .string ⟨#[]⟩] 77)) w.heap.size 77 (pcs p0) := BlkV.fresh _ _ _ _ rfl _ rfl
  have hB : Below w.heap.size w (w.alloc (.cells #[.bool false, .int .u64 0, .string ⟨#[]⟩] 77)) := (Below.refl _ _).alloc (Nat.le_refl _) _
  have HS := Lib.hid hS; have HB := Lib.hid hB
  clear hS hB
  go_enter Tryd.func57, Tryd.ntmps57
  go_upto_region 1 with fail
  generalize World.alloc w _ = V at HS HB ⊢
  refine wp_region_lit ?_
  iterate 2 (refine wpList_step (fun K hK => ?_); go_simp; refine hK _ _ ?_; clear hK K)
  refine store_v rfl rfl _ _ _ rfl w.heap.size rfl (l' := pcs (tp s)) rfl HS.out rfl (by intro v hv; simp [pcs] at hv; rcases hv with rfl | rfl | rfl <;> rfl) (by kernel_rfl) ?_
  refine wpList_nil ?_
  have hF := HS.out.stored (pcs (tp s)) rfl
  have hBF := below_setCells (Nat.le_refl w.heap.size) (pcs (tp s)) 0 _ HB.out
  generalize World.setCells V _ _ _ = W at hF hBF ⊢
  rename_i K hK
  refine hK _ _ ?_
  refine wp_ret ?_
  exact bodyPost_ret (results_v (p := 2) (T := 77) (by kernel_rfl) _ _ w.heap.size rfl hF Tryd.underlying77 rfl (by kernel_rfl)) rfl ⟨rfl, hBF⟩
theorem size_beq (s : ByteArray) (n : Nat) : ((s.size : Int) == (n : Int)) = decide (s.size = n) := nat_eq s.size n
set_option maxHeartbeats 400000 in
theorem isKeyT_any (s : ByteArray) (w : World) :
    Calls Tryd.prog 58 #[.string s] w fun e w' => e = .returned (.bool (decide (s.size = 32))) ∧ w = w' := by
  go_enter Tryd.func58, Tryd.ntmps58
  go_wp2_with fail
  go_ret
  exact ⟨ret_bool (size_beq s 32), rfl⟩
set_option maxHeartbeats 400000 in
theorem isKind_any (k : Int) (w : World) :
    Calls Tryd.prog 41 #[.int .i64 k] w fun e w' => e = .returned (.bool (decide (0 ≤ k ∧ k < 3))) ∧ w = w' := by
  by_cases h0 : 0 ≤ k
  · by_cases h3 : k < 3
    · rw [decide_eq_true (And.intro h0 h3)]
      go_enter Tryd.func41, Tryd.ntmps41
      go_wp2_with fail
      go_ret
      exact ⟨rfl, rfl⟩
    · rw [decide_eq_false (fun h => h3 h.2)]
      go_enter Tryd.func41, Tryd.ntmps41
      go_wp2_with fail
      go_ret
      exact ⟨rfl, rfl⟩
  · rw [decide_eq_false (fun h => h0 h.1)]
    go_enter Tryd.func41, Tryd.ntmps41
    go_wp2_with fail
    go_ret
    exact ⟨rfl, rfl⟩
set_option maxHeartbeats 2000000 in
theorem fFits_any (k : Nat) (hk : k < 13) (p : Pt) (w : World) :
    Calls Tryd.prog 43 #[.int .i64 (k : Int), pv p] w fun e w' => e = .returned (.bool (fitsW k p)) ∧ Below w.heap.size w w' := by
  obtain ⟨t, n, s⟩ := p
  have hb : Below w.heap.size w (w.alloc (.cells #[.bool t, .int .u64 (n : Int), .string s] 77)) := (Below.refl _ _).alloc (Nat.le_refl _) _
  have HB := Lib.hid hb
  have HK := Lib.hid (isKeyT_any s)
  clear hb
  unfold pv
  simp only
  match k, hk with
  | 0, _ | 1, _ | 2, _ | 3, _ | 6, _ | 7, _ | 9, _ | 10, _ =>
    go_enter Tryd.func43, Tryd.ntmps43
    go_wp2_with fail
    go_ret
    exact ⟨rfl, HB.out⟩
  | 4, _ | 5, _ | 8, _ =>
    go_enter Tryd.func43, Tryd.ntmps43
    go_wp2_with fail
    refine (HK.out _).mono ?_
    rintro e w1 ⟨rfl, rfl⟩
    go_wp2_with fail
    go_ret
    exact ⟨rfl, HB.out⟩
  | 11, _ =>
    go_enter Tryd.func43, Tryd.ntmps43
    go_wp2_with fail
    go_ret
    exact ⟨ret_bool (by show _ = decide (s.size ≤ 1024); by_cases h : s.size ≤ 1024 <;> simp [h] <;> omega), HB.out⟩
  | 12, _ =>
    go_enter Tryd.func43, Tryd.ntmps43
    go_wp2_with fail
    go_ret
    exact ⟨ret_bool (by show _ = decide (n ≤ 32); by_cases h : n ≤ 32 <;> simp [h] <;> omega), HB.out⟩
set_option maxHeartbeats 1000000 in
theorem areKeys_any (a : Option Addr) (c : Nat) (l : List ByteArray) (hl : l.length ≤ maxLen) (w : World) (hp : SSl w a l) :
    Calls Tryd.prog 44 #[.slice a l.length c] w fun e w' => e = .returned (.bool (keysB l)) ∧ w = w' := by
  have HP := Lib.hid hp; have HL := Lib.hid hl
  clear hp hl
  unfold keysB
  go_enter Tryd.func44, Tryd.ntmps44
  go_wp2_with fail
  go_loopw [7] (KeysRel w l) (fun i _ => l.length - (intOf i).toNat)
  case atStart => exact ⟨0, Nat.zero_le _, rfl, rfl, rfl⟩
  case round =>
    obtain ⟨k, hk, rfl, hall, rfl⟩ := hrel
    by_cases hlt : k < l.length
    · have h1 : (k : Int) < (l.length : Int) := by omega
      have h1k : (k : Int) < 9223372036854775807 := by have := HL.out; unfold maxLen at this; omega
      obtain ⟨b, off, rfl, hbl, hc⟩ := HP.out (by omega)
      have hcell := hc k hlt
      have hst := all_step l k hlt _ hall
      have hstop := all_stop l k hlt (fun x => decide (x.size = 32))
      obtain ⟨x, ex⟩ : ∃ x, l.getD k ⟨#[]⟩ = x := ⟨_, rfl⟩
      rw [ex] at hcell hst hstop
      have HK := Lib.hid (isKeyT_any x)
      by_cases hx : x.size = 32
      · rw [decide_eq_true hx] at hst
        have HST := Lib.hid hst
        rw [decide_eq_true hx] at HK
        clear hc hst hstop ex hall hx
        go_wp2_with fail
        refine (HK.out _).mono ?_
        rintro e w1 ⟨rfl, rfl⟩
        go_wp2_with fail
        exact ⟨⟨k + 1, by omega, by simp, HST.out, rfl⟩, by simp [intOf]; omega⟩
      · have HST := Lib.hid (hstop (decide_eq_false hx))
        rw [decide_eq_false hx] at HK
        clear hc hst hstop ex hall hx
        go_wp2_with fail
        refine (HK.out _).mono ?_
        rintro e w1 ⟨rfl, rfl⟩
        go_wp2_with fail
        go_ret
        rw [HST.out]
        exact ⟨rfl, rfl⟩
    · obtain rfl : k = l.length := by omega
      rw [List.take_of_length_le (Nat.le_refl _)] at hall
      have HA := Lib.hid hall
      have hn : ¬ (l.length : Int) < (l.length : Int) := by omega
      clear hall
      go_wp2_with fail
      go_ret
      rw [HA.out]
      exact ⟨rfl, rfl⟩
end Go.Proofs.YtdnjieffbgmagaaDoor
