/- The contracts of derive's hashed, tag, begin, Tag and Extract. -/
import Derived.Test.YtdnjieffbgmagaaDoorFmask
import Derived.Test.YtdnjieffbgmagaaDoorBg1
namespace Go.Proofs.YtdnjieffbgmagaaDoor
open Go.RowKit
set_option maxRecDepth 100000
theorem hash_of (l : List UInt8) (x : ByteArray) (hx : bl x = restOf l) : rightB 8 x.size l.length = true := by
  unfold rightB
  have := restOf_length l
  rw [← hx, bl_length] at this
  simp; omega
/-- a sum on its way in block n -/
def HCell (w : World) (n : Nat) (l : List UInt8) : Prop :=
  ∃ (g o c : Nat) (x : ByteArray), w.heap[n]? = some (.cells #[.slice (some ⟨g, o, none⟩) 8 c, .string x, .int .u64 ((l.length : Nat) : Int)] 118 (0, 0)) ∧ WsAt w (.slice (some ⟨g, o, none⟩) 8 c) (mixAll firstS l).l ∧ bl x = restOf l ∧ g ≠ n
def HashedRel (w : World) (p : List UInt8) (ts : List ByteArray) (i : Value) (wr : World) : Prop :=
  ∃ k : Nat, k ≤ ts.length ∧ i = .int .i64 (k : Int) ∧ HCell wr w.heap.size (p ++ flat (ts.take k)) ∧ Below w.heap.size w wr

set_option maxHeartbeats 4000000 in
theorem hashed_any (v tv : Value) (p : List UInt8) (ts : List ByteArray) (hl : (p ++ flat ts).length ≤ 100000) (hts : ts.length ≤ 1000) (w : World) (hv : HashV w v (mixAll firstS p) (restOf p) p.length) (ht : StrsAt w tv ts) (hK : KeysAt w) :
    Calls Tryd.prog 91 #[v, tv] w fun e w' => e = .returned (.string (strL (ofL (p ++ flat ts)))) ∧ Below w.heap.size w w' := by
  obtain ⟨g, o, c, x, rfl, hws, hx⟩ := hv
  obtain ⟨bt, ot, ct, rfl, hbt, hct⟩ := ht
  have hg : g < w.heap.size := by
    obtain ⟨b, off, cap, e, hlt, -⟩ := id hws
    cases e
    exact hlt
  have hb0 : Below w.heap.size w (w.alloc (.cells #[.slice (some ⟨g, o, none⟩) 8 c, .string x, .int .u64 ((p.length : Nat) : Int)] 118)) := by go_grown
  have h0 : HCell (w.alloc (.cells #[.slice (some ⟨g, o, none⟩) 8 c, .string x, .int .u64 ((p.length : Nat) : Int)] 118)) w.heap.size (p ++ flat (ts.take 0)) := by
    refine ⟨g, o, c, x, ?_, ?_, ?_, by omega⟩
    · rw [heap_alloc_new]; simp [flat]
    · have := hws.on hb0; simpa [flat] using this
    · simpa [flat] using hx
  have HCT := Lib.hid hct; have H0 := Lib.hid h0; have HB0 := Lib.hid hb0
  have hln : w.heap.size < (w.alloc (.cells #[.slice (some ⟨g, o, none⟩) 8 c, .string x, .int .u64 ((p.length : Nat) : Int)] 118)).heap.size := by simp
  clear hct h0 hb0 hws hx
  have hflat := flat_le ts
  rw [List.length_append] at hl
  go_enter Tryd.func91, Tryd.ntmps91
  go_wp2_with fail
  generalize World.alloc w _ = W at H0 HB0 hln ⊢
  go_loopw [11] (HashedRel w p ts) (fun i _ => ts.length - (intOf i).toNat)
  case atStart => exact ⟨0, by omega, rfl, H0.out, HB0.out⟩
  case round =>
    clear H0 HB0 hln
    obtain ⟨k, hk, rfl, hH, hbl⟩ := hrel
    obtain ⟨l, hl2⟩ : ∃ l, p ++ flat (ts.take k) = l := ⟨_, rfl⟩
    have hll : l.length ≤ 100000 := by rw [← hl2, List.length_append]; have := hflat k; omega
    rw [hl2] at hH
    obtain ⟨g, o, c, x, hB, hws, hx, hgn⟩ := hH
    have hr := hash_of l x hx
    have c0 : wr.cell? ⟨w.heap.size, 0, none⟩ = some (.slice (some ⟨g, o, none⟩) 8 c) := by rw [cell_of_row _ _ _ _ _ _ hB]; rfl
    have c1 : wr.cell? ⟨w.heap.size, 1, none⟩ = some (.string x) := by rw [cell_of_row _ _ _ _ _ _ hB]; rfl
    have c2 : wr.cell? ⟨w.heap.size, 2, none⟩ = some (.int .u64 ((l.length : Nat) : Int)) := by rw [cell_of_row _ _ _ _ _ _ hB]; rfl
    have hnl : w.heap.size < wr.heap.size := (Array.getElem?_eq_some_iff.1 hB).1
    have hKr := hK.on hbl
    have HB := Lib.hid hB; have HWS := Lib.hid hws; have HKR := Lib.hid hKr; have HL2 := Lib.hid hl2
    by_cases hlt : k < ts.length
    · have l1 : (k : Int) < (ts.length : Int) := by omega
      have ct' : wr.cell? ⟨bt, ot + k, none⟩ = some (.string (ts.getD k ⟨#[]⟩)) := by rw [hbl.cell (p := ⟨bt, ot + k, none⟩) hbt]; exact HCT.out k hlt
      have hfl := flat_step ts k hlt
      have hfl2 := hflat (k + 1)
      obtain ⟨y, hy⟩ : ∃ y, ts.getD k ⟨#[]⟩ = y := ⟨_, rfl⟩
      rw [hy] at ct' hfl
      have hyl : y.size ≤ 100000 := by rw [hfl, List.length_append, bl_length] at hfl2; omega
      have hnext : p ++ flat (ts.take (k + 1)) = l ++ bl y := by rw [hfl, ← List.append_assoc, hl2]
      have hwr := write_good (some ⟨g, o, none⟩) 8 c (mixAll firstS l) x y l.length (by omega) hr (by omega) wr hws hKr
      rw [hx, mix_app, rest_app, show (l.length + y.size) % 18446744073709551616 = (l ++ bl y).length by rw [List.length_append, bl_length]; omega] at hwr
      have HWR := Lib.hid hwr; have HNX := Lib.hid hnext
      clear hwr hnext hfl hfl2 hy hB hws hKr hl2 hx hr
      go_wp2_with fail
      refine HWR.out.mono ?_
      rintro e w2 ⟨D, x2, rfl, hblk, hx2, hb2⟩
      have hB2 : w2.heap[w.heap.size]? = some (.cells #[.slice (some ⟨g, o, none⟩) 8 c, .string x, .int .u64 ((l.length : Nat) : Int)] 118 (0, 0)) := by rw [hb2.block _ hnl]; exact HB.out
      have d0 : w2.cell? ⟨w.heap.size, 0, none⟩ = some (.slice (some ⟨g, o, none⟩) 8 c) := by rw [cell_of_row _ _ _ _ _ _ hB2]; rfl
      have d1 : w2.cell? ⟨w.heap.size, 1, none⟩ = some (.string x) := by rw [cell_of_row _ _ _ _ _ _ hB2]; rfl
      have d2 : w2.cell? ⟨w.heap.size, 2, none⟩ = some (.int .u64 ((l.length : Nat) : Int)) := by rw [cell_of_row _ _ _ _ _ _ hB2]; rfl
      have f0 := frozen_of_row w2 w.heap.size 0 _ _ hB2
      have f1 := frozen_of_row w2 w.heap.size 1 _ _ hB2
      have f2 := frozen_of_row w2 w.heap.size 2 _ _ hB2
      have hne : D ≠ w.heap.size := by
        rintro rfl
        have h8 := hblk
        unfold BlkW at h8
        rw [hB2] at h8
        have := congrArg (fun o => match o with | some (Obj.cells cs _ _) => cs.size | _ => 0) h8
        simp [Wd, S8.l] at this
      have hst := store3 hB2 (.slice (some ⟨D, 0, none⟩) 8 8) (.string x2) (.int .u64 (((l ++ bl y).length : Nat) : Int))
      have hkk := ((hblk.far ⟨w.heap.size, 0, none⟩ hne (.slice (some ⟨D, 0, none⟩) 8 8)).far ⟨w.heap.size, 1, none⟩ hne (.string x2)).far ⟨w.heap.size, 2, none⟩ hne (.int .u64 (((l ++ bl y).length : Nat) : Int))
      have hbb : Below w.heap.size w _ := (((hbl.trans (hb2.mono hbl.size)).setCell (p := ⟨w.heap.size, 0, none⟩) (Nat.le_refl _) (.slice (some ⟨D, 0, none⟩) 8 8)).setCell (p := ⟨w.heap.size, 1, none⟩) (Nat.le_refl _) (.string x2)).setCell (p := ⟨w.heap.size, 2, none⟩) (Nat.le_refl _) (.int .u64 (((l ++ bl y).length : Nat) : Int))
      have hfin : HCell _ w.heap.size (l ++ bl y) := ⟨D, 0, 8, x2, hst, hkk.ws 8 8 rfl, hx2, hne⟩
      have HFIN := Lib.hid hfin; have HBB := Lib.hid hbb
      clear hst hkk hfin hbb hblk hx2 hb2 hB2 hne HB HWS HKR HWR
      generalize (l ++ bl y).length = q at HFIN HBB ⊢
      go_wp2_with fail
      exact ⟨⟨k + 1, by omega, by simp, by rw [HNX.out]; exact HFIN.out, HBB.out⟩, by simp [intOf]; omega⟩
    · obtain rfl : k = ts.length := by omega
      have l1 : ¬ ((ts.length : Nat) : Int) < (ts.length : Int) := by omega
      have hsm := sum_good (some ⟨g, o, none⟩) 8 c (mixAll firstS l) x l.length (by omega) hr wr hws hKr
      have hof : sumL (mixAll firstS l) (bl x) l.length = ofL (p ++ flat ts) := by
        rw [hx, ← hl2, List.take_length]; rfl
      rw [hof] at hsm
      have HSM := Lib.hid hsm
      clear hsm hof hB hws hKr hl2 hx hr HB HWS HKR HL2 HCT
      obtain ⟨S, hS⟩ : ∃ S, strL (ofL (p ++ flat ts)) = S := ⟨_, rfl⟩
      have HS := Lib.hid hS
      have HSM2 := HSM.out
      rw [hS] at HSM2
      have HSM := Lib.hid HSM2
      clear hS HSM2
      go_wp2_with fail
      refine HSM.out.mono ?_
      rintro e w2 ⟨rfl, hb2⟩
      clear c0 c1 c2
      go_wp2_with fail
      go_ret
      exact ⟨by rw [HS.out]; rfl, hbl.trans (hb2.mono hbl.size)⟩

/-- a key at work: two sums on their way -/
def TagV (w : World) (v : Value) (k : List UInt8) : Prop :=
  ∃ (gi oi ci : Nat) (xi : ByteArray) (go oo co : Nat) (xo : ByteArray), v = .agg #[.slice (some ⟨gi, oi, none⟩) 8 ci, .string xi, .int .u64 64, .slice (some ⟨go, oo, none⟩) 8 co, .string xo, .int .u64 64] ∧
    WsAt w (.slice (some ⟨gi, oi, none⟩) 8 ci) (mixAll firstS (maskL k 54)).l ∧ bl xi = restOf (maskL k 54) ∧ WsAt w (.slice (some ⟨go, oo, none⟩) 8 co) (mixAll firstS (maskL k 92)).l ∧ bl xo = restOf (maskL k 92)
theorem TagV.on {w w' : World} {v : Value} {k : List UInt8} (h : TagV w v k) (hb : Below w.heap.size w w') : TagV w' v k := by
  obtain ⟨gi, oi, ci, xi, go, oo, co, xo, rfl, h1, h2, h3, h4⟩ := h
  exact ⟨gi, oi, ci, xi, go, oo, co, xo, rfl, h1.on hb, h2, h3.on hb, h4⟩
set_option maxHeartbeats 4000000 in
theorem tag_any (v tv : Value) (k : List UInt8) (ts : List ByteArray) (hl : (flat ts).length ≤ 90000) (hts : ts.length ≤ 1000) (w : World) (hv : TagV w v k) (ht : StrsAt w tv ts) (hK : KeysAt w) :
    Calls Tryd.prog 86 #[v, tv] w fun e w' => e = .returned (.string (strL (tagL k (flat ts)))) ∧ Below w.heap.size w w' := by
  obtain ⟨gi, oi, ci, xi, go, oo, co, xo, rfl, hwi, hxi, hwo, hxo⟩ := hv
  obtain ⟨y, hy⟩ : ∃ y, strL (ofL (maskL k 54 ++ flat ts)) = y := ⟨_, rfl⟩
  have hyl : (bl y).length = 32 := by rw [← hy, bl_strL, ofL_length]
  have hf1 : flat [y] = bl y := by simp [flat]
  obtain ⟨S, hS⟩ : ∃ S, strL (tagL k (flat ts)) = S := ⟨_, rfl⟩
  have htag : strL (ofL (maskL k 92 ++ flat [y])) = S := by rw [hf1, ← hS, ← hy, bl_strL]; rfl
  have h1 : ∀ W : World, WsAt W (.slice (some ⟨gi, oi, none⟩) 8 ci) (mixAll firstS (maskL k 54)).l → StrsAt W tv ts → KeysAt W → Calls Tryd.prog 91 #[.agg #[.slice (some ⟨gi, oi, none⟩) 8 ci, .string xi, .int .u64 64], tv] W fun e w' => e = .returned (.string y) ∧ Below W.heap.size W w' := by
    intro W a b c
    have h := hashed_any (.agg #[.slice (some ⟨gi, oi, none⟩) 8 ci, .string xi, .int .u64 64]) tv (maskL k 54) ts (by rw [List.length_append, maskL_length]; omega) hts W ⟨gi, oi, ci, xi, by rw [maskL_length]; rfl, a, hxi⟩ b c
    rw [hy] at h
    exact h
  have h2 : ∀ (D : Nat) (W : World), WsAt W (.slice (some ⟨go, oo, none⟩) 8 co) (mixAll firstS (maskL k 92)).l → StrsAt W (.slice (some ⟨D, 0, none⟩) 1 1) [y] → KeysAt W → Calls Tryd.prog 91 #[.agg #[.slice (some ⟨go, oo, none⟩) 8 co, .string xo, .int .u64 64], .slice (some ⟨D, 0, none⟩) 1 1] W fun e w' => e = .returned (.string S) ∧ Below W.heap.size W w' := by
    intro D W a b c
    have h := hashed_any (.agg #[.slice (some ⟨go, oo, none⟩) 8 co, .string xo, .int .u64 64]) (.slice (some ⟨D, 0, none⟩) 1 1) (maskL k 92) [y] (by rw [List.length_append, maskL_length, hf1]; omega) (by simp) W ⟨go, oo, co, xo, by rw [maskL_length]; rfl, a, hxo⟩ b c
    rw [htag] at h
    exact h
  have H1 := Lib.hid h1; have H2 := Lib.hid h2; have HS := Lib.hid hS
  have hb0 : Below w.heap.size w (w.alloc (.cells #[.slice (some ⟨gi, oi, none⟩) 8 ci, .string xi, .int .u64 64, .slice (some ⟨go, oo, none⟩) 8 co, .string xo, .int .u64 64] 128)) := by go_grown
  have hc0 : (w.alloc (.cells #[.slice (some ⟨gi, oi, none⟩) 8 ci, .string xi, .int .u64 64, .slice (some ⟨go, oo, none⟩) 8 co, .string xo, .int .u64 64] 128)).heap[w.heap.size]? = some (.cells #[.slice (some ⟨gi, oi, none⟩) 8 ci, .string xi, .int .u64 64, .slice (some ⟨go, oo, none⟩) 8 co, .string xo, .int .u64 64] 128) := heap_alloc_new _ _
  have HT := Lib.hid (ht.on hb0); have HK := Lib.hid (hK.on hb0); have HWI := Lib.hid (hwi.on hb0); have HWO := Lib.hid (hwo.on hb0)
  clear h1 h2 htag hy hyl hf1 hl hS hxi hxo hwi hwo ht hK
  go_enter Tryd.func86, Tryd.ntmps86
  go_upto_region 1 with fail
  generalize World.alloc w _ = V at hb0 hc0 HT HK HWI HWO ⊢
  have c0 : V.cell? ⟨w.heap.size, 0, none⟩ = some (.slice (some ⟨gi, oi, none⟩) 8 ci) := by rw [cell_of_row _ _ _ _ _ _ hc0]; rfl
  have c1 : V.cell? ⟨w.heap.size, 1, none⟩ = some (.string xi) := by rw [cell_of_row _ _ _ _ _ _ hc0]; rfl
  have c2 : V.cell? ⟨w.heap.size, 2, none⟩ = some (.int .u64 64) := by rw [cell_of_row _ _ _ _ _ _ hc0]; rfl
  have c3 : V.cell? ⟨w.heap.size, 3, none⟩ = some (.slice (some ⟨go, oo, none⟩) 8 co) := by rw [cell_of_row _ _ _ _ _ _ hc0]; rfl
  have c4 : V.cell? ⟨w.heap.size, 4, none⟩ = some (.string xo) := by rw [cell_of_row _ _ _ _ _ _ hc0]; rfl
  have c5 : V.cell? ⟨w.heap.size, 5, none⟩ = some (.int .u64 64) := by rw [cell_of_row _ _ _ _ _ _ hc0]; rfl
  have HC6 := Lib.hid (show V.cell? ⟨w.heap.size, 0, none⟩ = some (.slice (some ⟨gi, oi, none⟩) 8 ci) ∧ V.cell? ⟨w.heap.size, 1, none⟩ = some (.string xi) ∧ V.cell? ⟨w.heap.size, 2, none⟩ = some (.int .u64 64) ∧ V.cell? ⟨w.heap.size, 3, none⟩ = some (.slice (some ⟨go, oo, none⟩) 8 co) ∧ V.cell? ⟨w.heap.size, 4, none⟩ = some (.string xo) ∧ V.cell? ⟨w.heap.size, 5, none⟩ = some (.int .u64 64) from ⟨c0, c1, c2, c3, c4, c5⟩)
  have bel_of6 : ∀ w' : World, ((w'.cell? ⟨w.heap.size, 0, none⟩ = some (.slice (some ⟨gi, oi, none⟩) 8 ci) ∧ w'.cell? ⟨w.heap.size, 1, none⟩ = some (.string xi) ∧ w'.cell? ⟨w.heap.size, 2, none⟩ = some (.int .u64 64) ∧ w'.cell? ⟨w.heap.size, 3, none⟩ = some (.slice (some ⟨go, oo, none⟩) 8 co) ∧ w'.cell? ⟨w.heap.size, 4, none⟩ = some (.string xo) ∧ w'.cell? ⟨w.heap.size, 5, none⟩ = some (.int .u64 64)) ∧ Bel V w') → Bel V w' := fun w' h => h.2
  have HB6 := Lib.hid bel_of6
  clear hc0 bel_of6
  have hS : (fun w' : World => (w'.cell? ⟨w.heap.size, 0, none⟩ = some (.slice (some ⟨gi, oi, none⟩) 8 ci) ∧ w'.cell? ⟨w.heap.size, 1, none⟩ = some (.string xi) ∧ w'.cell? ⟨w.heap.size, 2, none⟩ = some (.int .u64 64) ∧ w'.cell? ⟨w.heap.size, 3, none⟩ = some (.slice (some ⟨go, oo, none⟩) 8 co) ∧ w'.cell? ⟨w.heap.size, 4, none⟩ = some (.string xo) ∧ w'.cell? ⟨w.heap.size, 5, none⟩ = some (.int .u64 64)) ∧ Bel V w') V := ⟨HC6.out, Bel.refl V⟩
  go_region_held3 (fun w' : World => (w'.cell? ⟨w.heap.size, 0, none⟩ = some (.slice (some ⟨gi, oi, none⟩) 8 ci) ∧ w'.cell? ⟨w.heap.size, 1, none⟩ = some (.string xi) ∧ w'.cell? ⟨w.heap.size, 2, none⟩ = some (.int .u64 64) ∧ w'.cell? ⟨w.heap.size, 3, none⟩ = some (.slice (some ⟨go, oo, none⟩) 8 co) ∧ w'.cell? ⟨w.heap.size, 4, none⟩ = some (.string xo) ∧ w'.cell? ⟨w.heap.size, 5, none⟩ = some (.int .u64 64)) ∧ Bel V w')
    (first | with_reducible assumption | (refine bel_six HC6.out ?_; first | exact (HB6.out _ (by with_reducible assumption)) | ((with_reducible refine Bel.drew ?_); exact (HB6.out _ (by with_reducible assumption))) | ((with_reducible refine Bel.drew ?_); exact Bel.refl _) | ((with_reducible refine Bel.on ?_ hb); first | exact (HB6.out _ (by with_reducible assumption)) | exact Bel.drew (HB6.out _ (by with_reducible assumption)) | exact Bel.drew (Bel.refl _)) | ((with_reducible refine Bel.alloc ?_ _); exact (HB6.out _ (by with_reducible assumption)))))
    ((go_at_call 91; (first | (with_reducible refine (H1.out _ (HWI.out.bel (by first | exact (HB6.out _ (by with_reducible assumption)) | exact Bel.drew (Bel.refl _) | exact Bel.refl _)) (HT.out.on (Bel.b (by first | exact (HB6.out _ (by with_reducible assumption)) | exact Bel.drew (Bel.refl _) | exact Bel.refl _))) (HK.out.bel (by first | exact (HB6.out _ (by with_reducible assumption)) | exact Bel.drew (Bel.refl _) | exact Bel.refl _))).mono ?_) | (with_reducible refine (H2.out _ _ (HWO.out.bel (by first | exact (HB6.out _ (by with_reducible assumption)) | exact Bel.drew (Bel.refl _) | exact Bel.refl _)) (StrsAt.one _ _ _) (HK.out.bel (by first | exact (HB6.out _ (by with_reducible assumption)) | exact Bel.drew (Bel.refl _) | exact Bel.refl _))).mono ?_)); rintro e w' ⟨rfl, hb⟩))
  have hend : Below w.heap.size w w' := by
    have hq := HB6.out w' (by with_reducible assumption)
    exact hb0.trans (hq.b.mono hb0.size)
  clear HB6 HC6 H1 H2 hS c0 c1 c2 c3 c4 c5
  go_wp2_with fail
  go_ret
  exact ⟨by rw [HS.out]; rfl, hend⟩

/-- words don't lie in a block that holds none there -/
theorem WsAt.ne6 {w : World} {g o c B : Nat} {s : S8} {t : TypeId} (h : WsAt w (.slice (some ⟨g, o, none⟩) 8 c) s.l) (hR : w.heap[B]? = some (.cells #[.slice none 0 0, .string ⟨#[]⟩, .int .u64 0, .slice none 0 0, .string ⟨#[]⟩, .int .u64 0] t (0, 0))) : ∀ b k c', Value.slice (some ⟨g, o, none⟩) 8 c = .slice (some b) k c' → b.block ≠ B := by
  intro b k c' e hB
  cases e
  have hB' : g = B := hB
  subst hB'
  obtain ⟨g', o', c2, e, hlt, hc⟩ := h
  cases e
  have h0 := hc 0 (by rw [S8.l_length]; omega)
  rw [cell_of_row _ _ _ _ _ _ hR] at h0
  rcases o with _ | _ | _ | _ | _ | _ | o <;> simp at h0

set_option maxHeartbeats 4000000 in
theorem begin_any (x : ByteArray) (hx : x.size ≤ 1000000) (w : World) (hF : FirstAt w) (hK : KeysAt w) :
    Calls Tryd.prog 85 #[.string x] w fun e w' => ∃ v, e = .returned v ∧ TagV w' v (bl x) ∧ Below w.heap.size w w' := by
  have hb0 : Below w.heap.size w (w.alloc (.cells #[.slice none 0 0, .string ⟨#[]⟩, .int .u64 0, .slice none 0 0, .string ⟨#[]⟩, .int .u64 0] 128)) := by go_grown
  have h0 : (w.alloc (.cells #[.slice none 0 0, .string ⟨#[]⟩, .int .u64 0, .slice none 0 0, .string ⟨#[]⟩, .int .u64 0] 128)).heap[w.heap.size]? = some (.cells #[.slice none 0 0, .string ⟨#[]⟩, .int .u64 0, .slice none 0 0, .string ⟨#[]⟩, .int .u64 0] 128 (0, 0)) := heap_alloc_new _ _
  go_enter Tryd.func85, Tryd.ntmps85
  go_upto_region 1 with fail
  generalize World.alloc w _ = W at hb0 h0 ⊢
  have hF := hF.on hb0
  have hK := hK.on hb0
  have hn0 : w.heap.size < W.heap.size := (Array.getElem?_eq_some_iff.1 h0).1
  by_cases hlt : x.size ≤ 64
  · have l1 : ¬ (64 : Int) < (x.size : Int) := by omega
    have hg : decide ((64 : Int) < (x.size : Int)) = false := by simp; omega
    obtain ⟨y, hxy⟩ : ∃ y, x = y := ⟨_, rfl⟩
    have hyl : bl y = keyL (bl x) := by unfold keyL; rw [if_pos (by rw [bl_length]; exact hlt), hxy]
    have hys : y.size ≤ 64 := by rw [← hxy]; exact hlt
    obtain ⟨V, hV⟩ : ∃ V, W = V := ⟨_, rfl⟩
    have hbl : Below w.heap.size w V := by rw [← hV]; exact hb0
    have H0 := Lib.hid h0; have HF := Lib.hid hF; have HK := Lib.hid hK
    rw [hV] at H0 HF HK
    have HXY := Lib.hid hxy; have HV := Lib.hid hV
    clear h0 hF hK hb0 hn0 hxy hlt hV
    go_upto_region 3 with fail
    rw [HXY.out, HV.out]
    have HMI := Lib.hid (masked_any y hys 54)
    have HMO := Lib.hid (masked_any y hys 92)
    have HYL := Lib.hid hyl
    clear hyl hys
    have h54 : (((54 : UInt8).toNat : Nat) : Int) = 54 := rfl
    have h92 : (((92 : UInt8).toNat : Nat) : Int) = 92 := rfl
    rw [h54] at HMI
    rw [h92] at HMO
    clear h54 h92
    go_wp2_with fail
    refine (HMI.out _ HF.out HK.out).mono ?_
    rintro e w2 ⟨v1, rfl, ⟨gi, oi, ci, xi, rfl, hwi, hxi⟩, hb2⟩
    have HWI := Lib.hid hwi; have HXI := Lib.hid hxi
    clear hwi hxi HMI
    go_wp2_with fail
    refine (HMO.out _ (HF.out.on hb2) (HK.out.on hb2)).mono ?_
    rintro e w3 ⟨v2, rfl, ⟨go, oo, co, xo, rfl, hwo, hxo⟩, hb3⟩
    have HWI := Lib.hid (HWI.out.on hb3); have HWO := Lib.hid hwo; have HXO := Lib.hid hxo
    clear hwo hxo HMO
    have hln : w.heap.size < V.heap.size := (Array.getElem?_eq_some_iff.1 H0.out).1
    have hR : w3.heap[w.heap.size]? = some (.cells #[.slice none 0 0, .string ⟨#[]⟩, .int .u64 0, .slice none 0 0, .string ⟨#[]⟩, .int .u64 0] 128 (0, 0)) := by rw [hb3.block _ (by have := hb2.size; omega), hb2.block _ hln]; exact H0.out
    have hc64 : ((64 : Nat) : Int) = 64 := rfl
    have d0 : w3.cell? ⟨w.heap.size, 0, none⟩ = some (.slice none 0 0) := by rw [cell_of_row _ _ _ _ _ _ hR]; rfl
    have d1 : w3.cell? ⟨w.heap.size, 1, none⟩ = some (.string ⟨#[]⟩) := by rw [cell_of_row _ _ _ _ _ _ hR]; rfl
    have d2 : w3.cell? ⟨w.heap.size, 2, none⟩ = some (.int .u64 0) := by rw [cell_of_row _ _ _ _ _ _ hR]; rfl
    have d3 : w3.cell? ⟨w.heap.size, 3, none⟩ = some (.slice none 0 0) := by rw [cell_of_row _ _ _ _ _ _ hR]; rfl
    have d4 : w3.cell? ⟨w.heap.size, 4, none⟩ = some (.string ⟨#[]⟩) := by rw [cell_of_row _ _ _ _ _ _ hR]; rfl
    have d5 : w3.cell? ⟨w.heap.size, 5, none⟩ = some (.int .u64 0) := by rw [cell_of_row _ _ _ _ _ _ hR]; rfl
    have f0 := frozen_of_row w3 w.heap.size 0 _ _ hR
    have f1 := frozen_of_row w3 w.heap.size 1 _ _ hR
    have f2 := frozen_of_row w3 w.heap.size 2 _ _ hR
    have f3 := frozen_of_row w3 w.heap.size 3 _ _ hR
    have f4 := frozen_of_row w3 w.heap.size 4 _ _ hR
    have f5 := frozen_of_row w3 w.heap.size 5 _ _ hR
    have hbw : Below w.heap.size w w3 := hbl.trans ((hb2.trans (hb3.mono hb2.size)).mono (Nat.le_of_lt hln))
    have hres := store6 hR (.slice (some ⟨gi, oi, none⟩) 8 ci) (.string xi) (.int .u64 64) (.slice (some ⟨go, oo, none⟩) 8 co) (.string xo) (.int .u64 64)
    have hni := WsAt.ne6 HWI.out hR
    have hno := WsAt.ne6 HWO.out hR
    have q1 := ws_six HWI.out hni (.slice (some ⟨gi, oi, none⟩) 8 ci) (.string xi) (.int .u64 64) (.slice (some ⟨go, oo, none⟩) 8 co) (.string xo) (.int .u64 64)
    have q2 := ws_six HWO.out hno (.slice (some ⟨gi, oi, none⟩) 8 ci) (.string xi) (.int .u64 64) (.slice (some ⟨go, oo, none⟩) 8 co) (.string xo) (.int .u64 64)
    have hbb := below6 hbw (Nat.le_refl _) (.slice (some ⟨gi, oi, none⟩) 8 ci) (.string xi) (.int .u64 64) (.slice (some ⟨go, oo, none⟩) 8 co) (.string xo) (.int .u64 64)
    have HRES := Lib.hid hres; have Q1 := Lib.hid q1; have Q2 := Lib.hid q2; have HBB := Lib.hid hbb
    clear hres q1 q2 hbb hni hno hR hbw hb2 hb3 HWI HWO H0 HF HK hbl
    go_wp2_with fail
    have hR := HRES.out
    have e0 := cell_of_row _ w.heap.size 0 _ _ _ hR
    have e1 := cell_of_row _ w.heap.size 1 _ _ _ hR
    have e2 := cell_of_row _ w.heap.size 2 _ _ _ hR
    have e3 := cell_of_row _ w.heap.size 3 _ _ _ hR
    have e4 := cell_of_row _ w.heap.size 4 _ _ _ hR
    have e5 := cell_of_row _ w.heap.size 5 _ _ _ hR
    simp only [List.getElem?_toArray, List.getElem?_cons_zero, List.getElem?_cons_succ] at e0 e1 e2 e3 e4 e5
    refine bodyPost_ret (v := .agg #[.slice (some ⟨gi, oi, none⟩) 8 ci, .string xi, .int .u64 64, .slice (some ⟨go, oo, none⟩) 8 co, .string xo, .int .u64 64]) (by simp [results, Tryd.results85, go_sem, e0, e1, e2, e3, e4, e5]) rfl ⟨_, rfl, ⟨gi, oi, ci, xi, go, oo, co, xo, rfl, ?_, ?_, ?_, ?_⟩, HBB.out⟩
    · unfold maskL; rw [← HYL.out]; exact Q1.out
    · unfold maskL; rw [← HYL.out]; exact HXI.out
    · unfold maskL; rw [← HYL.out]; exact Q2.out
    · unfold maskL; rw [← HYL.out]; exact HXO.out
  · have l1 : (64 : Int) < (x.size : Int) := by omega
    have hg : decide ((64 : Int) < (x.size : Int)) = true := by simpa using l1
    have hof := of_any x hx W hF hK
    obtain ⟨y, hy⟩ : ∃ y, strL (sumL (mixAll firstS (bl x)) (restOf (bl x)) x.size) = y := ⟨_, rfl⟩
    have hyl : bl y = keyL (bl x) := by unfold keyL; rw [if_neg (by rw [bl_length]; omega), ← hy, bl_strL, ← bl_length]; rfl
    have hys : y.size ≤ 64 := by rw [← bl_length, hyl]; exact keyL_length _
    rw [hy] at hof
    have HOF := Lib.hid hof; have H0 := Lib.hid h0; have HF := Lib.hid hF; have HK := Lib.hid hK
    clear hof h0 hF hK hy hlt
    go_upto_region 3 with (go_at_call 89; refine HOF.out.mono ?_; rintro e V ⟨rfl, hb1⟩)
    have hbl : Below w.heap.size w V := hb0.trans (hb1.mono (by omega))
    have H0 := Lib.hid (show V.heap[w.heap.size]? = _ from (hb1.block _ hn0).trans H0.out)
    have HF := Lib.hid (HF.out.on hb1); have HK := Lib.hid (HK.out.on hb1)
    clear HOF hb0 hb1 hn0
    have HMI := Lib.hid (masked_any y hys 54)
    have HMO := Lib.hid (masked_any y hys 92)
    have HYL := Lib.hid hyl
    clear hyl hys
    have h54 : (((54 : UInt8).toNat : Nat) : Int) = 54 := rfl
    have h92 : (((92 : UInt8).toNat : Nat) : Int) = 92 := rfl
    rw [h54] at HMI
    rw [h92] at HMO
    clear h54 h92
    go_wp2_with fail
    refine (HMI.out _ HF.out HK.out).mono ?_
    rintro e w2 ⟨v1, rfl, ⟨gi, oi, ci, xi, rfl, hwi, hxi⟩, hb2⟩
    have HWI := Lib.hid hwi; have HXI := Lib.hid hxi
    clear hwi hxi HMI
    go_wp2_with fail
    refine (HMO.out _ (HF.out.on hb2) (HK.out.on hb2)).mono ?_
    rintro e w3 ⟨v2, rfl, ⟨go, oo, co, xo, rfl, hwo, hxo⟩, hb3⟩
    have HWI := Lib.hid (HWI.out.on hb3); have HWO := Lib.hid hwo; have HXO := Lib.hid hxo
    clear hwo hxo HMO
    have hln : w.heap.size < V.heap.size := (Array.getElem?_eq_some_iff.1 H0.out).1
    have hR : w3.heap[w.heap.size]? = some (.cells #[.slice none 0 0, .string ⟨#[]⟩, .int .u64 0, .slice none 0 0, .string ⟨#[]⟩, .int .u64 0] 128 (0, 0)) := by rw [hb3.block _ (by have := hb2.size; omega), hb2.block _ hln]; exact H0.out
    have hc64 : ((64 : Nat) : Int) = 64 := rfl
    have d0 : w3.cell? ⟨w.heap.size, 0, none⟩ = some (.slice none 0 0) := by rw [cell_of_row _ _ _ _ _ _ hR]; rfl
    have d1 : w3.cell? ⟨w.heap.size, 1, none⟩ = some (.string ⟨#[]⟩) := by rw [cell_of_row _ _ _ _ _ _ hR]; rfl
    have d2 : w3.cell? ⟨w.heap.size, 2, none⟩ = some (.int .u64 0) := by rw [cell_of_row _ _ _ _ _ _ hR]; rfl
    have d3 : w3.cell? ⟨w.heap.size, 3, none⟩ = some (.slice none 0 0) := by rw [cell_of_row _ _ _ _ _ _ hR]; rfl
    have d4 : w3.cell? ⟨w.heap.size, 4, none⟩ = some (.string ⟨#[]⟩) := by rw [cell_of_row _ _ _ _ _ _ hR]; rfl
    have d5 : w3.cell? ⟨w.heap.size, 5, none⟩ = some (.int .u64 0) := by rw [cell_of_row _ _ _ _ _ _ hR]; rfl
    have f0 := frozen_of_row w3 w.heap.size 0 _ _ hR
    have f1 := frozen_of_row w3 w.heap.size 1 _ _ hR
    have f2 := frozen_of_row w3 w.heap.size 2 _ _ hR
    have f3 := frozen_of_row w3 w.heap.size 3 _ _ hR
    have f4 := frozen_of_row w3 w.heap.size 4 _ _ hR
    have f5 := frozen_of_row w3 w.heap.size 5 _ _ hR
    have hbw : Below w.heap.size w w3 := hbl.trans ((hb2.trans (hb3.mono hb2.size)).mono (Nat.le_of_lt hln))
    have hres := store6 hR (.slice (some ⟨gi, oi, none⟩) 8 ci) (.string xi) (.int .u64 64) (.slice (some ⟨go, oo, none⟩) 8 co) (.string xo) (.int .u64 64)
    have hni := WsAt.ne6 HWI.out hR
    have hno := WsAt.ne6 HWO.out hR
    have q1 := ws_six HWI.out hni (.slice (some ⟨gi, oi, none⟩) 8 ci) (.string xi) (.int .u64 64) (.slice (some ⟨go, oo, none⟩) 8 co) (.string xo) (.int .u64 64)
    have q2 := ws_six HWO.out hno (.slice (some ⟨gi, oi, none⟩) 8 ci) (.string xi) (.int .u64 64) (.slice (some ⟨go, oo, none⟩) 8 co) (.string xo) (.int .u64 64)
    have hbb := below6 hbw (Nat.le_refl _) (.slice (some ⟨gi, oi, none⟩) 8 ci) (.string xi) (.int .u64 64) (.slice (some ⟨go, oo, none⟩) 8 co) (.string xo) (.int .u64 64)
    have HRES := Lib.hid hres; have Q1 := Lib.hid q1; have Q2 := Lib.hid q2; have HBB := Lib.hid hbb
    clear hres q1 q2 hbb hni hno hR hbw hb2 hb3 HWI HWO H0 HF HK hbl
    go_wp2_with fail
    have hR := HRES.out
    have e0 := cell_of_row _ w.heap.size 0 _ _ _ hR
    have e1 := cell_of_row _ w.heap.size 1 _ _ _ hR
    have e2 := cell_of_row _ w.heap.size 2 _ _ _ hR
    have e3 := cell_of_row _ w.heap.size 3 _ _ _ hR
    have e4 := cell_of_row _ w.heap.size 4 _ _ _ hR
    have e5 := cell_of_row _ w.heap.size 5 _ _ _ hR
    simp only [List.getElem?_toArray, List.getElem?_cons_zero, List.getElem?_cons_succ] at e0 e1 e2 e3 e4 e5
    refine bodyPost_ret (v := .agg #[.slice (some ⟨gi, oi, none⟩) 8 ci, .string xi, .int .u64 64, .slice (some ⟨go, oo, none⟩) 8 co, .string xo, .int .u64 64]) (by simp [results, Tryd.results85, go_sem, e0, e1, e2, e3, e4, e5]) rfl ⟨_, rfl, ⟨gi, oi, ci, xi, go, oo, co, xo, rfl, ?_, ?_, ?_, ?_⟩, HBB.out⟩
    · unfold maskL; rw [← HYL.out]; exact Q1.out
    · unfold maskL; rw [← HYL.out]; exact HXI.out
    · unfold maskL; rw [← HYL.out]; exact Q2.out
    · unfold maskL; rw [← HYL.out]; exact HXO.out

set_option maxHeartbeats 1000000 in
theorem tagd_any (k x : ByteArray) (hk : k.size ≤ 1000000) (hx : x.size ≤ 80000) (w : World) (hF : FirstAt w) (hK : KeysAt w) :
    Calls Tryd.prog 80 #[.string k, .string x] w fun e w' => e = .returned (.string (strL (tagL (bl k) (bl x)))) ∧ Below w.heap.size w w' := by
  have HB := Lib.hid (begin_any k hk w hF hK)
  have hf : flat [x] = bl x := by simp [flat]
  have ht := fun v D W a b c => tag_any v (.slice (some ⟨D, 0, none⟩) 1 1) (bl k) [x] (by rw [hf, bl_length]; omega) (by simp) W a b c
  rw [hf] at ht
  obtain ⟨S, hS⟩ : ∃ S, strL (tagL (bl k) (bl x)) = S := ⟨_, rfl⟩
  rw [hS] at ht
  have HT := Lib.hid ht; have HS := Lib.hid hS
  clear ht hf hS
  go_enter Tryd.func80, Tryd.ntmps80
  go_wp2_with fail
  refine HB.out.mono ?_
  rintro e w1 ⟨v, rfl, hv, hb1⟩
  have hb2 : Below w1.heap.size w1 (w1.alloc (.cells #[.string x] 9)) := by go_grown
  have HTT := Lib.hid (HT.out v w1.heap.size _ (hv.on hb2) (StrsAt.one w1 x 9) ((hK.on hb1).on hb2))
  clear HT HB hv hF hK
  go_wp2_with fail
  refine HTT.out.mono ?_
  rintro e w2 ⟨rfl, hb3⟩
  clear HTT
  have hend : Below w.heap.size w w2 := hb1.trans ((hb2.trans (hb3.mono hb2.size)).mono hb1.size)
  clear hb1 hb2 hb3
  go_wp2_with fail
  go_ret
  exact ⟨by rw [HS.out]; rfl, hend⟩

end Go.Proofs.YtdnjieffbgmagaaDoor