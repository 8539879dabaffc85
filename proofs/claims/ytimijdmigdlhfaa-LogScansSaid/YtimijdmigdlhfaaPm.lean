/- The contract of wire's take: a reader goes on behind a part. -/
import Derived.Test.YtimijdmigdlhfaaPi
import Derived.Test.YtimijdmigdlhfaaPl
import Derived.Deep.RegionLaw
namespace Go.Proofs.Ytimijdmigdlhfaa
open Go.RowKit Go.Sort
set_option maxRecDepth 100000
/-- a reader in block R: its bytes, its place, its parts so far -/
structure Rd (w : World) (base R : Nat) (s : ByteArray) (st : St) : Prop where
  ge : base ≤ R
  ex : ∃ v, w.heap[R]? = some (.cells #[.string s, .int .i64 (st.2 : Int), v] 101) ∧ OwnP w base v st.1
theorem Rd.cell {w : World} {base R : Nat} {s : ByteArray} {st : St} (h : Rd w base R s st) : RdCell w R s st.2 := by
  obtain ⟨v, hv, -⟩ := h.ex
  exact ⟨by rw [cell_of_row _ _ _ _ _ _ hv]; rfl, by rw [cell_of_row _ _ _ _ _ _ hv]; rfl⟩
theorem Rd.on {w w' : World} {base R : Nat} {s : ByteArray} {st : St} (h : Rd w base R s st) (hb : Below w.heap.size w w') : Rd w' base R s st := by
  obtain ⟨v, hv, ho⟩ := h.ex
  exact ⟨h.ge, v, by rw [hb.block R (Array.getElem?_eq_some_iff.1 hv).1]; exact hv, ho.on hb⟩
theorem Rd.lt {w : World} {base R : Nat} {s : ByteArray} {st : St} (h : Rd w base R s st) : R < w.heap.size := by
  obtain ⟨v, hv, ho⟩ := h.ex
  exact (Array.getElem?_eq_some_iff.1 hv).1
theorem OwnP.set {w : World} {base R : Nat} {v : Value} {l : List Pt} {cs : Array Value} {t : TypeId} {fr : Nat × Nat} (h : OwnP w base v l) (hR : w.heap[R]? = some (.cells cs t fr)) (ht : t ≠ 65) (i : Nat) (x : Value) : OwnP (w.setCell ⟨R, i, none⟩ x) base v l := by
  refine ⟨h.1, ?_⟩
  rcases h.2 with h2 | ⟨g, cap, cur, e, hg, hc, h3⟩
  · exact Or.inl h2
  · refine Or.inr ⟨g, cap, cur, e, hg, ?_, h3⟩
    rw [heap_setCell_other w ⟨R, i, none⟩ g x ?_]
    · exact hc
    · rintro rfl
      rw [hR] at hc
      cases hc
      exact ht rfl
/-- what is neither a row of parts nor a reader stands as it was -/
def KeepR (w w' : World) : Prop := ∀ (k : Nat) (cs : Array Value) (t : TypeId) (fr : Nat × Nat), w.heap[k]? = some (.cells cs t fr) → t ≠ 65 → t ≠ 101 → w'.heap[k]? = some (.cells cs t fr)
theorem KeepR.trans {w w1 w2 : World} (h : KeepR w w1) (h2 : KeepR w1 w2) : KeepR w w2 := fun k cs t fr h3 h4 h5 => h2 k cs t fr (h k cs t fr h3 h4 h5) h4 h5
theorem KeepR.of {w w' : World} (hb : Below w.heap.size w w') : KeepR w w' := fun k cs t fr h _ _ => by
  rw [hb.block k (Array.getElem?_eq_some_iff.1 h).1]; exact h
theorem KeepR.set {w : World} {R : Nat} {cs : Array Value} {fr : Nat × Nat} (hR : w.heap[R]? = some (.cells cs 101 fr)) (i : Nat) (x : Value) : KeepR w (w.setCell ⟨R, i, none⟩ x) := fun k cs' t fr' h _ h2 => by
  rw [heap_setCell_other w ⟨R, i, none⟩ k x ?_]
  · exact h
  · rintro rfl
    rw [hR] at h
    cases h
    exact h2 rfl
theorem OwnP.dr {w : World} {base : Nat} {v : Value} {l : List Pt} (h : OwnP w base v l) : OwnP w.drew base v l := h
theorem PtAt.dr {w : World} {b o : Nat} {p : Pt} (h : PtAt w b o p) : PtAt w.drew b o p := ⟨h.c0, h.c1, h.c2⟩
set_option maxHeartbeats 4000000 in
theorem take_any (base R : Nat) (s : ByteArray) (st : St) (p : Pt) (n : Nat) (hl : st.1.length ≤ 90000) (w : World) (hr : Rd w base R s st) (hbase : base ≤ w.heap.size) :
    Calls Try.prog 61 #[.pointer (some ⟨R, 0, none⟩), pv p, .int .i64 (n : Int)] w fun e w' => e = .returned (.tuple #[]) ∧ Rd w' base R s (st.1 ++ [p], n) ∧ Below base w w' ∧ KeepR w w' := by
  obtain ⟨l, pl⟩ := st
  obtain ⟨hge, v, hv, ho⟩ := hr
  obtain ⟨t, m, x⟩ := p
  unfold pv
  simp only at hl hv ho ⊢
  have hRlt : R < w.heap.size := (Array.getElem?_eq_some_iff.1 hv).1
  obtain ⟨av, cv, rfl, -, hpsl⟩ := ho.psl
  have hb1 : Below w.heap.size w (w.alloc (.cells #[.bool t, .int .u64 (m : Int), .string x] 65)) := (Below.refl _ _).alloc (Nat.le_refl _) _
  have hbx := PtAt.fresh w ⟨t, m, x⟩ 65
  have hv1 : (w.alloc (.cells #[.bool t, .int .u64 (m : Int), .string x] 65)).heap[R]? = some (.cells #[.string s, .int .i64 (pl : Int), .slice av l.length cv] 101) := by rw [hb1.block R hRlt]; exact hv
  have ho1 := ho.alloc (.cells #[.bool t, .int .u64 (m : Int), .string x] 65)
  have HBX := Lib.hid hbx; have HV := Lib.hid hv1; have HO := Lib.hid ho1; have HB := Lib.hid (hb1.mono hbase); have HK := Lib.hid (KeepR.of hb1); have HG := Lib.hid (And.intro hge (And.intro hl hbase)); have HOW := Lib.hid ho
  clear hb1 hbx hv1 ho1 hv ho hge hl hbase hpsl
  go_enter Try.func61, Try.ntmps61
  go_upto_region 1 with fail
  have hsz : (w.alloc (.cells #[.bool t, .int .u64 (m : Int), .string x] 65)).heap.size = w.heap.size + 1 := by simp
  have HSZ := Lib.hid hsz
  clear hsz
  generalize World.alloc w _ = V at HBX HV HO HB HSZ HK ⊢
  obtain ⟨b0, b1, b2⟩ := HBX.out
  simp only [Nat.zero_add] at b0 b1 b2
  have d2 : V.cell? ⟨R, 2, none⟩ = some (.slice av l.length cv) := by rw [cell_of_row _ _ _ _ _ _ HV.out]; rfl
  have hRV : R < V.heap.size := (Array.getElem?_eq_some_iff.1 HV.out).1
  have hvA : ∀ o : Obj, (V.alloc o).heap[R]? = some (.cells #[.string s, .int .i64 (pl : Int), .slice av l.length cv] 101) := fun o => by
    rw [(World.grownBy_alloc V o none).block R hRV (by simp)]; exact HV.out
  have dA : ∀ o : Obj, (V.alloc o).cell? ⟨R, 2, none⟩ = some (.slice av l.length cv) := fun o => by rw [cell_of_row _ _ _ _ _ _ (hvA o)]; rfl
  have HVA := Lib.hid hvA
  clear hvA hRV
  go_region_law (first
      | (refine step_append_ps rfl _ _ rfl base _ l (some ⟨_, 0, none⟩) 1 1 [⟨t, m, x⟩] rfl rfl rfl (OwnP.dr (OwnP.alloc HO.out _)) (PSl.one (PtAt.dr (PtAt.fresh V ⟨t, m, x⟩ _))) (by have := HG.out.2.1; simp; omega) (by have := HG.out.2.2; have := HSZ.out; simp; omega) ?_; intro v2 w2 hO2 hg2; obtain ⟨a2, c2', rfl, -, -⟩ := hO2.psl; have hR2 := (OwnP.dr (OwnP.alloc HO.out _)).keeps hg2 R _ _ _ (HVA.out _) (by decide); have hB2 := (OwnP.dr (OwnP.alloc HO.out _)).below ((HB.out.alloc (by have := HG.out.2.2; have := HSZ.out; omega) _).drew) (by have := HG.out.2.2; have := HSZ.out; simp; omega) hg2; have d3 : w2.cell? ⟨R, 2, none⟩ = some (.slice av l.length cv) := (by rw [cell_of_row _ _ _ _ _ _ hR2]; rfl); have f3 := frozen_of_row w2 R 2 _ _ hR2; have hK2 : KeepR w w2 := (HK.out.trans (KeepR.of (w := V) (((Below.refl _ _).alloc (Nat.le_refl _) _).drew))).trans (fun k cs t fr h h2 _ => (OwnP.dr (OwnP.alloc HO.out _)).keeps hg2 k cs t fr h h2); have HK2 := Lib.hid hK2; have HR2 := Lib.hid hR2; have HO2 := Lib.hid hO2; have HB2 := Lib.hid hB2; clear hO2 hg2 hR2 hB2 hK2))
  all_goals
    have hlen : (l ++ [(⟨t, m, x⟩ : Pt)]).length = l.length + 1 := by simp
    have hO2 := HO2.out
    rw [hlen] at hO2
    have hR3 : (w2.setCell ⟨R, 2, none⟩ (.slice a2 (l.length + 1) c2')).heap[R]? = some (.cells #[.string s, .int .i64 (pl : Int), .slice a2 (l.length + 1) c2'] 101) := by
      rw [heap_setCell_same w2 R 2 _ _ _ HR2.out]; simp
    have hO3 := hO2.set HR2.out (by decide) 2 (.slice a2 (l.length + 1) c2')
    have hB3 := HB2.out.setCell (p := ⟨R, 2, none⟩) HG.out.1 (.slice a2 (l.length + 1) c2')
    have hK3 := HK2.out.trans (KeepR.set HR2.out 2 (.slice a2 (l.length + 1) c2'))
    clear hO2 hlen d3 f3 b0 b1 b2 d2 dA HR2 HO2 HB2 HVA HBX HV HO HB HSZ HOW hRlt HK HK2
    generalize World.setCell w2 _ _ = W at hR3 hO3 hB3 hK3 ⊢
    have e1 : W.cell? ⟨R, 1, none⟩ = some (.int .i64 (pl : Int)) := by rw [cell_of_row _ _ _ _ _ _ hR3]; rfl
    have f1 := frozen_of_row W R 1 _ _ hR3
    have hR4 : (W.setCell ⟨R, 1, none⟩ (.int .i64 (n : Int))).heap[R]? = some (.cells #[.string s, .int .i64 (n : Int), .slice a2 (l.length + 1) c2'] 101) := by
      rw [heap_setCell_same W R 1 _ _ _ hR3]; simp
    have hO4 := hO3.set hR3 (by decide) 1 (.int .i64 (n : Int))
    have hB4 := hB3.setCell (p := ⟨R, 1, none⟩) HG.out.1 (.int .i64 (n : Int))
    have hK4 := hK3.trans (KeepR.set hR3 1 (.int .i64 (n : Int)))
    have HF := Lib.hid (And.intro hR4 (And.intro hO4 (And.intro hB4 hK4)))
    clear hR3 hO3 hB3 hK3 hR4 hO4 hB4 hK4
    go_wp2_with fail
    go_end0
    exact ⟨rfl, ⟨HG.out.1, _, HF.out.1, HF.out.2.1⟩, HF.out.2.2.1, HF.out.2.2.2⟩
end Go.Proofs.Ytimijdmigdlhfaa