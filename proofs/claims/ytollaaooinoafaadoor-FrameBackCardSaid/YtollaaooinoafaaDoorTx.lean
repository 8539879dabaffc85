/- The package's formats, out of the given row: where they lie, and a world for the witness. -/
import Derived.Test.YtollaaooinoafaaDoorCards
import Derived.Test.YtollaaooinoafaaDoorTf
import Derived.Lib.LaidTab
import Derived.Laws.IdiomArrays
import Derived.ChangeSlices
import Derived.LaidMore
namespace Go.Proofs.YtollaaooinoafaaDoor
open Go.RowKit Go.ChangeShapes Go.WideShapes
set_option maxRecDepth 100000
theorem gFormats : Tryd.prog.globalNamed "demurral/frame.formats" = some 0 := by kernel_rfl
theorem gFormatsType : (Tryd.prog.globals[0]?).map (·.type) = some 45 := by kernel_rfl
theorem cellsFields : Tryd.prog.cellsOf 44 = 1 := by kernel_rfl
theorem cellsField : Tryd.prog.cellsOf 52 = 1 := by kernel_rfl
theorem cellsFormats : Tryd.prog.cellsOf 45 = 3 := by kernel_rfl
theorem lits_inj {H : Type} {k : IntKind} : ∀ {a b : List Int}, (lits k a : List (DataW H)) = lits k b → a = b
  | [], [], _ => rfl
  | [], _ :: _, h => by simp [lits] at h
  | _ :: _, [], h => by simp [lits] at h
  | x :: a, y :: b, h => by
    simp only [lits, List.map_cons, List.cons.injEq, DataW.lit.injEq, Lit.int.injEq, true_and] at h
    rw [h.1, lits_inj h.2]
theorem ints_at {H : Type} {enc : TypeId × Value → H} {W : World} {sp : Nat → Bool} {held : Bool} {fuel : Nat} {v : Value} {zs : List Int} {q : List MemPlace} (h0 : 0 < zs.length)
    (h : DataW.trod enc Tryd.prog W 0 sp held fuel 44 [v] = some (.slice (lits .i64 zs) [], q)) :
    ∃ b off c : Nat, v = .slice (some ⟨b, off, none⟩) zs.length c ∧ ∀ i, i < zs.length → W.cell? ⟨b, off + i, none⟩ = some (.int .i64 (zs.getD i 0)) := by
  rcases open_ints Tryd.underlying44 Tryd.underlying52 cellsField h with ⟨-, hx⟩ | ⟨a, len, cap, ys, e0, -, hlc, -, hys, hx, hi, -⟩
  · simp at hx
  · obtain rfl : v = .slice (some a) len cap := by simpa using e0
    simp only [Prod.mk.injEq, DataW.slice.injEq] at hx
    have e1 := lits_inj hx.1.1
    have hle : len ≤ ys.length := by rw [hys]; split <;> omega
    have hlen : zs.length = len := by rw [e1, List.length_take]; omega
    have hget : ∀ i, i < zs.length → ys.getD i 0 = zs.getD i 0 := fun i hi => by
      rw [e1]
      simp [List.getD, show i < len by omega]
    obtain ⟨b, off, spot⟩ := a
    have hspot : spot = none := by
      have := hi 0 (by omega)
      simpa [Addr.add] using World.cell?_spot this
    subst hspot
    refine ⟨b, off, cap, by rw [hlen], fun i hin => ?_⟩
    have := hi i (by omega)
    rw [hget i hin, show (⟨b, off, none⟩ : Addr).add i = ⟨b, off + i, none⟩ from Addr.add_mid _ _ _] at this
    exact this
theorem array_len {H : Type} {enc : TypeId × Value → H} {P : Program} {w : World} {base : Nat} {sp : Nat → Bool} {held : Bool} {fuel : Nat} {t e : TypeId} {n : Nat} {cs : List Value} {x : DataW H × List MemPlace}
    (ht : P.underlying t = some (.array n e)) (hct : P.cellsOf t = n) (h : DataW.trod enc P w base sp held fuel t cs = some x) : cs.length = n := by
  cases fuel with
  | zero => simp [DataW.trod] at h
  | succ fuel =>
    simp only [DataW.trod, ht, hct] at h
    split at h
    · rename_i hl
      simpa using hl
    · cases h
def fmtI (k : Nat) : List Int := (fmtL k).map fun n : Nat => (n : Int)
theorem fmt_of_laid {W : World} (h : laidMetH Tryd.prog [("demurral/frame.formats", Rows.laid_demurral_frame_formats)] W) : FmtAt W := by
  have hp : laidMet Tryd.prog [("demurral/frame.formats", Rows.laid_demurral_frame_formats)] W := h
  obtain ⟨ps, ⟨g, t, cs, fuel, p, q, hg, ht, hvar, hd, -, -⟩, -⟩ := hp
  obtain rfl := Option.some.inj (gFormats.symm.trans hg)
  obtain rfl := Option.some.inj (gFormatsType.symm.trans ht)
  have hsz := array_len Tryd.underlying45 cellsFormats hd
  obtain ⟨l⟩ := cs
  match l, hsz with
  | [c0, c1, c2], _ =>
    obtain ⟨y0, y1, y2, n, e, t0, t1, t2⟩ := trod_array3 Tryd.underlying45 cellsFields hd
    have e' := (congrArg Prod.fst e)
    simp only [Rows.laid_demurral_frame_formats, DataW.agg.injEq, List.cons.injEq, and_true] at e'
    obtain ⟨e0, e1, e2⟩ := e'
    have s0 : DataW.trod (fun _ => ()) Tryd.prog W 0 (fun _ => true) false n 44 [c0] = some (.slice (lits .i64 (fmtI 0)) [], y0.2) := by rw [t0, ← (show y0.1 = .slice (lits .i64 (fmtI 0)) [] from e0.symm)]
    have s1 : DataW.trod (fun _ => ()) Tryd.prog W 0 (fun _ => true) false n 44 [c1] = some (.slice (lits .i64 (fmtI 1)) [], y1.2) := by rw [t1, ← (show y1.1 = .slice (lits .i64 (fmtI 1)) [] from e1.symm)]
    have s2 : DataW.trod (fun _ => ()) Tryd.prog W 0 (fun _ => true) false n 44 [c2] = some (.slice (lits .i64 (fmtI 2)) [], y2.2) := by rw [t2, ← (show y2.1 = .slice (lits .i64 (fmtI 2)) [] from e2.symm)]
    obtain ⟨b0, o0, k0, rfl, g0⟩ := ints_at (by decide) s0
    obtain ⟨b1, o1, k1, rfl, g1⟩ := ints_at (by decide) s1
    obtain ⟨b2, o2, k2, rfl, g2⟩ := ints_at (by decide) s2
    have hc := World.var?_cell gFormats hvar
    have conv : ∀ k i, i < (fmtL k).length → (fmtI k).getD i 0 = (((fmtL k).getD i 0 : Nat) : Int) := fun k i hi => by
      simp [fmtI, List.getD, hi]
    have hl : ∀ k, (fmtI k).length = (fmtL k).length := fun k => by simp [fmtI]
    intro k hk
    obtain rfl | rfl | rfl : k = 0 ∨ k = 1 ∨ k = 2 := by omega
    · exact ⟨b0, o0, k0, hc 0, fun i hi => by rw [g0 i (by rw [hl]; exact hi), conv 0 i hi]⟩
    · exact ⟨b1, o1, k1, hc 1, fun i hi => by rw [g1 i (by rw [hl]; exact hi), conv 1 i hi]⟩
    · exact ⟨b2, o2, k2, hc 2, fun i hi => by rw [g2 i (by rw [hl]; exact hi), conv 2 i hi]⟩
theorem door_met (os : Os) (args : Array Value) : laidMetH Tryd.prog [("demurral/frame.formats", Rows.laid_demurral_frame_formats)] ((World.doorLaid Tryd.prog 200 os).forCall (fun _ _ => 0) ⟨#[], args, []⟩).memory :=
  (show laidMet Tryd.prog [("demurral/frame.formats", Rows.laid_demurral_frame_formats)] _ from laidMet_of_run' 8 (by kernel_rfl) (by kernel_rfl))
end Go.Proofs.YtollaaooinoafaaDoor