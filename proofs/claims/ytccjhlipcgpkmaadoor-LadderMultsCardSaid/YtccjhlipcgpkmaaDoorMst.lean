/- A store of a struct of four slices. -/
import Derived.Test.YtccjhlipcgpkmaaDoorMbit
namespace Go.Proofs.YtccjhlipcgpkmaaDoor
open Go.RowKit

set_option maxHeartbeats 400000 in
theorem run_store4 (W : World) (B : Nat) {a0 a1 a2 a3 : Value} (h : Row4 W B a0 a1 a2 a3) (g0 c0 g1 c1 g2 c2 g3 c3 : Nat) :
    (Instr.storeAt 64 (.pointer (some ⟨B, 0, none⟩)) (.agg #[.slice (some ⟨g0, 0, none⟩) 16 c0, .slice (some ⟨g1, 0, none⟩) 16 c1, .slice (some ⟨g2, 0, none⟩) 16 c2, .slice (some ⟨g3, 0, none⟩) 16 c3])).run Tryd.prog W =
      .ok () ((((W.setCell ⟨B, 0, none⟩ (.slice (some ⟨g0, 0, none⟩) 16 c0)).setCell ⟨B, 1, none⟩ (.slice (some ⟨g1, 0, none⟩) 16 c1)).setCell ⟨B, 2, none⟩ (.slice (some ⟨g2, 0, none⟩) 16 c2)).setCell ⟨B, 3, none⟩ (.slice (some ⟨g3, 0, none⟩) 16 c3)) := by
  obtain ⟨⟨p0, p1, p2, p3⟩, ⟨r0, r1, r2, r3⟩⟩ := h
  simp [go_sem, p0, p1, p2, p3, r0, r1, r2, r3]

theorem store_four {ops : Array Oper} {rest : List Oper} {o : Oper} {a : Act} {Q : Exit → Act → World → Prop} {w : World} (hgd : o.guard = none) (hdst : o.dst = none) (x y : Operand) (ho : o.op = .store 64 x y)
    (B : Nat) (hx : a.eval x = .pointer (some ⟨B, 0, none⟩)) {g0 c0 g1 c1 g2 c2 g3 c3 : Nat} (hy : a.eval y = .agg #[.slice (some ⟨g0, 0, none⟩) 16 c0, .slice (some ⟨g1, 0, none⟩) 16 c1, .slice (some ⟨g2, 0, none⟩) 16 c2, .slice (some ⟨g3, 0, none⟩) 16 c3])
    {a0 a1 a2 a3 : Value} (hrow : Row4 w B a0 a1 a2 a3)
    (h : wpList Tryd.prog ops Q rest a ((((w.setCell ⟨B, 0, none⟩ (.slice (some ⟨g0, 0, none⟩) 16 c0)).setCell ⟨B, 1, none⟩ (.slice (some ⟨g1, 0, none⟩) 16 c1)).setCell ⟨B, 2, none⟩ (.slice (some ⟨g2, 0, none⟩) 16 c2)).setCell ⟨B, 3, none⟩ (.slice (some ⟨g3, 0, none⟩) 16 c3))) :
    wpList Tryd.prog ops Q (o :: rest) a w := by
  refine wpList_plain hgd fun K hK => ?_
  unfold Oper.wp execOp
  simp only [ho, hx, hy, Sem.run_bind, run_store4 w B hrow, Result.andThen_ok, Sem.run_pure]
  refine hK _ _ ?_
  rw [hdst]
  exact h

set_option maxHeartbeats 400000 in
theorem run_load4 (W : World) (B : Nat) {g0 c0 g1 c1 g2 c2 g3 c3 : Nat} (h : Row4 W B (.slice (some ⟨g0, 0, none⟩) 16 c0) (.slice (some ⟨g1, 0, none⟩) 16 c1) (.slice (some ⟨g2, 0, none⟩) 16 c2) (.slice (some ⟨g3, 0, none⟩) 16 c3)) :
    (Instr.loadAt 64 (.pointer (some ⟨B, 0, none⟩))).run Tryd.prog W = .ok (.agg #[.slice (some ⟨g0, 0, none⟩) 16 c0, .slice (some ⟨g1, 0, none⟩) 16 c1, .slice (some ⟨g2, 0, none⟩) 16 c2, .slice (some ⟨g3, 0, none⟩) 16 c3]) W := by
  obtain ⟨⟨p0, p1, p2, p3⟩, -⟩ := h
  simp [go_sem, p0, p1, p2, p3]
theorem load_four {ops : Array Oper} {rest : List Oper} {o : Oper} {a : Act} {Q : Exit → Act → World → Prop} {w : World} (hgd : o.guard = none) (x : Operand) (ho : o.op = .load 64 x)
    (B : Nat) (hx : a.eval x = .pointer (some ⟨B, 0, none⟩)) {g0 c0 g1 c1 g2 c2 g3 c3 : Nat} (hrow : Row4 w B (.slice (some ⟨g0, 0, none⟩) 16 c0) (.slice (some ⟨g1, 0, none⟩) 16 c1) (.slice (some ⟨g2, 0, none⟩) 16 c2) (.slice (some ⟨g3, 0, none⟩) 16 c3))
    (h : wpList Tryd.prog ops Q rest (a.put o.dst (.agg #[.slice (some ⟨g0, 0, none⟩) 16 c0, .slice (some ⟨g1, 0, none⟩) 16 c1, .slice (some ⟨g2, 0, none⟩) 16 c2, .slice (some ⟨g3, 0, none⟩) 16 c3])) w) :
    wpList Tryd.prog ops Q (o :: rest) a w := by
  refine wpList_plain hgd fun K hK => ?_
  unfold Oper.wp execOp
  simp only [ho, hx, Sem.run_bind, run_load4 w B hrow, Result.andThen_ok, Sem.run_pure]
  exact hK _ _ h
end Go.Proofs.YtccjhlipcgpkmaaDoor
