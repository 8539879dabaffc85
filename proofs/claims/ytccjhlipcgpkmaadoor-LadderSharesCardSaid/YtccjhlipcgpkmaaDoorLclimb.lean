/- The ladder's start, its exchange by a bit, and the point that it ends in. -/
import Derived.Test.YtccjhlipcgpkmaaDoorLstep
namespace Go.Proofs.YtccjhlipcgpkmaaDoor
open Go.RowKit Go.Sort

/-- the five numbers at work -/
def clim (u x2 z2 x3 z3 : Int) : Value := .agg #[.string (leStr u), .string (leStr x2), .string (leStr z2), .string (leStr x3), .string (leStr z3)]

set_option maxHeartbeats 1000000 in
theorem start_any (u : Int) (w : World) :
    Calls Tryd.prog 60 #[.string (leStr u)] w fun e w' => e = .returned (.agg #[.string (leStr u), .string (leStr 1), .string (leStr 0), .string (leStr u), .string (leStr 1)]) ∧ Below w.heap.size w w' := by
  go_enter Tryd.func60, Tryd.ntmps60
  go_wp2_with fail
  rw [one_str, zero_str]
  refine bodyPost_ret (v := .agg #[.string (leStr u), .string (leStr 1), .string (leStr 0), .string (leStr u), .string (leStr 1)]) (by simp [results, Tryd.results60, go_sem]) rfl ⟨rfl, by go_grown⟩

set_option maxHeartbeats 1000000 in
theorem changed_any (u x2 z2 x3 z3 : Int) (w : World) (b : Bool) :
    Calls Tryd.prog 62 #[.agg #[.string (leStr u), .string (leStr x2), .string (leStr z2), .string (leStr x3), .string (leStr z3)], .int .u8 (if b then 1 else 0)] w fun e w' =>
      e = .returned (if b then .agg #[.string (leStr u), .string (leStr x3), .string (leStr z3), .string (leStr x2), .string (leStr z2)] else .agg #[.string (leStr u), .string (leStr x2), .string (leStr z2), .string (leStr x3), .string (leStr z3)]) ∧ Below w.heap.size w w' := by
  cases b with
  | false =>
    go_enter Tryd.func62, Tryd.ntmps62
    go_wp2_with fail
    refine bodyPost_ret (v := .agg #[.string (leStr u), .string (leStr x2), .string (leStr z2), .string (leStr x3), .string (leStr z3)]) (by simp [results, Tryd.results62, go_sem]) rfl ⟨rfl, by go_grown⟩
  | true =>
    go_enter Tryd.func62, Tryd.ntmps62
    go_wp2_with fail
    refine bodyPost_ret (v := .agg #[.string (leStr u), .string (leStr x3), .string (leStr z3), .string (leStr x2), .string (leStr z2)]) (by simp [results, Tryd.results62, go_sem]) rfl ⟨rfl, by go_grown⟩

set_option maxHeartbeats 1000000 in
theorem point_any {u x2 z2 x3 z3 : Int} (h2 : Rd x2) (h2' : Rd z2) (w : World) (hP : PrimeAt w) :
    Calls Tryd.prog 64 #[.agg #[.string (leStr u), .string (leStr x2), .string (leStr z2), .string (leStr x3), .string (leStr z3)]] w (Tells ((x2 * (z2 ^ ExpN % Pr)) % Pr) w) := by
  have lb := hP.lt
  go_enter Tryd.func64, Tryd.ntmps64
  go_wp2_with fail
  have hI := Row5.fresh w (leStr u) (leStr x2) (leStr z2) (leStr x3) (leStr z3) 76
  have hB : Below w.heap.size w (w.alloc (.cells #[.string (leStr u), .string (leStr x2), .string (leStr z2), .string (leStr x3), .string (leStr z3)] 76)) := by go_grown
  generalize World.alloc w _ = W at hI hB ⊢
  have hPW := hP.below hB lb
  have c1 := cell_regrown hI.1.2.1
  have c2 := cell_regrown hI.1.2.2.1
  have q1 := ginverse hPW h2'
  obtain ⟨y1, ry1, ey1⟩ : ∃ z, Rd z ∧ z2 ^ ExpN % Pr = z := ⟨_, Rd.mod _, rfl⟩
  rw [ey1] at q1
  have q2 := gtimes hPW h2 ry1
  obtain ⟨y2, ry2, ey2⟩ : ∃ z, Rd z ∧ (x2 * y1) % Pr = z := ⟨_, Rd.mod _, rfl⟩
  rw [ey2] at q2
  have Q1 := Lib.hid q1; have Q2 := Lib.hid q2
  clear q1 q2 hPW
  refine wp_region_quiet_below (by kernel_rfl) (by kernel_rfl) ?_
  repeat (quiet_step (first | (go_at_call 74; exact Q1.out _ _) | (go_at_call 73; exact Q2.out _ _)))
  refine wpQuiet_nil ?_
  intro _ hw'
  obtain ⟨⟨dq, osq⟩, hw''⟩ := hw'
  subst hw''
  have hb := below_regrown W dq osq
  have hB' := hB.trans (hb.mono hB.size)
  clear hI hB hb c1 c2 Q1 Q2
  generalize grow (redrawn W dq) osq = W1 at hB' ⊢
  go_wp2_with fail
  go_ret
  rw [ey1, ey2]
  exact ⟨rfl, hB'⟩
end Go.Proofs.YtccjhlipcgpkmaaDoor
