/- The ladder's numbers: texts that tell numbers below the prime; what its methods tell of them. -/
import Derived.Test.YtccjhlipcgpkmaaDoorPow
import Derived.Test.YtccjhlipcgpkmaaDoorLe
import Derived.Test.YtccjhlipcgpkmaaDoorQl
namespace Go.Proofs.YtccjhlipcgpkmaaDoor
open Go.RowKit Go.Sort

/-- a number that is left -/
def Rd (x : Int) : Prop := 0 ≤ x ∧ x < Pr
theorem Rd.mod (x : Int) : Rd (x % Pr) := ⟨Int.emod_nonneg _ (by have := pr_pos; omega), Int.emod_lt_of_pos _ pr_pos⟩
theorem Rd.num {x : Int} (h : Rd x) : leNum (leStr x) = x := by
  obtain ⟨h0, h1⟩ := h
  refine leNum_leStr x h0 ?_
  unfold Pr at h1
  unfold W256
  omega
/-- a call that hands back a text, and leaves what was there -/
def Tells (x : Int) (w : World) (e : Ending) (w' : World) : Prop := e = .returned (.string (leStr x)) ∧ Below w.heap.size w w'

set_option maxHeartbeats 1000000 in
theorem lplus {x y : Int} (hx : Rd x) (hy : Rd y) (w : World) (hP : PrimeAt w) :
    Calls Tryd.prog 70 #[.string (leStr x), .string (leStr y)] w (Tells ((x + y) % Pr) w) := by
  have H := add_good _ _ (leStr_size x) (leStr_size y) w hP
  rw [hx.num, hy.num] at H
  have HH := Lib.hid H
  clear H
  go_enter Tryd.func70, Tryd.ntmps70
  go_wp2_with fail
  refine HH.out.mono ?_
  rintro e w1 ⟨rfl, hb1⟩
  go_wp2_with fail
  go_ret
  exact ⟨rfl, hb1⟩
set_option maxHeartbeats 1000000 in
theorem lminus {x y : Int} (hx : Rd x) (hy : Rd y) (w : World) (hP : PrimeAt w) :
    Calls Tryd.prog 71 #[.string (leStr x), .string (leStr y)] w (Tells ((x - y) % Pr) w) := by
  have H := sub_good _ _ (leStr_size x) (leStr_size y) w hP
  rw [hx.num, hy.num] at H
  have HH := Lib.hid H
  clear H
  go_enter Tryd.func71, Tryd.ntmps71
  go_wp2_with fail
  refine HH.out.mono ?_
  rintro e w1 ⟨rfl, hb1⟩
  go_wp2_with fail
  go_ret
  exact ⟨rfl, hb1⟩
set_option maxHeartbeats 1000000 in
theorem ltimes {x y : Int} (hx : Rd x) (hy : Rd y) (w : World) (hP : PrimeAt w) :
    Calls Tryd.prog 73 #[.string (leStr x), .string (leStr y)] w (Tells ((x * y) % Pr) w) := by
  have H := mul_good _ _ (leStr_size x) (leStr_size y) w hP
  rw [hx.num, hy.num] at H
  have HH := Lib.hid H
  clear H
  go_enter Tryd.func73, Tryd.ntmps73
  go_wp2_with fail
  refine HH.out.mono ?_
  rintro e w1 ⟨rfl, hb1⟩
  go_wp2_with fail
  go_ret
  exact ⟨rfl, hb1⟩
set_option maxHeartbeats 1000000 in
theorem lsquare {x : Int} (hx : Rd x) (w : World) (hP : PrimeAt w) :
    Calls Tryd.prog 72 #[.string (leStr x)] w (Tells ((x * x) % Pr) w) := by
  have HH := Lib.hid (ltimes hx hx w hP)
  go_enter Tryd.func72, Tryd.ntmps72
  go_wp2_with fail
  refine HH.out.mono ?_
  rintro e w1 ⟨rfl, hb1⟩
  go_wp2_with fail
  go_ret
  exact ⟨rfl, hb1⟩
set_option maxHeartbeats 1000000 in
theorem linverse {x : Int} (hx : Rd x) (w : World) (hP : PrimeAt w) :
    Calls Tryd.prog 74 #[.string (leStr x)] w (Tells (x ^ ExpN % Pr) w) := by
  have H := inv_good _ (leStr_size x) w hP
  rw [hx.num] at H
  have HH := Lib.hid H
  clear H
  go_enter Tryd.func74, Tryd.ntmps74
  go_wp2_with fail
  refine HH.out.mono ?_
  rintro e w1 ⟨rfl, hb1⟩
  go_wp2_with fail
  go_ret
  exact ⟨rfl, hb1⟩

/-- the same, in every world in which nothing of W has turned -/
theorem gplus {W : World} (hP : PrimeAt W) {x y : Int} (hx : Rd x) (hy : Rd y) (d : Nat) (os : Array Obj) :
    Calls Tryd.prog 70 #[.string (leStr x), .string (leStr y)] (grow (redrawn W d) os) fun e w'' => e = .returned (.string (leStr ((x + y) % Pr))) ∧ ∃ p : Regrown, w'' = grow (redrawn W p.d) p.os :=
  Calls.regrown_of (lplus hx hy _ (hP.below (below_regrown W d os) hP.lt))
theorem gminus {W : World} (hP : PrimeAt W) {x y : Int} (hx : Rd x) (hy : Rd y) (d : Nat) (os : Array Obj) :
    Calls Tryd.prog 71 #[.string (leStr x), .string (leStr y)] (grow (redrawn W d) os) fun e w'' => e = .returned (.string (leStr ((x - y) % Pr))) ∧ ∃ p : Regrown, w'' = grow (redrawn W p.d) p.os :=
  Calls.regrown_of (lminus hx hy _ (hP.below (below_regrown W d os) hP.lt))
theorem gtimes {W : World} (hP : PrimeAt W) {x y : Int} (hx : Rd x) (hy : Rd y) (d : Nat) (os : Array Obj) :
    Calls Tryd.prog 73 #[.string (leStr x), .string (leStr y)] (grow (redrawn W d) os) fun e w'' => e = .returned (.string (leStr ((x * y) % Pr))) ∧ ∃ p : Regrown, w'' = grow (redrawn W p.d) p.os :=
  Calls.regrown_of (ltimes hx hy _ (hP.below (below_regrown W d os) hP.lt))
theorem gsquare {W : World} (hP : PrimeAt W) {x : Int} (hx : Rd x) (d : Nat) (os : Array Obj) :
    Calls Tryd.prog 72 #[.string (leStr x)] (grow (redrawn W d) os) fun e w'' => e = .returned (.string (leStr ((x * x) % Pr))) ∧ ∃ p : Regrown, w'' = grow (redrawn W p.d) p.os :=
  Calls.regrown_of (lsquare hx _ (hP.below (below_regrown W d os) hP.lt))
theorem ginverse {W : World} (hP : PrimeAt W) {x : Int} (hx : Rd x) (d : Nat) (os : Array Obj) :
    Calls Tryd.prog 74 #[.string (leStr x)] (grow (redrawn W d) os) fun e w'' => e = .returned (.string (leStr (x ^ ExpN % Pr))) ∧ ∃ p : Regrown, w'' = grow (redrawn W p.d) p.os :=
  Calls.regrown_of (linverse hx _ (hP.below (below_regrown W d os) hP.lt))
end Go.Proofs.YtccjhlipcgpkmaaDoor
