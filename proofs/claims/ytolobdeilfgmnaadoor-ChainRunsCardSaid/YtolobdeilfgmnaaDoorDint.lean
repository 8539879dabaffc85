/- Slices of whole numbers of a call's own, and such as can be read. -/
import Derived.Test.YtolobdeilfgmnaaDoorDopen
import Derived.Test.YtolobdeilfgmnaaDoorKa
import Derived.Test.YtolobdeilfgmnaaDoorKi
namespace Go.Proofs.YtolobdeilfgmnaaDoor
open Go.RowKit
set_option maxRecDepth 100000
set_option maxRecDepth 100000 in
set_option maxHeartbeats 400000 in
theorem digits_any (n : Nat) (hn : n < 281474976710656) (w : World) :
    Calls Tryd.prog 36 #[.int .i64 (n : Int)] w fun e w' => ∃ v, e = .returned v ∧ IntsAt w' v [n % 65536, n / 65536 % 65536, n / 4294967296] ∧ Below w.heap.size w w' := by
  go_enter Tryd.func36, Tryd.ntmps36
  go_wp2
  go_ret
  refine ⟨_, rfl, ⟨w.heap.size, 3, rfl, by simp, fun j hj => ?_⟩, by go_grown⟩
  rcases j with _ | _ | _ | j
  · simp
  · simp
  · simp
  · exfalso
    have : j + 1 + 1 + 1 < 3 := hj
    omega
end Go.Proofs.YtolobdeilfgmnaaDoor