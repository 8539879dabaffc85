/- chain's smallest functions: whether a key may be; a secret split to two. -/
import Derived.Test.YtolobdeilfgmnaaDoorVa
namespace Go.Proofs.YtolobdeilfgmnaaDoor
open Go.RowKit
set_option maxRecDepth 100000

theorem isKeyC_any (s : ByteArray) (w : World) :
    Calls Tryd.prog 17 #[.string s] w fun e w' => e = .returned (.bool (decide (s.size = 32))) ∧ w = w' := by
  have h : ((s.size : Int) == 32) = decide (s.size = 32) := by
    rw [Bool.eq_iff_iff, beq_iff_eq, decide_eq_true_iff]; omega
  go_enter Tryd.func17, Tryd.ntmps17
  go_wp2
  go_ret
  exact ⟨rfl, rfl⟩
set_option maxHeartbeats 1000000 in
theorem splitC_any (k wd : ByteArray) (hk : k.size ≤ 1000000) (hwd : wd.size ≤ 80000) (w : World) (hF : FirstAt w) (hK : KeysAt w) :
    Calls Tryd.prog 18 #[.string k, .string wd] w fun e w' => e = .returned (.tuple #[.string (spA k wd), .string (spB k wd)]) ∧ Below w.heap.size w w' := by
  have hs := split_good k wd 2 hk hwd (by omega) w hF hK
  rw [row2] at hs
  generalize spA k wd = A at hs ⊢
  generalize spB k wd = B at hs ⊢
  have HS := Lib.hid hs
  clear hs hF hK
  go_enter Tryd.func18, Tryd.ntmps18
  go_wp2_with fail
  refine HS.out.mono ?_
  rintro e w1 ⟨g, cap, rfl, hl, -, hb1⟩
  obtain ⟨b, o, c, e0, hlt, hcl⟩ := hl
  obtain ⟨⟨rfl, rfl⟩, rfl⟩ : (g = b ∧ 0 = o) ∧ cap = c := by simpa using e0
  have c0 : w1.cell? ⟨g, 0, none⟩ = some (.string A) := hcl 0 (by simp)
  have c1 : w1.cell? ⟨g, 1, none⟩ = some (.string B) := hcl 1 (by simp)
  have HB := Lib.hid hb1
  clear HS hb1 hcl e0 hlt
  go_wp2_with fail
  go_quiet (fail)
  go_wp2_with fail
  go_ret2
  exact ⟨rfl, below_drewN HB.out _⟩
end Go.Proofs.YtolobdeilfgmnaaDoor
