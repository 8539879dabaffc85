/- The texts Yb, Yh, one behind the other. -/
import Derived.Test.YthjlhcmdpeinpaaGreatDoorBg3
import Derived.WalkSmall
import Derived.Lib.Strings
import Derived.Defers
import Derived.Recover
/- The package session's leaves: isKey, isKeyOrNone, refuseIf, sure, surePair; the reference's open. -/
namespace Go.Proofs.YthjlhcmdpeinpaaGreatDoor
open Go.RowKit
set_option maxRecDepth 100000
theorem str_litY (s : ByteArray) (l m : List UInt8) (hs : bl s = l) : (s.toList == m) = decide (l = m) := by
  rw [Lib.toList_data]
  show (bl s == m) = _
  rw [hs]
  by_cases h : l = m
  · subst h; simp
  · rw [decide_eq_false h, beq_eq_false_iff_ne]; exact h
theorem nat_eqY (n m : Nat) : ((n : Int) == (m : Int)) = decide (n = m) := by
  by_cases h : n = m
  · subst h; simp
  · rw [decide_eq_false h, beq_eq_false_iff_ne]; omega
theorem str_nilY (x : ByteArray) : (x.toList == []) = decide (x.size = 0) := by
  rw [str_litY x (bl x) [] rfl]
  by_cases h : x.size = 0
  · rw [decide_eq_true h, decide_eq_true]; exact List.eq_nil_of_length_eq_zero h
  · rw [decide_eq_false h, decide_eq_false]; intro e; exact h (by rw [← bl_length, e]; rfl)
theorem isKeyY_any (s : ByteArray) (w : World) :
    Calls Tryz.prog 24 #[.string s] w fun e w' => e = .returned (.bool (decide (s.size = 32))) ∧ w = w' := by
  have q := nat_eqY s.size 32
  go_enter Tryz.func24, Tryz.ntmps24
  go_wp2_with fail
  go_ret
  exact ⟨by rw [← q]; rfl, rfl⟩
theorem isKeyOrNone_any (s : ByteArray) (w : World) :
    Calls Tryz.prog 26 #[.string s] w fun e w' => e = .returned (.bool (decide (s.size = 0 ∨ s.size = 32))) ∧ w = w' := by
  have q := str_nilY s
  have H := Lib.hid (isKeyY_any s w)
  by_cases h : s.size = 0
  · rw [decide_eq_true h] at q
    rw [decide_eq_true (Or.inl h)]
    clear h H
    go_enter Tryz.func26, Tryz.ntmps26
    go_wp2_with fail
    go_ret
    exact ⟨rfl, rfl⟩
  · rw [decide_eq_false h] at q
    have e : decide (s.size = 0 ∨ s.size = 32) = decide (s.size = 32) := by simp [h]
    rw [e]
    clear h e
    go_enter Tryz.func26, Tryz.ntmps26
    go_wp2_with fail
    refine H.out.mono ?_
    rintro e w1 ⟨rfl, rfl⟩
    clear H
    go_wp2_with fail
    go_ret
    exact ⟨rfl, rfl⟩
theorem openY_any (s : ByteArray) (w : World) :
    Calls Tryz.prog 29 #[.string s] w fun e w' => e = .returned (.bool (decide (s.size = 0 ∨ s.size = 32))) ∧ w = w' := by
  have q := str_nilY s
  have q2 := nat_eqY s.size 32
  by_cases h : s.size = 0
  · rw [decide_eq_true h] at q
    rw [decide_eq_true (Or.inl h)]
    clear h q2
    go_enter Tryz.func29, Tryz.ntmps29
    go_wp2_with fail
    go_ret
    exact ⟨rfl, rfl⟩
  · rw [decide_eq_false h] at q
    have e : decide (s.size = 0 ∨ s.size = 32) = decide (s.size = 32) := by simp [h]
    rw [e, ← q2]
    clear h e q2
    go_enter Tryz.func29, Tryz.ntmps29
    go_wp2_with fail
    go_ret
    exact ⟨rfl, rfl⟩
/-- what a panic with an error's number leaves -/
abbrev thrown (k : Int) : Ending := .panicked [{ v := .iface 29 (.int .i64 k), recovered := false }]
theorem refuse_not (k : Int) (w : World) : Calls Tryz.prog 65 #[.bool false, .int .i64 k] w fun e w' => e = .returned (.tuple #[]) ∧ w = w' := by
  go_enter Tryz.func65, Tryz.ntmps65
  go_wp2_with fail
  go_end0
  exact ⟨rfl, rfl⟩
theorem refuse_yes (k : Int) (w : World) : Calls Tryz.prog 65 #[.bool true, .int .i64 k] w fun e w' => e = thrown k ∧ w = w' := by
  go_enter Tryz.func65, Tryz.ntmps65
  go_wp2_with fail
  exact ⟨rfl, rfl, rfl⟩
theorem sure_ok (x : ByteArray) (w : World) : Calls Tryz.prog 50 #[.string x, .int .i64 0] w fun e w' => e = .returned (.string x) ∧ w = w' := by
  have H := Lib.hid (refuse_not 0 w)
  go_enter Tryz.func50, Tryz.ntmps50
  go_wp2_with fail
  refine H.out.mono ?_
  rintro e w1 ⟨rfl, rfl⟩
  clear H
  go_wp2_with fail
  go_ret
  exact ⟨rfl, rfl⟩
theorem sure_bad (x : ByteArray) (k : Int) (hk : k ≠ 0) (w : World) : Calls Tryz.prog 50 #[.string x, .int .i64 k] w fun e w' => e = thrown k ∧ w = w' := by
  have H := Lib.hid (refuse_yes k w)
  have h0 : (k != 0) = true := by simp [hk]
  clear hk
  go_enter Tryz.func50, Tryz.ntmps50
  go_wp2_with fail
  refine H.out.mono ?_
  rintro e w1 ⟨rfl, rfl⟩
  clear H
  go_wp2_with fail
  exact ⟨rfl, rfl, rfl⟩
theorem surePair_ok (x y : ByteArray) (w : World) : Calls Tryz.prog 52 #[.string x, .string y, .int .i64 0] w fun e w' => e = .returned (.tuple #[.string x, .string y]) ∧ w = w' := by
  have H := Lib.hid (refuse_not 0 w)
  go_enter Tryz.func52, Tryz.ntmps52
  go_wp2_with fail
  refine H.out.mono ?_
  rintro e w1 ⟨rfl, rfl⟩
  clear H
  go_wp2_with fail
  go_ret2
  exact ⟨rfl, rfl⟩
end Go.Proofs.YthjlhcmdpeinpaaGreatDoor

/- What the package session defers: a panic with an error's number is taken back, and told. -/
namespace Go.Proofs.YthjlhcmdpeinpaaGreatDoor
open Go.RowKit
set_option maxRecDepth 100000
theorem catch_idle (p : Addr) (w : World) :
    CallsD Tryz.prog 64 #[.pointer (some p)] .returning w fun e u' w' => e = .returned (.tuple #[]) ∧ u' = .returning ∧ w' = w := by
  refine callsD_of_wpS Tryz.func64 rfl fun c₀ cs hu => ?_
  apply wpS_seq
  apply wpS_region
  simp [wpOpsS, go_sem, recoverD, hu, Tryz.ntmps64, Exit.thenS]
  refine wpS_of_wp ?_
  go_wp2
  cases c₀
  simp_all [bodyPostS, results, Tryz.results64]
theorem catch_thrown (p : Addr) (k : Int) (x : Value) (older : List PanicEntry) (w : World) (hc : w.cell? p = some x) (hz : w.frozen? p = false) :
    CallsD Tryz.prog 64 #[.pointer (some p)] (.panicking ({ v := .iface 29 (.int .i64 k), recovered := false } :: older)) w fun e u' w' =>
      e = .returned (.tuple #[]) ∧ u' = .panicking ({ v := .iface 29 (.int .i64 k), recovered := true } :: older) ∧ w' = w.setCell p (.int .i64 k) := by
  have ha : ∀ W : World, (Instr.typeAssert (Value.iface 29 (.int .i64 k)) 20 29 true).run Tryz.prog W = .ok (Value.tuple #[Value.int .i64 k, Value.bool true]) W := fun _ => by simp [Instr.typeAssert, run_underlying Tryz.underlying29, go_sem, Result.andThen]
  refine callsD_of_wpS Tryz.func64 rfl fun c₀ cs hu => ?_
  apply wpS_seq
  apply wpS_region
  simp [wpOpsS, go_sem, recoverD, hu, Tryz.ntmps64, Exit.thenS]
  refine wpS_of_wp ?_
  rw [show (#[.pointer (some p)] ++ (Array.replicate 10 undef).setIfInBounds 3 (.iface 29 (.int .i64 k)) : Array Value) = #[.pointer (some p), undef, undef, undef, .iface 29 (.int .i64 k), undef, undef, undef, undef, undef, undef] from rfl]
  go_wp2_with fail
  exact ⟨rfl, _, rfl, .tuple #[], by simp [results, Tryz.results64], rfl, rfl, rfl⟩
end Go.Proofs.YthjlhcmdpeinpaaGreatDoor
