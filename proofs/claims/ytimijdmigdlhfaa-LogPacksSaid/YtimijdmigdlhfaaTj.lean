/- The package frame's wireKinds; strings.HasPrefix. -/
import Derived.Test.YtimijdmigdlhfaaTa
import Derived.Test.YtimijdmigdlhfaaSg
import Derived.Test.YtimijdmigdlhfaaPi
import Derived.Test.YtimijdmigdlhfaaQl
import Derived.Test.YtimijdmigdlhfaaSb
import Derived.Test.YtimijdmigdlhfaaPp
import Derived.Laws.StructEq
namespace Go.Proofs.Ytimijdmigdlhfaa
open Go.RowKit Go.Sort
set_option maxRecDepth 100000
theorem cut_to (x b : ByteArray) (n : Nat) (hn : n ≤ x.size) (hb : x.extract 0 n = b) (W : World) : (Instr.slice 9 (.string x) none (some (.int .i64 (n : Int))) none).run Try.prog W = .ok (.string b) W := by
  have h1 : (n : Int) ≤ (x.size : Int) := by omega
  subst hb
  go_simp
def preS (s t : ByteArray) : Bool := decide (t.size ≤ s.size) && decide ((bl s).take t.size = bl t)
set_option maxHeartbeats 1000000 in
theorem hasPrefixB_any (s t : ByteArray) (w : World) :
    Calls Try.prog 51 #[.string s, .string t] w fun e w' => e = .returned (.bool (preS s t)) ∧ w = w' := by
  by_cases h : t.size ≤ s.size
  · have h1 : (t.size : Int) ≤ (s.size : Int) := by omega
    obtain ⟨p, hp⟩ : ∃ p, s.extract 0 t.size = p := ⟨_, rfl⟩
    have hsl := cut_to s p t.size h hp
    have hb : bl p = (bl s).take t.size := by rw [← hp, bl_extract, List.drop_zero]
    have he : preS s t = (p.toList == t.toList) := by
      unfold preS
      rw [decide_eq_true h, Bool.true_and, str_eq, ← hb]
      by_cases hpt : p = t
      · subst hpt; simp
      · rw [decide_eq_false hpt, decide_eq_false]
        exact fun e => hpt (bl_inj e)
    rw [he]
    clear he hb hp h
    go_enter Try.func51, Try.ntmps51
    go_wp2_with fail
    go_ret
    exact ⟨rfl, rfl⟩
  · have h1 : ¬ (t.size : Int) ≤ (s.size : Int) := by omega
    have he : preS s t = false := by unfold preS; rw [decide_eq_false h, Bool.false_and]
    rw [he]
    clear he h
    go_enter Try.func51, Try.ntmps51
    go_wp2_with fail
    go_ret
    exact ⟨rfl, rfl⟩
set_option maxHeartbeats 1000000 in
theorem hasPrefix_any (s t : ByteArray) (w : World) :
    Calls Try.prog 47 #[.string s, .string t] w fun e w' => e = .returned (.bool (preS s t)) ∧ w = w' := by
  have H := Lib.hid (hasPrefixB_any s t w)
  go_enter Try.func47, Try.ntmps47
  go_wp2_with fail
  refine H.out.mono ?_
  rintro e w1 ⟨rfl, rfl⟩
  go_wp2_with fail
  go_ret
  exact ⟨rfl, rfl⟩
end Go.Proofs.Ytimijdmigdlhfaa