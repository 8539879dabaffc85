/- Law 15: alive; the reference's First and Rest. -/
import Derived.Test.YtmmaimopombepaaBq
namespace Go.Proofs.Ytmmaimopombepaa
open Go.RowKit
set_option maxRecDepth 100000
def keyB : ByteArray := ⟨#[48, 49, 50, 51, 52, 53, 54, 55, 56, 57, 97, 98, 99, 100, 101, 102, 48, 49, 50, 51, 52, 53, 54, 55, 56, 57, 97, 98, 99, 100, 101, 102]⟩
def aliveS : Sh := ⟨3, keyB, ⟨0, keyB⟩, [⟨1, keyB⟩]⟩
theorem alive_right : rightSh aliveS := by decide
theorem alive_left (y : Sh) (h : y = aliveS) : leftN [y] 3 = 1 ∧ leftE [y] 3 = 0 := by
  subst h
  have hr : rightSL [aliveS] := ⟨by simp, fun s hs => by rw [List.mem_singleton.1 hs]; exact alive_right, List.pairwise_singleton _ _⟩
  exact left_some (l := [aliveS]) (i := 0) hr rfl (by simp)
set_option maxHeartbeats 4000000 in
theorem alive_any (w : World) : Calls Try.prog 20 #[] w fun e w' => e = .returned (.bool true) ∧ Below w.heap.size w w' := by
  have hkey : (⟨#[48, 49, 50, 51, 52, 53, 54, 55, 56, 57, 97, 98, 99, 100, 101, 102, 48, 49, 50, 51, 52, 53, 54, 55, 56, 57, 97, 98, 99, 100, 101, 102]⟩ : ByteArray) = keyB := rfl
  obtain ⟨W0, eW0⟩ : ∃ W0, w.alloc (.cells #[.int .u64 1, .string keyB] 25) = W0 := ⟨_, rfl⟩
  have b0 : Below w.heap.size w W0 := by rw [← eW0]; exact (Below.refl _ w).alloc (Nat.le_refl _) _
  have hp : PtsAt W0 ⟨aliveS, some ⟨w.heap.size, 0, none⟩, 1⟩ := by
    refine ⟨?_, Nat.le_refl _, fun e => by cases e⟩
    rw [← eW0]
    exact Sl.one (E := ePn) 25 (⟨1, keyB⟩ : Pn)
  have HP := Lib.hid (publish_nil ⟨aliveS, some ⟨w.heap.size, 0, none⟩, 1⟩ alive_right W0 hp)
  have HB := Lib.hid b0
  clear hp b0
  go_enter Try.func20, Try.ntmps20
  go_wp2_with fail
  refine HP.out.mono ?_
  rintro e w1 ⟨a, c, y, rfl, hss, hy, hb⟩
  have HL := Lib.hid (left_any a c [y] 3 (by simp) w1 hss)
  have hL : leftN (shs [y]) 3 = 1 ∧ leftE (shs [y]) 3 = 0 := alive_left y.s hy
  rw [hL.1, hL.2] at HL
  clear hL
  have HB2 := Lib.hid hb
  clear hss hb hy
  go_wp2_with (go_at_call 24; refine HL.out.mono ?_; rintro e w2 ⟨rfl, hb2⟩)
  all_goals (go_ret; exact ⟨rfl, HB.out.trans ((HB2.out.mono HB.out.size).trans (hb2.mono (Nat.le_trans HB.out.size HB2.out.size)))⟩)
theorem first_any (a : Option Addr) (c : Nat) (l : List Pn) (hl : l.length ≤ 1000) (w : World) (h : PP w a c l) :
    Calls Try.prog 27 #[.slice a l.length c, .int .i64 1] w fun e w' => e = .returned (.slice a (l.take 1).length c) ∧ w' = w := by
  have hc := h.cap
  have hn := h.nil
  clear h
  have hlz : (l.length : Int) ≤ 1000 := by omega
  by_cases h0 : l.length < 1
  · have h0z : (l.length : Int) < 1 := by omega
    have e1 : (l.take 1).length = l.length := by rw [List.length_take]; omega
    rw [e1]
    clear hc hn hl h0 e1
    go_enter Try.func27, Try.ntmps27
    go_wp2_with fail
    go_ret
    exact ⟨rfl, rfl⟩
  · have h0z : (1 : Int) ≤ (l.length : Int) := by omega
    have hcz : (1 : Int) ≤ (c : Int) := by omega
    have e1 : (l.take 1).length = 1 := by rw [List.length_take]; omega
    rw [e1]
    cases a with
    | none => have := (hn rfl).1; omega
    | some ad =>
      clear hc hn hl h0 e1
      go_enter Try.func27, Try.ntmps27
      go_wp2_with fail
      go_ret
      exact ⟨by simp, rfl⟩
theorem rest_any (a : Option Addr) (c : Nat) (l : List Pn) (hl : l.length ≤ 1000) (w : World) (h : PP w a c l) :
    Calls Try.prog 28 #[.slice a l.length c] w fun e w' => ∃ a' c', e = .returned (.slice a' (l.drop 1).length c') ∧ w' = w ∧ ∀ W, PP W a c l → PP W a' c' (l.drop 1) := by
  have hlz : (l.length : Int) ≤ 1000 := by omega
  by_cases h0 : l.length = 0
  · have e1 : l.drop 1 = l := by rw [List.length_eq_zero_iff.1 h0]; rfl
    rw [e1]
    have h0z : (l.length : Int) = 0 := by omega
    obtain ⟨n, en⟩ : ∃ n, l.length = n := ⟨_, rfl⟩
    rw [en] at hlz h0z ⊢
    clear h hl h0 en
    go_enter Try.func28, Try.ntmps28
    go_wp2_with fail
    go_ret
    exact ⟨a, c, rfl, rfl, fun _ h => h⟩
  · obtain ⟨a', c', hrun, hcl, hSl, hnil, -⟩ := from_E (P := Try.prog) ePn 26 Try.underlying26 (fun W => by kernel_rfl) a l c 1 (by omega) h.cap w h.at_
    have hp : ∀ W, PP W a c l → PP W a' c' (l.drop 1) := fun W h => ⟨hSl W h.at_, hcl, hnil h.nil⟩
    obtain ⟨n, en⟩ : ∃ n, l.length = n := ⟨_, rfl⟩
    obtain ⟨n1, en1⟩ : ∃ n1, (l.drop 1).length = n1 := ⟨_, rfl⟩
    have h0z : ¬ (n : Int) = 0 := by omega
    rw [en] at hlz hrun ⊢
    rw [en1] at hrun
    have hrun1 : ∀ W : World, (Instr.slice 26 (.slice a n c) (some (.int .i64 1)) none none).run Try.prog W = .ok (.slice a' n1 c') W := hrun
    have H := Lib.hid (And.intro hp en1)
    clear h hp hl h0 en en1 hcl hSl hnil hrun
    go_enter Try.func28, Try.ntmps28
    go_wp2_with fail
    go_ret
    exact ⟨a', c', by rw [H.out.2]; rfl, rfl, H.out.1⟩
end Go.Proofs.Ytmmaimopombepaa