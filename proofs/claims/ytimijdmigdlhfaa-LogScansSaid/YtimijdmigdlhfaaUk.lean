/- slices.Reverse of texts of the call's own; the package's split; slices.Backward. -/
import Derived.Test.YtimijdmigdlhfaaUj
import Derived.BigQuiet
import Derived.Lib.OwnBridge
namespace Go.Proofs.Ytimijdmigdlhfaa
open Go.RowKit Go.Shelf Go.Sort
set_option maxRecDepth 100000
theorem reverse_own (v : Value) (l : List ByteArray) (base : Nat) (w : World) (h : OwnS w base v l) (hl : l.length ≤ 1000) :
    Calls Try.prog 33 #[v] w fun e w' => e = .returned (.tuple #[]) ∧ OwnS w' base v l.reverse ∧ Below base w w' ∧ ∀ k, some k ≠ v.ownBlock → w'.heap[k]? = w.heap[k]? := by
  by_cases hv : v = .slice none 0 0
  · subst hv
    have h0 : l = [] := by
      rcases h.2 with ⟨-, h0⟩ | ⟨g, cap, cur, e, -⟩
      · exact List.length_eq_zero_iff.1 h0
      · cases e
    subst h0
    refine (Try.slices_Reverse_string_empty none 0 w).mono ?_
    rintro e w' ⟨rfl, rfl⟩
    exact ⟨rfl, h, Below.refl _ _, fun _ _ => rfl⟩
  · have hmap : Sv l = (l.map bl).map encStr := (Lib.map_encStr l).symm
    have hrow : w.ownsRow base 9 1 v l.length ((l.map bl).map encStr) := by rw [← hmap]; exact h
    obtain ⟨g, cap, rfl, hbg, -, -, -, hlen, hH⟩ := Lib.holds_of_ownsRow hrow hv
    have hc := Try.slices_Reverse_string g 0 cap (l.map bl) w hH (by rw [hlen]; omega)
    rw [hlen] at hc
    refine hc.mono ?_
    rintro e w' ⟨rfl, n, rfl⟩
    refine ⟨rfl, ?_, Lib.below_putRow (Below.refl _ _) hbg, fun k hk => ?_⟩
    rotate_left
    · have hne : g ≠ k := fun e => hk (by rw [e]; rfl)
      simp [putRow, mapBlock, Sort.ahead, Array.getElem?_modify, hne]
    have hp := Lib.ownsRow_putRow (q := n) (k := l.length) (ys := (l.map bl).reverse) hrow (by simp) (Nat.le_refl _)
    unfold OwnS
    rw [List.length_reverse]
    have e1 : Sv l.reverse = (((l.map bl).reverse).take l.length).map encStr := by
      rw [List.take_of_length_le (by simp), ← List.map_reverse]
      exact (Lib.map_encStr l.reverse).symm
    rw [e1]
    exact hp
/-- a text's first byte alone -/
def headS (t : ByteArray) : ByteArray := strL ((bl t).take 1)
theorem head_state (t : ByteArray) : ((headS t).toList == [115]) = isState t := by
  have e : (⟨#[115]⟩ : ByteArray).toList = [115] := by decide +kernel
  rw [← e, str_eq]
  unfold headS isState
  congr 1
  rw [eq_iff_iff]
  constructor
  · intro h
    have := congrArg bl h
    rw [bl_strL] at this
    cases hb : bl t with
    | nil => rw [hb] at this; cases this
    | cons a r => rw [hb] at this; simpa [bl] using this
  · intro h
    cases hb : bl t with
    | nil => rw [hb] at h; cases h
    | cons a r => rw [hb] at h; simp at h; subst h; rfl
theorem head_change (t : ByteArray) : ((headS t).toList == [99]) = isChange t := by
  have e : (⟨#[99]⟩ : ByteArray).toList = [99] := by decide +kernel
  rw [← e, str_eq]
  unfold headS isChange
  congr 1
  rw [eq_iff_iff]
  constructor
  · intro h
    have := congrArg bl h
    rw [bl_strL] at this
    cases hb : bl t with
    | nil => rw [hb] at this; cases this
    | cons a r => rw [hb] at this; simpa [bl] using this
  · intro h
    cases hb : bl t with
    | nil => rw [hb] at h; cases h
    | cons a r => rw [hb] at h; simp at h; subst h; rfl
theorem split_any (t : ByteArray) (w : World) :
    Calls Try.prog 32 #[.string t] w fun e w' => e = .returned (.tuple #[.string (headS t), .string (tailS t)]) ∧ Below w.heap.size w w' := by
  obtain ⟨n, hn, h1, h2⟩ : ∃ n : Nat, n ≤ t.size ∧ headS t = strL ((bl t).take n) ∧ tailS t = strL ((bl t).drop n) ∧ min 1 (t.size : Int) = (n : Int) := by
    by_cases h : 1 ≤ t.size
    · exact ⟨1, h, rfl, rfl, by omega⟩
    · have h0 : t.size = 0 := by omega
      have hb : bl t = [] := List.length_eq_zero_iff.1 (by rw [bl_length]; exact h0)
      exact ⟨0, Nat.zero_le _, by unfold headS; rw [hb]; rfl, by unfold tailS; rw [hb]; rfl, by omega⟩
  obtain ⟨h2, hm⟩ := h2
  have hc1 := cut_ahead t n hn
  have hc2 := cut_behind t n hn
  rw [← h1] at hc1
  rw [← h2] at hc2
  clear h1 h2
  generalize headS t = a at hc1 ⊢
  generalize tailS t = b at hc2 ⊢
  clear hn
  go_enter Try.func32, Try.ntmps32
  go_wp2_with fail
  go_quiet (fail)
  go_wp2_with fail
  go_ret2
  exact ⟨rfl, below_dn (Below.refl _ _) _⟩
theorem backward_any (a : Option Addr) (n c : Nat) (w : World) :
    Calls Try.prog 31 #[.slice a n c] w fun e w' => e = .returned (.func (.func 41) #[] #[.pointer (some ⟨w.heap.size, 0, none⟩)]) ∧ w' = w.alloc (.cells #[.slice a n c] 22) := by
  go_enter Try.func31, Try.ntmps31
  go_wp2_with fail
  go_ret
  exact ⟨rfl, rfl⟩
theorem OwnS.form {w : World} {base : Nat} {v : Value} {l : List ByteArray} (h : OwnS w base v l) : ∃ a c, v = .slice a l.length c ∧ l.length ≤ c ∧ (0 < l.length → ∃ g, a = some ⟨g, 0, none⟩) := by
  rcases h.2 with ⟨e, h0⟩ | ⟨g, cap, cur, e, -, -, hc, -⟩
  · exact ⟨none, 0, by rw [e, h0], by omega, fun h => by omega⟩
  · exact ⟨_, _, e, hc, fun _ => ⟨g, rfl⟩⟩
theorem OwnS.cell {w : World} {base g c : Nat} {l : List ByteArray} (h : OwnS w base (.slice (some ⟨g, 0, none⟩) l.length c) l) (i : Nat) (hi : i < l.length) : w.cell? ⟨g, i, none⟩ = some (.string (l.getD i ⟨#[]⟩)) := by
  obtain ⟨g', off, cap, e, -, hc⟩ := h.strs rfl
  cases e
  have := hc i hi
  rwa [Nat.zero_add] at this
theorem OwnS.same {w w' : World} {base : Nat} {v : Value} {l : List ByteArray} (h : OwnS w base v l) (hk : ∀ k, v.ownBlock = some k → w'.heap[k]? = w.heap[k]?) : OwnS w' base v l := by
  refine ⟨h.1, ?_⟩
  rcases h.2 with h2 | ⟨g, cap, cur, e, hg, hc, h3⟩
  · exact .inl h2
  · exact .inr ⟨g, cap, cur, e, hg, by rw [hk g (by rw [e]; rfl)]; exact hc, h3⟩
attribute [local go_sem] Oper.semAt_some
set_option maxHeartbeats 2000000 in
theorem backward1_stops (n : Nat) (hn : 1 ≤ n) (l : List ByteArray) (hl : l.length ≤ 1000) (a : Option Addr) (c base B : Nat) (w : World) (hbox : Boxed w B 22 (.slice a l.length c)) (hown : OwnS w base (.slice a l.length c) l) :
    SeqStopsK Fence.wide n Try.prog 41 #[.pointer (some ⟨B, 0, none⟩)] (fun p : Nat × ByteArray => #[Value.int .i64 (p.1 : Int), Value.string p.2]) (fun W W' => W'.heap[B]? = W.heap[B]? ∧ ∀ k, (Value.slice a l.length c).ownBlock = some k → W'.heap[k]? = W.heap[k]?) (fun xs => xs.map Prod.snd = l.reverse) (fun pre => ∃ rest, l = rest ++ (pre.map Prod.snd).reverse) l.length w := fun q J Jx W hW hJ hJx hY h0 => by
  refine callsIn_of_wp Try.func41 rfl trivial ?_ rfl
  simp only [Try.ntmps41, List.size_toArray, List.length_cons, List.length_nil, Nat.reduceAdd, Nat.reduceSub, Array.replicate_succ, Array.replicate_zero, List.push_toArray, List.append_toArray, List.nil_append, List.cons_append]
  have hbW : Boxed W B 22 (.slice a l.length c) := (hW.block B hbox.lt).trans hbox
  have hoW := hown.on hW
  have hcW := hbW.cell
  clear hbox hown hW
  gi_wp2
  gi_loopw [3] (fun i wr => ∃ (j : Nat) (pre : List (Nat × ByteArray)), i = .int .i64 ((j : Int) - 1) ∧ j ≤ l.length ∧ l = l.take j ++ (pre.map Prod.snd).reverse ∧ pre.length + j = l.length ∧ J pre wr ∧ Boxed wr B 22 (.slice a l.length c) ∧ OwnS wr base (.slice a l.length c) l) (fun i _ => (intOf i + 1).toNat)
  case atStart => exact ⟨l.length, [], rfl, Nat.le_refl _, by simp, by simp, h0, hbW, hoW⟩
  case round =>
    obtain ⟨j, pre, rfl, hj, hsp, hpl, hJp, hb, ho⟩ := hrel
    have hcell := hb.cell
    by_cases hj0 : 0 < j
    · obtain ⟨m, rfl⟩ : ∃ m, j = m + 1 := ⟨j - 1, by omega⟩
      rw [show (((m + 1 : Nat) : Int) - 1) = (m : Int) by omega]
      obtain ⟨a', c', e, -, hg⟩ := ho.form
      cases e
      obtain ⟨g, rfl⟩ := hg (by omega)
      have hrd := ho.cell m (by omega)
      obtain ⟨t, et⟩ : ∃ t, l.getD m ⟨#[]⟩ = t := ⟨_, rfl⟩
      rw [et] at hrd
      have hmi : (m : Int) < (l.length : Int) := by omega
      have hml : (l.length : Int) ≤ 1000 := by omega
      have hnew : l = l.take m ++ ((pre ++ [(m, t)]).map Prod.snd).reverse := by
        have h1 := take_next l m (by omega)
        rw [et] at h1
        rw [h1] at hsp
        simpa using hsp
      obtain ⟨fn, tmps, assign, body, hy, hR⟩ := hY pre (m, t) wr hJp (by omega)
      dsimp only at hy
      have HN := Lib.hid (And.intro hnew (And.intro hpl (And.intro hb ho)))
      clear hnew hsp hpl hb ho et hg hbW hoW
      gi_wp2
      refine hR.mono ?_
      rintro e3 W3 (⟨rfl, hJ3, hk3⟩ | ⟨rfl, hJx3⟩)
      · have hb3 : Boxed W3 B 22 (.slice (some ⟨g, 0, none⟩) l.length c) := hk3.1.trans HN.out.2.2.1
        have ho3 := HN.out.2.2.2.same hk3.2
        have hc3 := hb3.cell
        gi_wp2
        go_roundw
        case rel => exact ⟨m, pre ++ [(m, t)], by simp, by have := HN.out.2.1; omega, HN.out.1, by have := HN.out.2.1; simp; omega, hJ3, hb3, ho3⟩
        case measure => simp [intOf]
      · gi_wp2
        refine bodyPost_ret (results_none rfl _ _ _) rfl ?_
        exact ⟨⟨_, rfl⟩, .inr ⟨_, ⟨_, HN.out.1⟩, hJx3⟩⟩
    · obtain rfl : j = 0 := by omega
      rw [List.take_zero, List.nil_append] at hsp
      have HS := Lib.hid (show pre.map Prod.snd = l.reverse by rw [hsp]; simp)
      clear hsp
      gi_wp2
      go_end0
      exact ⟨⟨_, rfl⟩, .inl ⟨_, HS.out, hJp⟩⟩
end Go.Proofs.Ytimijdmigdlhfaa