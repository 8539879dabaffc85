/- The texts Kw, Ew, Eroots, Ekeys, one behind the other. -/
import Derived.Test.YtfkfadcfafbmmaaDoorRows
import Derived.Test.YtfkfadcfafbmmaaDoorBg2
import Derived.Test.YtfkfadcfafbmmaaDoorBg6
import Derived.Test.YtfkfadcfafbmmaaDoorBg4
import Derived.Test.YtfkfadcfafbmmaaDoorBg7
/- Slices of words of 32 bits of a call's own. -/
namespace Go.Proofs.YtfkfadcfafbmmaaDoor
open Go.RowKit
set_option maxRecDepth 100000
/-- a slice of words of the call's own that reads as l -/
def OwnW (w : World) (base : Nat) (v : Value) (l : List (BitVec 32)) : Prop := w.ownsRow base 71 1 v l.length (Wd l)
theorem OwnW.ws {w : World} {base : Nat} {v : Value} {l : List (BitVec 32)} (h : OwnW w base v l) (hl : 0 < l.length) : WsAt w v l := by
  obtain ⟨g, cap, rfl, -, hg⟩ := World.ownsRow.form h hl
  refine ⟨g, 0, cap, rfl, hg, fun j hj => ?_⟩
  have := World.ownsRow.cellAt h j (by omega)
  rw [Nat.zero_add, this]
  simp [List.getD, hj, Wd]
theorem OwnW.alloc {w : World} {base : Nat} {v : Value} {l : List (BitVec 32)} (h : OwnW w base v l) (o : Obj) : OwnW (w.alloc o) base v l := World.ownsRow.alloc h o
theorem OwnW.drewN {w : World} {base : Nat} {v : Value} {l : List (BitVec 32)} (h : OwnW w base v l) (n : Nat) : OwnW (w.drewN n) base v l := h
theorem OwnW.on {w w' : World} {base : Nat} {v : Value} {l : List (BitVec 32)} (h : OwnW w base v l) (hb : Below w.heap.size w w') : OwnW w' base v l := by
  refine ⟨h.1, ?_⟩
  rcases h.2 with h2 | ⟨g, cap, cur, e, hg, hc, h3⟩
  · exact Or.inl h2
  · exact Or.inr ⟨g, cap, cur, e, hg, by rw [hb.block g (Array.getElem?_eq_some_iff.1 hc).1]; exact hc, h3⟩
theorem OwnW.empty (w : World) (base : Nat) (hb : base ≤ w.heap.size) : OwnW (w.alloc (.cells #[] 71)) base (.slice (some ⟨w.heap.size, 0, none⟩) 0 0) [] :=
  World.ownsRow_lit w #[] 0 hb (by decide) rfl
theorem infoW : (Tryd.prog.info? 71).map (fun i => (i.zero, i.size, i.bytes)) = some (some (.int .u32 0), 1, 4) := by kernel_rfl
/-- one word put behind a slice of the call's own -/
theorem append_w {ops : Array Oper} {rest : List Oper} {o : Oper} {a : Act} {Q : Exit → Act → World → Prop} {w : World} (hgd : o.guard = none) (s x : Operand)
    (ho : o.op = .call { callee := .builtin .append, args := #[s, x], argTypes := #[33, 33] })
    (base : Nat) (v : Value) (l : List (BitVec 32)) (y : BitVec 32) (B : Nat) (hs : a.eval s = v) (hown : OwnW w base v l) (hx : a.eval x = .slice (some ⟨B, 0, none⟩) 1 1)
    (hc : w.cell? ⟨B, 0, none⟩ = some (.int .u32 (y.toNat : Int))) (hl : l.length ≤ 1000) (hbase : base ≤ w.heap.size)
    (h : ∀ g cap w', OwnW w' base (.slice (some ⟨g, 0, none⟩) (l.length + 1) cap) (l ++ [y]) → w.grownBy w' v.ownBlock → wpList Tryd.prog ops Q rest (a.put o.dst (.slice (some ⟨g, 0, none⟩) (l.length + 1) cap)) w') :
    wpList Tryd.prog ops Q (o :: rest) a w := by
  obtain ⟨i0, hi, hz0, hz1, hz2⟩ := info_parts infoW
  refine wpList_append_own w hgd s x 33 ho base 71 i0 (.int .u32 0) 1 4 Tryd.underlying33 hi hz0 hz1 hz2 rfl (by decide) v l.length (Wd l) hs hown ⟨B, 0, none⟩ 1 1 [.int .u32 (y.toNat : Int)] hx rfl ?_ ?_ (by unfold maxLen; omega) (by omega) hbase ?_
  · intro j u hu
    rcases j with _ | j
    · simp at hu; subst hu; simpa [Addr.add] using hc
    · simp at hu
  · intro u hu; simp at hu; subst hu; rfl
  · intro v' w' ho' hg _
    obtain ⟨g, cap, rfl, -, -⟩ := World.ownsRow.form ho' (by omega)
    exact h g cap w' (by unfold OwnW; simpa [Wd] using ho') hg
theorem OwnW.below {w wr w' : World} {n : Nat} {v : Value} {l : List (BitVec 32)} {o : Obj} (hI : OwnW wr n v l) (hB : Below n w wr) (hn : n ≤ wr.heap.size) (hg : (wr.alloc o).grownBy w' v.ownBlock) : Below n w w' :=
  (hB.alloc hn o).grown hg (by simp; omega) fun k hk => (World.ownsRow.lt hI k hk).1
theorem OwnW.ne {w : World} {base : Nat} {v : Value} {l : List (BitVec 32)} (h : OwnW w base v l) (hl : 0 < l.length) (n : Nat) (hn : n < base) : ∀ b k c, v = .slice (some b) k c → b.block ≠ n := by
  obtain ⟨g, cap, rfl, hb, -⟩ := World.ownsRow.form h hl
  intro b k c e
  cases e
  show g ≠ n
  omega
theorem OwnW.cell {w : World} {base G n cap : Nat} {l : List (BitVec 32)} (h : OwnW w base (.slice (some ⟨G, 0, none⟩) n cap) l) (hn : n = l.length) (j : Nat) (hj : j < l.length) : w.cell? ⟨G, j, none⟩ = some (.int .u32 ((l.getD j 0).toNat : Int)) := by
  subst hn
  have := World.ownsRow.cellAt h j (by omega)
  rw [this]
  simp [List.getD, hj, Wd]
theorem OwnW.frozen {w : World} {base g n cap : Nat} {l : List (BitVec 32)} (h : OwnW w base (.slice (some ⟨g, 0, none⟩) n cap) l) (i : Nat) : w.frozen? ⟨g, i, none⟩ = false := by
  rcases h.2 with ⟨e, -⟩ | ⟨g', cap', cur, e, -, hc, -⟩
  · cases e
  · cases e; exact frozen_of_row _ _ _ _ _ hc
/-- a word stored into a slice of the call's own -/
theorem OwnW.set {w : World} {base g n cap : Nat} {l : List (BitVec 32)} (h : OwnW w base (.slice (some ⟨g, 0, none⟩) n cap) l) (i : Nat) (_hi : i < l.length) (x : BitVec 32) : OwnW (w.setCell ⟨g, i, none⟩ (.int .u32 (x.toNat : Int))) base (.slice (some ⟨g, 0, none⟩) n cap) (l.set i x) := by
  unfold OwnW at *
  rw [List.length_set]
  refine ⟨by simp [Wd], ?_⟩
  rcases h.2 with ⟨e, -⟩ | ⟨g', cap', cur, e, hb, hc, h1, h2, h3, h4⟩
  · cases e
  · cases e
    refine Or.inr ⟨g, cap, cur.setIfInBounds i (.int .u32 (x.toNat : Int)), rfl, hb, heap_setCell_same w g i _ _ _ hc, h1, h2, by simpa using h3, ?_⟩
    rw [Array.toList_setIfInBounds, List.take_set, h4]
    simp [Wd, List.map_set]
end Go.Proofs.YtfkfadcfafbmmaaDoor

/- Slices of words of a call's own; the contracts of the reference's ror and word. -/
namespace Go.Proofs.YtfkfadcfafbmmaaDoor
open Go.RowKit
set_option maxRecDepth 100000 in
set_option maxHeartbeats 400000 in
theorem rorr_any (x : BitVec 32) (n : Nat) (h0 : 0 < n) (h1 : n < 32) (w : World) :
    Calls Tryd.prog 64 #[.int .u32 (x.toNat : Int), .int .u32 (n : Int)] w fun e w' => e = .returned (.int .u32 ((rr x n).toNat : Int)) ∧ w = w' := by
  obtain ⟨m, hm⟩ : ∃ m, n + m = 32 := ⟨32 - n, by omega⟩
  have w1 : IntKind.u32.wrap (32 - (n : Int)) = (m : Int) := by rw [IntKind.wrap_u32]; omega
  have hm1 : (m : Int) < 32 := by omega
  have hn1 : (n : Int) < 32 := by omega
  have e1 := shl32 x m
  have e2 := shr32 x n
  have e3 := bits_or32 (x >>> n) (x <<< m)
  have er : ((rr x n).toNat : Int) = ((x >>> n ||| x <<< m).toNat : Int) := by
    unfold rr
    rw [show 32 - n = m by omega]
  rw [er]
  clear er
  generalize x <<< m = s at e1 e3 ⊢
  generalize x >>> n = t at e2 e3 ⊢
  generalize t ||| s = r at e3 ⊢
  go_enter Tryd.func64, Tryd.ntmps64
  go_wp2
  go_ret
  exact ⟨rfl, rfl⟩

/-- the contract of ror, said of a literal -/
def RorAt (x r : BitVec 32) (n : Int) : Prop := ∀ w : World, Calls Tryd.prog 64 #[.int .u32 (x.toNat : Int), .int .u32 n] w fun e w' => e = .returned (.int .u32 (r.toNat : Int)) ∧ w = w'
theorem RorAt.q {x r : BitVec 32} {n : Int} (h : RorAt x r n) (w : World) (k : Nat) : Calls Tryd.prog 64 #[.int .u32 (x.toNat : Int), .int .u32 n] (w.drewN k) fun e w'' => e = .returned (.int .u32 (r.toNat : Int)) ∧ ∃ m, w'' = w.drewN m := quiet_left (h _)

theorem word4_sum (a b c d : UInt8) : (a.toNat : Int) * 16777216 + (b.toNat : Int) * 65536 + (c.toNat : Int) * 256 + (d.toNat : Int) = ((word4 a b c d).toNat : Int) := by
  have ha := a.toNat_lt
  have hb := b.toNat_lt
  have hc := c.toNat_lt
  have hd := d.toNat_lt
  unfold word4
  rw [BitVec.toNat_ofNat, Nat.mod_eq_of_lt (by omega)]
  omega

set_option maxRecDepth 100000 in
set_option maxHeartbeats 1000000 in
theorem word_lo (v : Value) (s : ByteArray) (hs : s.size = 64) (t : Nat) (ht : t < 16) (w : World) :
    Calls Tryd.prog 63 #[v, .string s, .int .i64 (t : Int)] w fun e w' => e = .returned (.int .u32 ((wdAt (bl s) t).toNat : Int)) ∧ ∃ n, w' = w.drewN n := by
  have h1 : (t : Int) < 16 := by omega
  have e0 : IntKind.i64.wrap (4 * (t : Int)) = 4 * (t : Int) := IntWalk.i64_in _ (by omega)
  have e1 : IntKind.i64.wrap (4 * (t : Int) + 1) = 4 * (t : Int) + 1 := IntWalk.i64_in _ (by omega)
  have e2 : IntKind.i64.wrap (4 * (t : Int) + 2) = 4 * (t : Int) + 2 := IntWalk.i64_in _ (by omega)
  have e3 : IntKind.i64.wrap (4 * (t : Int) + 3) = 4 * (t : Int) + 3 := IntWalk.i64_in _ (by omega)
  have i0 : ∀ W : World, (Instr.index 9 (.string s) (.int .i64 (4 * (t : Int)))).run Tryd.prog W = .ok (.int .u8 (s[4 * t].toNat : Int)) W := fun W => str_index s _ (4 * t) (by omega) (by omega) W
  have i1 : ∀ W : World, (Instr.index 9 (.string s) (.int .i64 (4 * (t : Int) + 1))).run Tryd.prog W = .ok (.int .u8 (s[4 * t + 1].toNat : Int)) W := fun W => str_index s _ (4 * t + 1) (by omega) (by omega) W
  have i2 : ∀ W : World, (Instr.index 9 (.string s) (.int .i64 (4 * (t : Int) + 2))).run Tryd.prog W = .ok (.int .u8 (s[4 * t + 2].toNat : Int)) W := fun W => str_index s _ (4 * t + 2) (by omega) (by omega) W
  have i3 : ∀ W : World, (Instr.index 9 (.string s) (.int .i64 (4 * (t : Int) + 3))).run Tryd.prog W = .ok (.int .u8 (s[4 * t + 3].toNat : Int)) W := fun W => str_index s _ (4 * t + 3) (by omega) (by omega) W
  have hw : wdAt (bl s) t = word4 s[4 * t] s[4 * t + 1] s[4 * t + 2] s[4 * t + 3] := by
    unfold wdAt
    rw [bl_get s (4 * t) (by omega), bl_get s (4 * t + 1) (by omega), bl_get s (4 * t + 2) (by omega), bl_get s (4 * t + 3) (by omega)]
  rw [hw]
  clear hw
  have hsum := word4_sum s[4 * t] s[4 * t + 1] s[4 * t + 2] s[4 * t + 3]
  have c1 := s[4 * t].toNat_lt
  have c2 := s[4 * t + 1].toNat_lt
  have c3 := s[4 * t + 2].toNat_lt
  have c4 := s[4 * t + 3].toNat_lt
  generalize word4 s[4 * t] s[4 * t + 1] s[4 * t + 2] s[4 * t + 3] = r at hsum ⊢
  generalize s[4 * t] = b0 at *
  generalize s[4 * t + 1] = b1 at *
  generalize s[4 * t + 2] = b2 at *
  generalize s[4 * t + 3] = b3 at *
  go_enter Tryd.func63, Tryd.ntmps63
  go_wp2_with fail
  go_quiet (fail)
  go_wp2_with fail
  go_ret
  exact ⟨rfl, _, rfl⟩

set_option maxRecDepth 100000 in
set_option maxHeartbeats 1000000 in
theorem word_hi (v : Value) (s : ByteArray) (r : List (BitVec 32)) (hr : 16 ≤ r.length) (hr2 : r.length ≤ 64) (w : World) (hv : WsAt w v r) :
    Calls Tryd.prog 63 #[v, .string s, .int .i64 (r.length : Int)] w fun e w' => e = .returned (.int .u32 ((nextW r).toNat : Int)) ∧ ∃ n, w' = w.drewN n := by
  obtain ⟨g, off, cap, rfl, hg, hc⟩ := hv
  obtain ⟨t, ht⟩ : ∃ t, r.length = t := ⟨_, rfl⟩
  rw [ht] at hr hr2 hc ⊢
  have h1 : ¬ (t : Int) < 16 := by omega
  have e2 : IntKind.i64.wrap ((t : Int) - 2) = (t : Int) - 2 := IntWalk.i64_in _ (by omega)
  have n2 : ((t : Int) - 2).toNat = t - 2 := by omega
  have e15 : IntKind.i64.wrap ((t : Int) - 15) = (t : Int) - 15 := IntWalk.i64_in _ (by omega)
  have n15 : ((t : Int) - 15).toNat = t - 15 := by omega
  have e7 : IntKind.i64.wrap ((t : Int) - 7) = (t : Int) - 7 := IntWalk.i64_in _ (by omega)
  have n7 : ((t : Int) - 7).toNat = t - 7 := by omega
  have e16 : IntKind.i64.wrap ((t : Int) - 16) = (t : Int) - 16 := IntWalk.i64_in _ (by omega)
  have n16 : ((t : Int) - 16).toNat = t - 16 := by omega
  have l2 : (0 : Int) ≤ (t : Int) - 2 := by omega
  have m2 : (t : Int) - 2 < (t : Int) := by omega
  have l15 : (0 : Int) ≤ (t : Int) - 15 := by omega
  have m15 : (t : Int) - 15 < (t : Int) := by omega
  have l7 : (0 : Int) ≤ (t : Int) - 7 := by omega
  have m7 : (t : Int) - 7 < (t : Int) := by omega
  have l16 : (0 : Int) ≤ (t : Int) - 16 := by omega
  have m16 : (t : Int) - 16 < (t : Int) := by omega
  have c2 := hc (t - 2) (by omega)
  have c7 := hc (t - 7) (by omega)
  have c15 := hc (t - 15) (by omega)
  have c16 := hc (t - 16) (by omega)
  have hnext : nextW r = near (r.getD (t - 2) 0) + r.getD (t - 7) 0 + far (r.getD (t - 15) 0) + r.getD (t - 16) 0 := by unfold nextW; rw [ht]
  rw [hnext]
  clear hnext ht hc
  obtain ⟨x2, q2⟩ : ∃ x, r.getD (t - 2) 0 = x := ⟨_, rfl⟩
  obtain ⟨x7, q7⟩ : ∃ x, r.getD (t - 7) 0 = x := ⟨_, rfl⟩
  obtain ⟨x15, q15⟩ : ∃ x, r.getD (t - 15) 0 = x := ⟨_, rfl⟩
  obtain ⟨x16, q16⟩ : ∃ x, r.getD (t - 16) 0 = x := ⟨_, rfl⟩
  rw [q2] at c2; rw [q7] at c7; rw [q15] at c15; rw [q16] at c16
  rw [q2, q7, q15, q16]
  clear q2 q7 q15 q16
  have N1 := near_bits x2
  have F1 := far_bits x15
  have A1 : RorAt x2 (rr x2 17) 17 := rorr_any x2 17 (by omega) (by omega)
  have A2 : RorAt x2 (rr x2 19) 19 := rorr_any x2 19 (by omega) (by omega)
  have A3 : RorAt x15 (rr x15 7) 7 := rorr_any x15 7 (by omega) (by omega)
  have A4 : RorAt x15 (rr x15 18) 18 := rorr_any x15 18 (by omega) (by omega)
  generalize near x2 = ne at N1 ⊢
  generalize far x15 = fa at F1 ⊢
  generalize rr x2 17 = r1 at A1 N1
  generalize rr x2 19 = r2 at A2 N1
  generalize rr x15 7 = r3 at A3 F1
  generalize rr x15 18 = r4 at A4 F1
  obtain ⟨p1, hp1⟩ : ∃ x, ne + x7 = x := ⟨_, rfl⟩
  rw [hp1]
  obtain ⟨p2, hp2⟩ : ∃ x, p1 + fa = x := ⟨_, rfl⟩
  rw [hp2]
  obtain ⟨p3, hp3⟩ : ∃ x, p2 + x16 = x := ⟨_, rfl⟩
  rw [hp3]
  have E1 := add_mod32 _ _ _ hp1
  have E2 := add_mod32 _ _ _ hp2
  have E3 := add_mod32 _ _ _ hp3
  clear hp1 hp2 hp3
  go_enter Tryd.func63, Tryd.ntmps63
  go_wp2_with fail
  go_quiet ((go_at_call 64; first | with_reducible exact A1.q _ _ | with_reducible exact A2.q _ _ | with_reducible exact A3.q _ _ | with_reducible exact A4.q _ _))
  go_wp2_with fail
  go_ret
  exact ⟨by first | rfl | exact ret_u32 E3, _, rfl⟩
end Go.Proofs.YtfkfadcfafbmmaaDoor

/- The contracts of the reference's Roots and Numbers. -/
namespace Go.Proofs.YtfkfadcfafbmmaaDoor
open Go.RowKit
theorem OwnI.grown {w w' : World} {b b' : Nat} {v v' : Value} {l : List Nat} {l' : List (BitVec 32)} {o : Obj} (h : OwnI w b v l) (h' : OwnW w b' v' l') (hg : (w.alloc o).grownBy w' v'.ownBlock) : OwnI w' b v l := by
  refine ⟨h.1, ?_⟩
  rcases h.2 with h2 | ⟨g, cap, cur, e, hb, hc, h3⟩
  · exact Or.inl h2
  · refine Or.inr ⟨g, cap, cur, e, hb, ?_, h3⟩
    have hlt := (Array.getElem?_eq_some_iff.1 hc).1
    rw [hg.block g (by simp; omega) ?_]
    · rw [((Below.refl w.heap.size w).alloc (Nat.le_refl _) o).block g hlt]; exact hc
    · intro e2
      rcases h'.2 with ⟨rfl, -⟩ | ⟨g', cap', cur', rfl, hb', hc', h3'⟩
      · simp [Value.ownBlock] at e2
      · simp [Value.ownBlock] at e2
        subst e2
        rw [hc'] at hc
        simp at hc
def rootW (p : Nat) (cube : Bool) : BitVec 32 := BitVec.ofNat 32 (rootL p cube)
theorem rootL_lt (p : Nat) (cube : Bool) : rootL p cube < 4294967296 := by unfold rootL; omega
theorem rootW_toNat (p : Nat) (cube : Bool) : (rootW p cube).toNat = rootL p cube := by
  unfold rootW
  rw [BitVec.toNat_ofNat, Nat.mod_eq_of_lt (rootL_lt p cube)]
def rootsL (K : Nat) (cube : Bool) : List (BitVec 32) := (primU K).map fun p => rootW p cube
theorem rootsL_length (K : Nat) (cube : Bool) : (rootsL K cube).length = (primU K).length := by simp [rootsL]
theorem rootsL_step (K : Nat) (cube : Bool) (j : Nat) (hj : j < (primU K).length) : (rootsL K cube).take (j + 1) = (rootsL K cube).take j ++ [rootW ((primU K).getD j 0) cube] := by
  rw [List.take_add_one]
  have h : j < (rootsL K cube).length := by rw [rootsL_length]; exact hj
  rw [List.getElem?_eq_getElem h]
  simp [rootsL, List.getD, hj]
def RootsRel (w : World) (K : Nat) (cube : Bool) (n : Nat) (vp : Value) (v i : Value) (wr : World) : Prop :=
  ∃ j g cap : Nat, j ≤ (primU K).length ∧ i = .int .i64 (j : Int) ∧ v = .slice (some ⟨g, 0, none⟩) j cap ∧ OwnW wr w.heap.size v ((rootsL K cube).take j) ∧ OwnI wr n vp (primU K) ∧ Below w.heap.size w wr

set_option maxRecDepth 100000 in
set_option maxHeartbeats 4000000 in
theorem roots_any (m K : Nat) (hm0 : 0 < m) (hm : m ≤ 1000) (hK : (primU K).length = m) (hK2 : K ≤ 1000) (cube : Bool) (w : World) :
    Calls Tryd.prog 23 #[.int .i64 (m : Int), .bool cube] w fun e w' => ∃ v, e = .returned v ∧ OwnW w' w.heap.size v (rootsL K cube) ∧ Below w.heap.size w w' := by
  have hmem := primU_get K
  have HM := Lib.hid hmem
  clear hmem
  go_enter Tryd.func23, Tryd.ntmps23
  go_wp2_with fail
  refine (primes_any m K hm hK hK2 _).mono ?_
  rintro e w1 ⟨vp, rfl, hI, hb1⟩
  have hO := (OwnW.empty w w.heap.size (Nat.le_refl _)).on hb1
  have hB : Below w.heap.size w w1 := Below.trans (by go_grown) (hb1.mono (by simp))
  obtain ⟨n1, hn1⟩ : ∃ n1, (w.alloc (.cells #[] 71)).heap.size = n1 := ⟨_, rfl⟩
  rw [hn1] at hI
  obtain ⟨gp, cp, rfl, -, -⟩ := World.ownsRow.form hI (by omega)
  have HI := Lib.hid hI; have HO := Lib.hid hO
  clear hI hO hb1 hn1
  rw [hK]
  go_wp2_with fail
  go_loopw [5, 12] (RootsRel w K cube n1 (.slice (some ⟨gp, 0, none⟩) (primU K).length cp)) (fun _ i _ => m - (intOf i).toNat)
  case atStart => exact ⟨0, _, _, by omega, rfl, rfl, HO.out, HI.out, hB⟩
  case round =>
    clear HI HO hB
    obtain ⟨j, g, cap, hj, rfl, rfl, hO, hI, hB⟩ := hrel
    have hsz := hB.size
    by_cases hlt : j < m
    · have l1 : (j : Int) < (m : Int) := by omega
      obtain ⟨gp', cp', e', hg', hc'⟩ := hI.at (by omega)
      obtain ⟨rfl, rfl⟩ : gp = gp' ∧ cp = cp' := by simpa using e'
      have c1 := hc' j (by omega)
      have hmj := HM.out j (by omega)
      have hst := rootsL_step K cube j (by omega)
      have hlen : ((rootsL K cube).take j).length = j := by rw [List.length_take, rootsL_length]; omega
      obtain ⟨p, hp⟩ : ∃ p, (primU K).getD j 0 = p := ⟨_, rfl⟩
      rw [hp] at c1 hmj hst
      have hrt := rootW_toNat p cube
      obtain ⟨x, hx⟩ : ∃ x, rootW p cube = x := ⟨_, rfl⟩
      rw [hx] at hst hrt
      obtain ⟨l, hl⟩ : ∃ l, (rootsL K cube).take j = l := ⟨_, rfl⟩
      rw [hl] at hO hst hlen
      have HO := Lib.hid hO; have HI := Lib.hid hI; have HST := Lib.hid hst; have HLEN := Lib.hid hlen
      clear hO hI hst hl hx hp hc' e'
      go_wp2_with fail
      refine (root_any p (by omega) cube _).mono ?_
      rintro e w2 ⟨rfl, hbel⟩
      rw [← hrt]
      clear hrt
      have hO2 := HO.out.on hbel.b
      have hI2 := HI.out.on hbel.b
      have hB2 : Below w.heap.size w w2 := hB.trans (hbel.b.mono hsz)
      have hs2 := hB2.size
      have HO2 := Lib.hid hO2; have HI2 := Lib.hid hI2
      clear hO2 hI2 HO HI
      go_wp2_with (at_builtin; refine append_w rfl _ _ rfl w.heap.size _ l x w2.heap.size rfl ?c0 ?c1 ?c2 ?c3 ?c4 ?_)
      case c0 => rw [← HLEN.out]; exact OwnW.alloc (by rw [HLEN.out]; exact HO2.out) _
      case c1 => rfl
      case c2 => simp
      case c3 => rw [HLEN.out]; omega
      case c4 => first | omega | (simp; omega)
      intro g' cap' w' hI3 hg'
      have hB3 := HO2.out.below hB2 hs2 hg'
      have hP3 := HI2.out.grown HO2.out hg'
      have HI3 := Lib.hid hI3; have HP3 := Lib.hid hP3
      clear hI3 hP3 hg'
      go_wp2_with fail
      all_goals (
        refine ⟨⟨j + 1, g', cap', by omega, by simp, rfl, ?_, HP3.out, hB3⟩, by simp [intOf]; omega⟩
        rw [HST.out]
        exact HI3.out)
    · have ej : j = m := by omega
      have l1 : ¬ (j : Int) < (m : Int) := by omega
      go_wp2_with fail
      go_ret
      refine ⟨_, rfl, ?_, hB⟩
      rw [List.take_of_length_le (by rw [rootsL_length]; omega)] at hO
      rw [← ej]
      exact hO

/-- the keys and the first words lie in a K -/
def KAt (w : World) (v : Value) : Prop := ∃ v0 v1, v = .agg #[v0, v1] ∧ WsAt w v0 keysL ∧ WsAt w v1 firstS.l
theorem KAt.on {w w' : World} {v : Value} (h : KAt w v) (hb : Below w.heap.size w w') : KAt w' v := by
  obtain ⟨v0, v1, rfl, h0, h1⟩ := h
  exact ⟨v0, v1, rfl, h0.on hb, h1.on hb⟩

set_option maxRecDepth 100000 in
set_option maxHeartbeats 4000000 in
theorem numbers_any (hk : rootsL 310 true = keysL) (hf : rootsL 18 false = firstS.l) (h64 : (primU 310).length = 64) (h8 : (primU 18).length = 8) (w : World) :
    Calls Tryd.prog 10 #[] w fun e w' => ∃ v, e = .returned v ∧ KAt w' v ∧ Below w.heap.size w w' := by
  have A := roots_any 64 310 (by omega) (by omega) h64 (by omega) true
  have B := roots_any 8 18 (by omega) (by omega) h8 (by omega) false
  rw [hk] at A
  rw [hf] at B
  have HA := Lib.hid A; have HB := Lib.hid B
  clear A B hk hf h64 h8
  go_enter Tryd.func10, Tryd.ntmps10
  have hR0 : (w.alloc (.cells #[.slice none 0 0, .slice none 0 0] 35)).heap[w.heap.size]? = some (.cells #[.slice none 0 0, .slice none 0 0] 35) := heap_alloc_new _ _
  have hb0 : Below w.heap.size w (w.alloc (.cells #[.slice none 0 0, .slice none 0 0] 35)) := by go_grown
  have hs0 : (w.alloc (.cells #[.slice none 0 0, .slice none 0 0] 35)).heap.size = w.heap.size + 1 := by simp
  have HR0 := Lib.hid hR0
  clear hR0
  go_wp2_with fail
  generalize World.alloc w _ = W at HR0 hb0 hs0 ⊢
  refine (HA.out _).mono ?_
  rintro e w1 ⟨v0, rfl, ho0, hb1⟩
  have hv0 := ho0.ws (by rw [keysL_length]; omega)
  have n0 := ho0.ne (by rw [keysL_length]; omega) w.heap.size (by omega)
  have hlt1 := hb1.size
  obtain ⟨b0, k0, rfl, -, -⟩ := World.ownsRow.form ho0 (by rw [keysL_length]; omega)
  clear ho0 HA
  go_wp2_with fail
  refine (HB.out _).mono ?_
  rintro e w2 ⟨v1, rfl, ho1, hb2⟩
  have hv1 := ho1.ws (by rw [S8.l_length]; omega)
  have n1 := ho1.ne (by rw [S8.l_length]; omega) w.heap.size (by omega)
  have hv0' := hv0.on hb2
  have hlt2 := hb2.size
  obtain ⟨b1, k1, rfl, -, -⟩ := World.ownsRow.form ho1 (by rw [S8.l_length]; omega)
  clear ho1 HB hv0
  have hR : w2.heap[w.heap.size]? = some (.cells #[.slice none 0 0, .slice none 0 0] 35) := by rw [hb2.block _ (by omega), hb1.block _ (by omega)]; exact HR0.out
  have d0 : w2.cell? ⟨w.heap.size, 0, none⟩ = some (.slice none 0 0) := by rw [cell_of_row _ _ _ _ _ _ hR]; rfl
  have d1 : w2.cell? ⟨w.heap.size, 1, none⟩ = some (.slice none 0 0) := by rw [cell_of_row _ _ _ _ _ _ hR]; rfl
  have f0 := frozen_of_row w2 w.heap.size 0 _ _ hR
  have f1 := frozen_of_row w2 w.heap.size 1 _ _ hR
  have hbb : Below w.heap.size w w2 := hb0.trans ((hb1.trans (hb2.mono hb1.size)).mono (by omega))
  have e0 := setCell_far (i := 1) (u := (.slice (some ⟨b1, 0, none⟩) firstS.l.length k1)) (World.cell?_setCell_same _ ⟨w.heap.size, 0, none⟩ (.slice (some ⟨b0, 0, none⟩) keysL.length k0) d0) (by omega)
  have e1 := World.cell?_setCell_same _ ⟨w.heap.size, 1, none⟩ (.slice (some ⟨b1, 0, none⟩) firstS.l.length k1) (setCell_far (i := 0) (u := (.slice (some ⟨b0, 0, none⟩) keysL.length k0)) d1 (by omega))
  have q0 := (hv0'.set w.heap.size 0 n0 (.slice (some ⟨b0, 0, none⟩) keysL.length k0)).set w.heap.size 1 n0 (.slice (some ⟨b1, 0, none⟩) firstS.l.length k1)
  have q1 := (hv1.set w.heap.size 0 n1 (.slice (some ⟨b0, 0, none⟩) keysL.length k0)).set w.heap.size 1 n1 (.slice (some ⟨b1, 0, none⟩) firstS.l.length k1)
  have hbl : Below w.heap.size w _ := (hbb.setCell (p := ⟨w.heap.size, 0, none⟩) (Nat.le_refl _) (.slice (some ⟨b0, 0, none⟩) keysL.length k0)).setCell (p := ⟨w.heap.size, 1, none⟩) (Nat.le_refl _) (.slice (some ⟨b1, 0, none⟩) firstS.l.length k1)
  have E0 := Lib.hid e0; have E1 := Lib.hid e1; have Q0 := Lib.hid q0; have Q1 := Lib.hid q1
  clear e0 e1 q0 q1 n0 n1 hv0' hv1 hR hb1 hb2 hbb hb0 HR0
  go_wp2_with fail
  have e0 := E0.out; have e1 := E1.out
  refine bodyPost_ret (v := .agg #[(.slice (some ⟨b0, 0, none⟩) keysL.length k0), (.slice (some ⟨b1, 0, none⟩) firstS.l.length k1)]) (by simp [results, Tryd.results10, go_sem, e0, e1]) rfl ⟨_, rfl, ⟨(.slice (some ⟨b0, 0, none⟩) keysL.length k0), (.slice (some ⟨b1, 0, none⟩) firstS.l.length k1), rfl, Q0.out, Q1.out⟩, hbl⟩
end Go.Proofs.YtfkfadcfafbmmaaDoor

/- The keys and the first words are the roots of the first primes: by the kernel. -/
namespace Go.Proofs.YtfkfadcfafbmmaaDoor
open Go.RowKit
set_option maxRecDepth 100000
theorem primes64 : primU 310 = [2, 3, 5, 7, 11, 13, 17, 19, 23, 29, 31, 37, 41, 43, 47, 53, 59, 61, 67, 71, 73, 79, 83, 89, 97, 101, 103, 107, 109, 113, 127, 131, 137, 139, 149, 151, 157, 163, 167, 173, 179, 181, 191, 193, 197, 199, 211, 223, 227, 229, 233, 239, 241, 251, 257, 263, 269, 271, 277, 281, 283, 293, 307, 311] := by decide +kernel
theorem primes8 : primU 18 = [2, 3, 5, 7, 11, 13, 17, 19] := by decide +kernel
theorem first8 : rootsL 18 false = firstS.l := by
  unfold rootsL
  rw [primes8]
  decide +kernel
theorem keys64 : rootsL 310 true = keysL := by
  unfold rootsL
  rw [primes64]
  decide +kernel
theorem numbers_all (w : World) : Calls Tryd.prog 10 #[] w fun e w' => ∃ v, e = .returned v ∧ KAt w' v ∧ Below w.heap.size w w' :=
  numbers_any keys64 first8 (by rw [primes64]; rfl) (by rw [primes8]; rfl) w
end Go.Proofs.YtfkfadcfafbmmaaDoor
