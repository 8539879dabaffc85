/- The texts Lbits, Ltimes, Lmult, Lclampw, Share, Shareb, one behind the other. -/
import Derived.RangeFuncNested
import Derived.RangeFuncBound
import Derived.RangeFuncCalls
import Derived.RangeFuncLeaves
import Derived.RangeFuncFrom
import Derived.Shelf.Abstract
import Derived.Shelf.RegionOpen
import Derived.WalkKit
import Derived.OwnWalkIn
import Derived.TacticsInMore
import Derived.LoopNIn
import Derived.LoopIn
import Derived.Test.YtnfhfibbaeiglaaDoorAg6
import Derived.Test.YtnfhfibbaeiglaaDoorCrv
import Derived.Test.YtnfhfibbaeiglaaDoorAg5
/- The iterator over the bits of a key, from the highest down. -/
namespace Go.Proofs.YtnfhfibbaeiglaaDoor
set_option maxRecDepth 100000
open Go.RowKit Go.PlainAid Go.Shelf
attribute [local go_sem] Oper.semAt_some
/-- bit i of a text -/
def bitAt (s : ByteArray) (i : Nat) : Bool := decide (bt s (i / 8) / 2 ^ (i % 8) % 2 = 1)
def bitV (b : Bool) : Int := if b then 1 else 0
/-- the bits that k rounds have handed over -/
def bitsUp (s : ByteArray) (k : Nat) : List Bool := (List.range k).map fun j => bitAt s (254 - j)
theorem bitsUp_succ (s : ByteArray) (k : Nat) : bitsUp s (k + 1) = bitsUp s k ++ [bitAt s (254 - k)] := by simp [bitsUp, List.range_succ]
theorem bitsUp_length (s : ByteArray) (k : Nat) : (bitsUp s k).length = k := by simp [bitsUp]

theorem and1 (b : Int) (h0 : 0 ≤ b) (h1 : b ≤ 255) : bits .and .u8 b 1 = b % 2 := by
  obtain ⟨n, rfl⟩ := Int.eq_ofNat_of_zero_le h0
  exact (by decide +kernel : ∀ n : Fin 256, bits .and .u8 (n.val : Int) 1 = (n.val : Int) % 2) ⟨n, by omega⟩
theorem bit_math (s : ByteArray) (i : Nat) (h : i / 8 < s.size) : bits .and .u8 (((s[i / 8]'h).toNat : Int) / 2 ^ (i % 8)) 1 = bitV (bitAt s i) := by
  rw [get_bt s (i / 8) h]
  have a0 := bt_nonneg s (i / 8); have a1 := bt_le s (i / 8)
  have p : (0 : Int) < 2 ^ (i % 8) := Int.pow_pos (by omega)
  have d0 : 0 ≤ bt s (i / 8) / 2 ^ (i % 8) := Int.ediv_nonneg a0 (by omega)
  have d1 : bt s (i / 8) / 2 ^ (i % 8) ≤ bt s (i / 8) := Int.ediv_le_self _ a0
  rw [and1 _ d0 (by omega)]
  unfold bitV bitAt
  split
  · rename_i h'; simpa using h'
  · rename_i h'; simp at h'; omega

set_option maxHeartbeats 2000000 in
theorem bits1_stops (F : Fence) (n : Nat) (h6 : F.fn 26) (hro : F.round = none) (hn : 1 ≤ n) (s : ByteArray) (hs : s.size = 32) (B : Nat) (w : World) (hB : B < w.heap.size) (hc : w.cell? ⟨B, 0, none⟩ = some (.string s)) :
    SeqStopsK F n Tryd.prog 26 #[.pointer (some ⟨B, 0, none⟩)] (fun b : Bool => #[Value.int .u8 (bitV b)]) (fun W W' => W'.cell? ⟨B, 0, none⟩ = W.cell? ⟨B, 0, none⟩) (fun xs => xs = bitsUp s 255) (fun _ => True) 255 w := fun l J Jx W hW hJ hJx hY h0 => by
  refine callsIn_of_wp Tryd.func26 rfl h6 ?_ hro
  simp only [Tryd.ntmps26, List.size_toArray, List.length_cons, List.length_nil, Nat.reduceAdd, Nat.reduceSub, Array.replicate_succ, Array.replicate_zero, List.push_toArray, List.append_toArray, List.nil_append, List.cons_append]
  have hcW : W.cell? ⟨B, 0, none⟩ = some (.string s) := by rw [hW.cell (p := ⟨B, 0, none⟩) hB]; exact hc
  gi_wp2
  gi_loopw [3] (fun i wr => ∃ k : Nat, k ≤ 255 ∧ i = .int .i64 (254 - (k : Int)) ∧ J (bitsUp s k) wr ∧ wr.cell? ⟨B, 0, none⟩ = some (.string s)) (fun i _ => (intOf i + 1).toNat)
  case atStart => exact ⟨0, by omega, rfl, h0, hcW⟩
  case round =>
    obtain ⟨k, hk, rfl, hJk, hck⟩ := hrel
    by_cases hlt : k < 255
    · obtain ⟨i, hi⟩ : ∃ i : Nat, 254 - k = i := ⟨_, rfl⟩
      have e1 : (254 - (k : Int)) = (i : Int) := by omega
      rw [e1]
      have hlt8 : i / 8 < s.size := by omega
      have hbit := bit_math s i hlt8
      obtain ⟨fn, tmps, assign, body, hy, hR⟩ := hY (bitsUp s k) (bitAt s i) wr hJk (by rw [bitsUp_length]; omega)
      gi_wp2
      refine hR.mono ?_
      rintro e W3 (⟨rfl, hJ3, hk3⟩ | ⟨rfl, hJx3⟩)
      · have hc3 : W3.cell? ⟨B, 0, none⟩ = some (.string s) := hk3.trans hck
        gi_wp2
        go_roundw
        case rel => exact ⟨k + 1, by omega, by rw [show (254 - ((k + 1 : Nat) : Int)) = (i : Int) - 1 by omega], by rw [bitsUp_succ, hi]; exact hJ3, hc3⟩
        case measure => simp [intOf]
      · gi_wp2
        refine bodyPost_ret (results_none rfl _ _ _) rfl ?_
        exact ⟨⟨_, rfl⟩, .inr ⟨_, trivial, hJx3⟩⟩
    · obtain rfl : k = 255 := by omega
      gi_wp2
      go_end0
      exact ⟨⟨_, rfl⟩, .inl ⟨_, rfl, hJk⟩⟩
end Go.Proofs.YtnfhfibbaeiglaaDoor

/- A point times a key: the ladder's rounds, one for each bit. -/
namespace Go.Proofs.YtnfhfibbaeiglaaDoor
set_option maxRecDepth 100000
open Go.RowKit Go.PlainAid Go.Shelf
attribute [local go_sem] Oper.semAt_some
/-- the ladder's numbers -/
structure Lad where
  x2 : Int
  z2 : Int
  x3 : Int
  z3 : Int
def Lad.swap (b : Bool) (l : Lad) : Lad := if b then ⟨l.x3, l.z3, l.x2, l.z2⟩ else l
def Lad.step (u : Int) (l : Lad) : Lad := ⟨nX2 l.x2 l.z2, nZ2 l.x2 l.z2, nX3 l.x2 l.z2 l.x3 l.z3, nZ3 u l.x2 l.z2 l.x3 l.z3⟩
def Lad.round (u : Int) (l : Lad) (b : Bool) : Lad := ((l.swap b).step u).swap b
def Lad.run (u : Int) (bs : List Bool) : Lad := bs.foldl (Lad.round u) ⟨1, 0, u, 1⟩
theorem Lad.run_snoc (u : Int) (bs : List Bool) (b : Bool) : Lad.run u (bs ++ [b]) = (Lad.run u bs).round u b := by simp [Lad.run]
def Lad.ok (l : Lad) : Prop := Rd l.x2 ∧ Rd l.z2 ∧ Rd l.x3 ∧ Rd l.z3
theorem Lad.ok_round {u : Int} (l : Lad) (b : Bool) : (l.round u b).ok := by
  cases b <;> exact ⟨Rd.mod _, Rd.mod _, Rd.mod _, Rd.mod _⟩
theorem Lad.ok_run {u : Int} (hu : Rd u) (bs : List Bool) : (Lad.run u bs).ok := by
  unfold Lad.run
  suffices h : ∀ (bs : List Bool) (l : Lad), l.ok → (bs.foldl (Lad.round u) l).ok from h bs _ ⟨Rd.lit (n := 1) (by omega) (by omega), Rd.lit (n := 0) (by omega) (by omega), hu, Rd.lit (n := 1) (by omega) (by omega)⟩
  intro bs
  induction bs with
  | nil => exact fun l h => h
  | cons b bs ih => exact fun l _ => ih _ (Lad.ok_round l b)
/-- the number that the ladder ends in -/
def ladOut (u : Int) (bs : List Bool) : Int := ((Lad.run u bs).x2 * ((Lad.run u bs).z2 ^ ExpN % Pr)) % Pr
/-- the five numbers in their block -/
def LadAt (w : World) (B : Nat) (u : Int) (l : Lad) : Prop := Row5 w B (leStr u) (leStr l.x2) (leStr l.z2) (leStr l.x3) (leStr l.z3)

set_option maxHeartbeats 1000000 in
theorem bits_any (s : ByteArray) (w : World) :
    Calls Tryd.prog 19 #[.string s] w fun e w' => e = .returned (.func (.func 26) #[] #[.pointer (some ⟨w.heap.size, 0, none⟩)]) ∧ w' = w.alloc (.cells #[.string s] 9) := by
  go_enter Tryd.func19, Tryd.ntmps19
  go_wp2_with fail
  go_ret
  exact ⟨rfl, rfl⟩

theorem changed0 (u x2 z2 x3 z3 : Int) (w : World) :
    Calls Tryd.prog 20 #[.agg #[.string (leStr u), .string (leStr x2), .string (leStr z2), .string (leStr x3), .string (leStr z3)], .int .u8 0] w fun e w' =>
      e = .returned (.agg #[.string (leStr u), .string (leStr x2), .string (leStr z2), .string (leStr x3), .string (leStr z3)]) ∧ Below w.heap.size w w' := changed_any u x2 z2 x3 z3 w false
theorem changed1 (u x2 z2 x3 z3 : Int) (w : World) :
    Calls Tryd.prog 20 #[.agg #[.string (leStr u), .string (leStr x2), .string (leStr z2), .string (leStr x3), .string (leStr z3)], .int .u8 1] w fun e w' =>
      e = .returned (.agg #[.string (leStr u), .string (leStr x3), .string (leStr z3), .string (leStr x2), .string (leStr z2)]) ∧ Below w.heap.size w w' := changed_any u x2 z2 x3 z3 w true
theorem below_keeps {W W' : World} (hb : Below W.heap.size W W') : KeepsOthers W W' := ⟨hb.size, fun k o h _ => by rw [hb.block k (Array.getElem?_eq_some_iff.1 h).1]; exact h⟩
theorem keeps_set5 {W0 W : World} (h : KeepsOthers W0 W) (B : Nat) (p q r s t : Value) :
    KeepsOthers W0 (((((W.setCell ⟨B, 0, none⟩ p).setCell ⟨B, 1, none⟩ q).setCell ⟨B, 2, none⟩ r).setCell ⟨B, 3, none⟩ s).setCell ⟨B, 4, none⟩ t) :=
  ((((h.trans (KeepsOthers.setCell _ _ _)).trans (KeepsOthers.setCell _ _ _)).trans (KeepsOthers.setCell _ _ _)).trans (KeepsOthers.setCell _ _ _)).trans (KeepsOthers.setCell _ _ _)
theorem cell_far5 (w : World) {n X : Nat} (h : n ≠ X) (o : Nat) (p q r s t : Value) :
    (((((w.setCell ⟨n, 0, none⟩ p).setCell ⟨n, 1, none⟩ q).setCell ⟨n, 2, none⟩ r).setCell ⟨n, 3, none⟩ s).setCell ⟨n, 4, none⟩ t).cell? ⟨X, o, none⟩ = w.cell? ⟨X, o, none⟩ := by
  have key : ∀ (v : World) (k : Nat) (u : Value), (v.setCell ⟨n, k, none⟩ u).cell? ⟨X, o, none⟩ = v.cell? ⟨X, o, none⟩ := fun v k u => by
    rw [World.cell?_setCell_other]; intro e; cases e; exact h rfl
  rw [key, key, key, key, key]

set_option maxRecDepth 100000 in
set_option maxHeartbeats 2000000 in
theorem ladder_times (s : ByteArray) (hs : s.size = 32) {u : Int} (hu : Rd u) (w : World) (hP : PrimeAt w) :
    Calls Tryd.prog 14 #[.string s, .string (leStr u)] w (Tells (ladOut u (bitsUp s 255)) w) := by
  refine (callsIn_wide (n := 3)).1 ?_
  have lb := hP.lt
  refine callsIn_of_wp_marks Tryd.func14 rfl trivial ?_ rfl
  simp only [Tryd.ntmps14, List.size_toArray, List.length_cons, List.length_nil, Nat.reduceAdd, Nat.reduceSub, Array.replicate_succ, Array.replicate_zero, List.push_toArray, List.append_toArray, List.nil_append, List.cons_append]
  gi_wp2_with (first
    | (refine ⟨trivial, ?_⟩; gi_at_call 18; refine (callsIn_wide.2 (start_any u _)).mono ?_; rintro e w1 ⟨rfl, hb1⟩; have hs1 := hb1.size)
    | (refine ⟨trivial, ?_⟩; gi_at_call 19; refine (callsIn_wide.2 (bits_any s _)).mono ?_; rintro e w2 ⟨rfl, rfl⟩))
  have hb2 : Below w.heap.size w ((w1.alloc (.cells #[.string (leStr u), .string (leStr 1), .string (leStr 0), .string (leStr u), .string (leStr 1)] 39)).alloc (.cells #[.string s] 9)) := (hb1.alloc hb1.size _).alloc (by simp; omega) _
  have hR0 : LadAt ((w1.alloc (.cells #[.string (leStr u), .string (leStr 1), .string (leStr 0), .string (leStr u), .string (leStr 1)] 39)).alloc (.cells #[.string s] 9)) w1.heap.size u (Lad.run u []) := (Row5.fresh w1 _ _ _ _ _ _).alloc _
  have hc0 : ((w1.alloc (.cells #[.string (leStr u), .string (leStr 1), .string (leStr 0), .string (leStr u), .string (leStr 1)] 39)).alloc (.cells #[.string s] 9)).cell? ⟨w1.heap.size + 1, 0, none⟩ = some (.string s) := by simp
  have hsz : ((w1.alloc (.cells #[.string (leStr u), .string (leStr 1), .string (leStr 0), .string (leStr u), .string (leStr 1)] 39)).alloc (.cells #[.string s] 9)).heap.size = w1.heap.size + 1 + 1 := by simp
  generalize World.alloc (World.alloc w1 _) _ = W0 at hb2 hR0 hc0 hsz ⊢
  refine wpIn_rangeFunc_ownF rfl (by omega) (gf := 26) (lb := #[.pointer (some ⟨w1.heap.size + 1, 0, none⟩)]) rfl trivial (enters_of Tryd.func26 (by kernel_rfl) rfl)
    (bits1_stops Fence.wide (3 - 1) trivial rfl (by omega) s hs (w1.heap.size + 1) W0 (by omega) hc0) (fun h h' => h'.trans h) ?keepb (Below.refl _ _) (fun _ => rfl)
    (fun pre W => (LadAt W w1.heap.size u (Lad.run u pre) ∧ W.cell? ⟨w1.heap.size + 1, 0, none⟩ = some (.string s)) ∧ Below w.heap.size w W)
    (fun _ _ _ => False)
    (OwnFrom.and (OwnFrom.and (Own.from (fun t A B row ht hg hr => ⟨⟨cell_kept ht.1.1 hg hr, cell_kept ht.1.2.1 hg hr, cell_kept ht.1.2.2.1 hg hr, cell_kept ht.1.2.2.2.1 hg hr, cell_kept ht.1.2.2.2.2 hg hr⟩, ⟨(frozen_kept ht.1.1 hg hr).trans ht.2.1, (frozen_kept ht.1.2.1 hg hr).trans ht.2.2.1, (frozen_kept ht.1.2.2.1 hg hr).trans ht.2.2.2.1, (frozen_kept ht.1.2.2.2.1 hg hr).trans ht.2.2.2.2.1, (frozen_kept ht.1.2.2.2.2 hg hr).trans ht.2.2.2.2.2⟩⟩) _) (Own.from (fun t A B row ht hg hr => cell_kept ht hg hr) _)) (ownFrom_below (Nat.le_refl _) (by omega)))
    (fun _ _ _ _ _ hs _ _ => hs)
    ⟨⟨hR0, hc0⟩, hb2⟩
    (fun b => { tmps := #[.string s, .string (leStr u), undef, undef, .string ⟨#[]⟩, .pointer (some ⟨w1.heap.size, 0, none⟩), .int .u8 (bitV b), .string (leStr u), .agg #[.string (leStr u), .string (leStr 1), .string (leStr 0), .string (leStr u), .string (leStr 1)], .string s, .func (.func 26) #[] #[.pointer (some ⟨w1.heap.size + 1, 0, none⟩)], .int .u8 (bitV b), undef, undef, undef, undef, undef, undef, undef, undef], defers := [] }) ?assign ?body ?done ?stop
  case keepb =>
    intro W l o o' hl ho hc hw
    exact (belowK_b (n₀ := W0.heap.size) (w := W0) (Nat.le_refl _) W l o o' hl ho hc hw).cell (p := ⟨w1.heap.size + 1, 0, none⟩) (show w1.heap.size + 1 < W0.heap.size by omega)
  case assign =>
    intro l x W K hK
    gi_wp2
    exact hK
  case body =>
    rintro l pre x W ⟨⟨hR, hcell⟩, hB⟩ _
    have hok := Lad.ok_run hu pre
    have hPW := hP.below hB lb
    have hrun := Lad.run_snoc u pre x
    generalize Lad.run u pre = L at hR hok hrun
    obtain ⟨x2, z2, x3, z3⟩ := L
    obtain ⟨h2, h2', h3, h3'⟩ := hok
    change Row5 W w1.heap.size (leStr u) (leStr x2) (leStr z2) (leStr x3) (leStr z3) at hR
    change Rd x2 at h2
    change Rd z2 at h2'
    change Rd x3 at h3
    change Rd z3 at h3'
    clear hb2 hR0 hc0
    cases x with
    | false =>
      simp only [bitV, Bool.false_eq_true, if_false]
      obtain ⟨⟨c0, c1, c2, c3, c4⟩, -⟩ := id hR
      gi_wp2
      refine ⟨trivial, ?_⟩
      refine (CallsIn.inRound l (callsIn_wide.2 (changed0 u x2 z2 x3 z3 W))).mono ?_
      rintro e W1 ⟨rfl, hb1'⟩
      have hP1 := hPW.below hb1' hPW.lt
      gi_wp2
      refine ⟨trivial, ?_⟩
      refine (CallsIn.inRound l (callsIn_wide.2 (step_any hu h2 h2' h3 h3' W1 hP1))).mono ?_
      rintro e W2 ⟨rfl, hb2'⟩
      have hb2'' := hb1'.trans (hb2'.mono hb1'.size)
      gi_wp2
      refine ⟨trivial, ?_⟩
      refine (CallsIn.inRound l (callsIn_wide.2 (changed0 u (nX2 x2 z2) (nZ2 x2 z2) (nX3 x2 z2 x3 z3) (nZ3 u x2 z2 x3 z3) W2))).mono ?_
      rintro e W3 ⟨rfl, hb3'⟩
      have hb3 := hb2''.trans (hb3'.mono hb2''.size)
      have hR3 := Row5.on hR hb3
      have hS := hR3.set (leStr u) (leStr (nX2 x2 z2)) (leStr (nZ2 x2 z2)) (leStr (nX3 x2 z2 x3 z3)) (leStr (nZ3 u x2 z2 x3 z3))
      have hK3 := keeps_set5 (below_keeps hb3) w1.heap.size (.string (leStr u)) (.string (leStr (nX2 x2 z2))) (.string (leStr (nZ2 x2 z2))) (.string (leStr (nX3 x2 z2 x3 z3))) (.string (leStr (nZ3 u x2 z2 x3 z3)))
      have hB3 := below_set5 (hB.trans (hb3.mono hB.size)) (B := w1.heap.size) hs1 (.string (leStr u)) (.string (leStr (nX2 x2 z2))) (.string (leStr (nZ2 x2 z2))) (.string (leStr (nX3 x2 z2 x3 z3))) (.string (leStr (nZ3 u x2 z2 x3 z3)))
      have hk3 : W3.cell? ⟨w1.heap.size + 1, 0, none⟩ = some (.string s) := (hb3.cell (p := ⟨w1.heap.size + 1, 0, none⟩) (World.block_lt_of_cell? W _ hcell)).trans hcell
      have hf3 := (cell_far5 W3 (show w1.heap.size ≠ w1.heap.size + 1 by omega) 0 (.string (leStr u)) (.string (leStr (nX2 x2 z2))) (.string (leStr (nZ2 x2 z2))) (.string (leStr (nX3 x2 z2 x3 z3))) (.string (leStr (nZ3 u x2 z2 x3 z3)))).trans hk3
      clear hb1' hb2' hb3' hb2'' hR c0 c1 c2 c3 c4 hP1
      obtain ⟨⟨c0, c1, c2, c3, c4⟩, ⟨f0, f1, f2, f3, f4⟩⟩ := id hR3
      have hlt3 := Row5.lt hR3
      gi_wp2
      refine ⟨hK3, hf3.trans hcell.symm, ⟨?_, hf3⟩, hB3⟩
      rw [hrun]
      exact hS
    | true =>
      simp only [bitV, if_true]
      obtain ⟨⟨c0, c1, c2, c3, c4⟩, -⟩ := id hR
      gi_wp2
      refine ⟨trivial, ?_⟩
      refine (CallsIn.inRound l (callsIn_wide.2 (changed1 u x2 z2 x3 z3 W))).mono ?_
      rintro e W1 ⟨rfl, hb1'⟩
      have hP1 := hPW.below hb1' hPW.lt
      gi_wp2
      refine ⟨trivial, ?_⟩
      refine (CallsIn.inRound l (callsIn_wide.2 (step_any hu h3 h3' h2 h2' W1 hP1))).mono ?_
      rintro e W2 ⟨rfl, hb2'⟩
      have hb2'' := hb1'.trans (hb2'.mono hb1'.size)
      gi_wp2
      refine ⟨trivial, ?_⟩
      refine (CallsIn.inRound l (callsIn_wide.2 (changed1 u (nX2 x3 z3) (nZ2 x3 z3) (nX3 x3 z3 x2 z2) (nZ3 u x3 z3 x2 z2) W2))).mono ?_
      rintro e W3 ⟨rfl, hb3'⟩
      have hb3 := hb2''.trans (hb3'.mono hb2''.size)
      have hR3 := Row5.on hR hb3
      have hS := hR3.set (leStr u) (leStr (nX3 x3 z3 x2 z2)) (leStr (nZ3 u x3 z3 x2 z2)) (leStr (nX2 x3 z3)) (leStr (nZ2 x3 z3))
      have hK3 := keeps_set5 (below_keeps hb3) w1.heap.size (.string (leStr u)) (.string (leStr (nX3 x3 z3 x2 z2))) (.string (leStr (nZ3 u x3 z3 x2 z2))) (.string (leStr (nX2 x3 z3))) (.string (leStr (nZ2 x3 z3)))
      have hB3 := below_set5 (hB.trans (hb3.mono hB.size)) (B := w1.heap.size) hs1 (.string (leStr u)) (.string (leStr (nX3 x3 z3 x2 z2))) (.string (leStr (nZ3 u x3 z3 x2 z2))) (.string (leStr (nX2 x3 z3))) (.string (leStr (nZ2 x3 z3)))
      have hk3 : W3.cell? ⟨w1.heap.size + 1, 0, none⟩ = some (.string s) := (hb3.cell (p := ⟨w1.heap.size + 1, 0, none⟩) (World.block_lt_of_cell? W _ hcell)).trans hcell
      have hf3 := (cell_far5 W3 (show w1.heap.size ≠ w1.heap.size + 1 by omega) 0 (.string (leStr u)) (.string (leStr (nX3 x3 z3 x2 z2))) (.string (leStr (nZ3 u x3 z3 x2 z2))) (.string (leStr (nX2 x3 z3))) (.string (leStr (nZ2 x3 z3)))).trans hk3
      clear hb1' hb2' hb3' hb2'' hR c0 c1 c2 c3 c4 hP1
      obtain ⟨⟨c0, c1, c2, c3, c4⟩, ⟨f0, f1, f2, f3, f4⟩⟩ := id hR3
      have hlt3 := Row5.lt hR3
      gi_wp2
      refine ⟨hK3, hf3.trans hcell.symm, ⟨?_, hf3⟩, hB3⟩
      rw [hrun]
      exact hS
  case done =>
    rintro D ys W hD rfl ⟨⟨hR, hcell⟩, hB⟩ hK
    have hok := Lad.ok_run hu (bitsUp s 255)
    have hPW := hP.below hB lb
    clear hb2 hR0 hc0
    have hlo : ladOut u (bitsUp s 255) = ((Lad.run u (bitsUp s 255)).x2 * ((Lad.run u (bitsUp s 255)).z2 ^ ExpN % Pr)) % Pr := rfl
    generalize Lad.run u (bitsUp s 255) = L at hR hok hlo
    obtain ⟨x2, z2, x3, z3⟩ := L
    obtain ⟨h2, h2', h3, h3'⟩ := hok
    change Row5 W w1.heap.size (leStr u) (leStr x2) (leStr z2) (leStr x3) (leStr z3) at hR
    obtain ⟨⟨c0, c1, c2, c3, c4⟩, -⟩ := id hR
    gi_wp2
    refine ⟨trivial, ?_⟩
    refine (callsIn_wide.2 (point_any h2 h2' W hPW)).mono ?_
    rintro e W1 ⟨rfl, hb⟩
    have hK1 : W1.heap[D]? = some (.deferred (some [])) := by rw [hb.block D (Array.getElem?_eq_some_iff.1 hK).1]; exact hK
    have hB1 := hB.trans (hb.mono hB.size)
    gi_wp2
    refine ⟨by simp, .inl ⟨_, _, rfl, run_takeDeferred hK1, ?_⟩⟩
    exact ⟨_, results_tmp rfl _ _ _, (by rw [hlo]; rfl), hB1.trans (belowK_b (w := w) (Nat.le_refl _) W1 D _ _ (by omega) hK1 rfl rfl)⟩
  case stop =>
    rintro D c pre W _ _ h _
    exact h.elim
end Go.Proofs.YtnfhfibbaeiglaaDoor

/- What the ladder's exported functions tell. -/
namespace Go.Proofs.YtnfhfibbaeiglaaDoor
set_option maxRecDepth 100000
open Go.RowKit Go.PlainAid
/-- the point u times the key k -/
def multN (k u : ByteArray) : Int := ladOut (leNum (pointB u) % Pr) (bitsUp (clampB k) 255)

set_option maxHeartbeats 1000000 in
theorem mult_good (k u : ByteArray) (hk : k.size = 32) (hu : u.size = 32) (w : World) (hP : PrimeAt w) :
    Calls Tryd.prog 11 #[.string k, .string u] w (StrOk (multN k u) w) := by
  have lb := hP.lt
  have q1 : ((k.size : Int) != 32) = false := by rw [bne_eq_false_iff_eq]; omega
  have q2 : ((u.size : Int) != 32) = false := by rw [bne_eq_false_iff_eq]; omega
  have HK := Lib.hid hk; have HU := Lib.hid hu
  clear hk hu
  go_enter Tryd.func11, Tryd.ntmps11
  go_wp2_with fail
  refine (clamped_any k HK.out _).mono ?_
  rintro e w1 ⟨rfl, hB1⟩
  have hs1 := hB1.size
  have hP1 := hP.below hB1 lb
  go_wp2_with fail
  refine (ofPoint_any u HU.out _ hP1).mono ?_
  rintro e w2 ⟨rfl, hb2⟩
  have hB2 := hB1.trans (hb2.mono hs1)
  have hs2 := hB2.size
  have HT := Lib.hid (ladder_times (clampB k) (row32_size _) (Rd.mod (leNum (pointB u))) w2 (hP.below hB2 lb))
  clear hb2 hB1 hs1 hP1
  go_wp2_with fail
  refine HT.out.mono ?_
  rintro e w3 ⟨rfl, hb3⟩
  have hB3 := hB2.trans (hb3.mono hs2)
  clear hb3 hB2 HT
  go_wp2_with fail
  go_ret2
  exact ⟨rfl, hB3⟩
set_option maxHeartbeats 1000000 in
theorem mult_bad (k u : ByteArray) (h : k.size ≠ 32 ∨ u.size ≠ 32) (w : World) :
    Calls Tryd.prog 11 #[.string k, .string u] w (StrBad w) := by
  by_cases hk : k.size = 32
  · have q1 : ((k.size : Int) != 32) = false := by rw [bne_eq_false_iff_eq]; omega
    have q2 : ((u.size : Int) != 32) = true := by rw [bne_iff_ne]; omega
    clear hk h
    go_enter Tryd.func11, Tryd.ntmps11
    go_wp2_with fail
    go_ret2
    exact ⟨rfl, Below.refl _ _⟩
  · have q1 : ((k.size : Int) != 32) = true := by rw [bne_iff_ne]; omega
    clear hk h
    go_enter Tryd.func11, Tryd.ntmps11
    go_wp2_with fail
    go_ret2
    exact ⟨rfl, Below.refl _ _⟩
set_option maxHeartbeats 1000000 in
theorem base_good (k : ByteArray) (hk : k.size = 32) (w : World) (hP : PrimeAt w) :
    Calls Tryd.prog 8 #[.string k] w (StrOk (multN k (leStr 9)) w) := by
  have H := mult_good k (leStr 9) hk (leStr_size 9) w hP
  rw [← nine_str] at H ⊢
  have HM := Lib.hid H
  clear H
  go_enter Tryd.func8, Tryd.ntmps8
  go_wp2_with fail
  refine HM.out.mono ?_
  rintro e w1 ⟨rfl, hb1⟩
  go_wp2_with fail
  go_ret2
  exact ⟨rfl, hb1⟩
set_option maxHeartbeats 1000000 in
theorem base_bad (k : ByteArray) (hk : k.size ≠ 32) (w : World) :
    Calls Tryd.prog 8 #[.string k] w (StrBad w) := by
  have HM := Lib.hid (mult_bad k ⟨#[9, 0, 0, 0, 0, 0, 0, 0, 0, 0, 0, 0, 0, 0, 0, 0, 0, 0, 0, 0, 0, 0, 0, 0, 0, 0, 0, 0, 0, 0, 0, 0]⟩ (Or.inl hk) w)
  clear hk
  go_enter Tryd.func8, Tryd.ntmps8
  go_wp2_with fail
  refine HM.out.mono ?_
  rintro e w1 ⟨rfl, hb1⟩
  go_wp2_with fail
  go_ret2
  exact ⟨rfl, hb1⟩

end Go.Proofs.YtnfhfibbaeiglaaDoor

/- The walk of the law LadderClamps. -/
namespace Go.Proofs.YtnfhfibbaeiglaaDoor
set_option maxRecDepth 100000
open Go.RowKit Go.PlainAid Go.Sort
theorem bytes_ext {a b : ByteArray} (hs : a.size = b.size) (h : ∀ i, i < a.size → bt a i = bt b i) : a = b := by
  apply ByteArray.ext
  apply Array.ext
  · exact hs
  · intro i h1 h2
    have h3 := h i h1
    unfold bt at h3
    rw [dif_pos (show i < a.size from h1), dif_pos (show i < b.size from h2)] at h3
    have h4 : (a[i]'h1).toNat = (b[i]'h2).toNat := by exact_mod_cast h3
    exact UInt8.toNat_inj.1 h4

end Go.Proofs.YtnfhfibbaeiglaaDoor

/- The ladder of the program, told over the field: that two keys share a point. -/
namespace Go.Proofs.YtnfhfibbaeiglaaDoor
set_option maxRecDepth 100000
open Go.RowKit Curve
/-- the prime, as a natural number -/
def pN : Nat := 57896044618658097711785492504343953926634992332820282019728792003956564819949
theorem pr_pN : Pr = (pN : Int) := rfl
theorem pN_prime : Prime.IsPrime pN := Prime.p57896044618658097711785492504343953926634992332820282019728792003956564819949

/-- the curve's number, its half exponent -/
def cN : Nat := 28692721048178265397853269683490922171210976843790175684556505508326675974058
def hN : Nat := 28948022309329048855892746252171976963317496166410141009864396001978282409974
theorem half_eq : pN - 1 = 2 * hN := by decide +kernel
theorem half_pow : cN ^ hN % pN = pN - 1 := by
  rw [← Prime.pm_eq pN 255 cN hN (by decide +kernel)]
  decide +kernel
theorem pN_big : pN - 1 ≠ 1 ∧ 2 ≤ pN := by decide +kernel

theorem ns_nat (m n : Nat) (h : m * m % pN = cN * (n * n) % pN) : pN ∣ m := by
  by_cases hm : pN ∣ m
  · exact hm
  · exfalso
    have hp := pN_prime
    have he := half_eq
    have hc := half_pow
    have hb := pN_big
    generalize pN = N at *
    generalize hN = H at *
    generalize cN = C at *
    have hn : ¬ N ∣ n := by
      intro hd
      have h0 : C * (n * n) % N = 0 := Nat.mod_eq_zero_of_dvd (Nat.dvd_trans hd (Nat.dvd_trans (Nat.dvd_mul_right n n) (Nat.dvd_mul_left (n * n) C)))
      rw [h0] at h
      rcases Prime.euclid hp (Nat.dvd_of_mod_eq_zero h) with h | h <;> exact hm h
    have f1 := Prime.fermat hp hm
    have f2 := Prime.fermat hp hn
    rw [he, Nat.pow_mul, Nat.pow_two] at f1 f2
    have e : (m * m) ^ H % N = (C * (n * n)) ^ H % N := by rw [Nat.pow_mod, h, ← Nat.pow_mod]
    rw [f1, Nat.mul_pow, Nat.mul_mod, hc, f2, Nat.mul_one, Nat.mod_eq_of_lt (by omega)] at e
    exact hb.1 e.symm

instance : NeZero pN := ⟨by decide +kernel⟩
/-- what is left of a number, as one of the field -/
def phi (x : Int) : Fin pN := ⟨(x % Pr).toNat, by
  have h0 := Int.emod_nonneg x (show Pr ≠ 0 by have := pr_pos; omega)
  have h1 := Int.emod_lt_of_pos x pr_pos
  rw [pr_pN] at *
  omega⟩
theorem phi_val (x : Int) : ((phi x).val : Int) = x % Pr := Int.toNat_of_nonneg (Int.emod_nonneg x (by have := pr_pos; omega))
theorem fin_ext {a b : Fin pN} (h : (a.val : Int) = b.val) : a = b := Fin.ext (by omega)
theorem phi_ext {x y : Int} : phi x = phi y ↔ x % Pr = y % Pr := by
  constructor
  · intro h
    rw [← phi_val, ← phi_val, h]
  · intro h
    exact fin_ext (by rw [phi_val, phi_val, h])
theorem phi_mod (x : Int) : phi (x % Pr) = phi x := phi_ext.2 (Int.emod_emod x Pr)
theorem phi_add (x y : Int) : phi (x + y) = phi x + phi y := by
  refine fin_ext ?_
  rw [phi_val, Fin.val_add, Int.natCast_emod, Int.natCast_add, phi_val, phi_val, ← pr_pN, ← Int.add_emod]
theorem phi_mul (x y : Int) : phi (x * y) = phi x * phi y := by
  refine fin_ext ?_
  rw [phi_val, Fin.val_mul, Int.natCast_emod, Int.natCast_mul, phi_val, phi_val, ← pr_pN, ← Int.mul_emod]
theorem phi_sub (x y : Int) : phi (x - y) = phi x - phi y := by
  have h := phi_add (x - y) y
  rw [Int.sub_add_cancel] at h
  rw [h]
  generalize phi (x - y) = a
  generalize phi y = b
  grind
theorem phi_one : phi 1 = 1 := Fin.ext (by decide +kernel)
theorem phi_zero : phi 0 = 0 := Fin.ext (by decide +kernel)
theorem phi_two : phi 2 = 2 := Fin.ext (by decide +kernel)
theorem phi_self (a : Fin pN) : phi (a.val : Int) = a := by
  refine fin_ext ?_
  rw [phi_val, pr_pN]
  exact Int.emod_eq_of_lt (by omega) (by have := a.isLt; omega)

/-- one over a number of the field: its power p - 2 -/
def invA (a : Fin pN) : Fin pN := phi ((a.val : Int) ^ ExpN % Pr)
theorem pow_mod_left (x : Int) : ∀ n : Nat, (x % Pr) ^ n % Pr = x ^ n % Pr
  | 0 => by simp
  | n + 1 => by rw [Int.pow_succ, Int.pow_succ, Int.mul_emod, pow_mod_left x n, Int.emod_emod, ← Int.mul_emod]
theorem invA_phi (x : Int) : invA (phi x) = phi (x ^ ExpN % Pr) := by
  unfold invA
  rw [phi_val, pow_mod_left]
theorem invA_mul (x : Int) (h0 : 0 ≤ x) (h : phi x ≠ 0) : phi x * invA (phi x) = 1 := by
  have hx : x % Pr ≠ 0 := fun e => h (by rw [← phi_zero]; exact phi_ext.2 (by rw [e]; rfl))
  have hf := fermat_int x h0 hx
  rw [invA_phi, ← phi_mul, ← phi_one]
  refine phi_ext.2 ?_
  rw [hf]
  rfl
theorem exp_ne : ExpN ≠ 0 := by decide +kernel
theorem invA_zero : invA 0 = 0 := by
  rw [← phi_zero, invA_phi, Int.zero_pow exp_ne]
  rfl
theorem phi_ne {x : Int} (h : x % Pr ≠ 0) : phi x ≠ 0 := fun e => h (by
  have := (phi_ext (x := x) (y := 0)).1 (by rw [e, phi_zero])
  rw [this]
  rfl)

/-- the field and the curve -/
def crv : Crv pN where
  inv := invA
  c := phi (cN : Int)
  k := phi 121665
  hinv := fun a ha => by
    have h := invA_mul (a.val : Int) (by omega)
    rw [phi_self] at h
    exact h ha
  inv0 := invA_zero
  two := by rw [← phi_two]; exact phi_ne (by decide +kernel)
  hc := phi_ne (by decide +kernel)
  hns := fun a b h => by
    rw [← phi_self a, ← phi_self b] at h
    rw [← phi_self a]
    generalize a.val = m at *
    generalize b.val = n at *
    rw [← phi_mul, ← phi_mul, ← phi_mul] at h
    have h1 := phi_ext.1 h
    rw [pr_pN] at h1
    have h2 : m * m % pN = cN * (n * n) % pN := by exact_mod_cast h1
    have h3 := ns_nat m n h2
    rw [← phi_zero]
    refine phi_ext.2 ?_
    rw [pr_pN]
    have h4 : m % pN = 0 := Nat.mod_eq_zero_of_dvd h3
    have h5 : ((m % pN : Nat) : Int) = 0 := by rw [h4]; rfl
    rw [Int.natCast_emod] at h5
    rw [h5]
    rfl
  hk := phi_ne (by decide +kernel)
  hkc := by
    rw [← phi_one, ← phi_mul, ← phi_add]
    exact phi_ext.2 (by decide +kernel)
end Go.Proofs.YtnfhfibbaeiglaaDoor

/- Two keys share a point: the numbers that the ladder tells. -/
namespace Go.Proofs.YtnfhfibbaeiglaaDoor
set_option maxRecDepth 100000
open Go.RowKit Go.PlainAid Curve
def toA (l : Lad) : LadA (Fin pN) := ⟨phi l.x2, phi l.z2, phi l.x3, phi l.z3⟩
theorem toA_swap (b : Bool) (l : Lad) : (toA (l.swap b) : LadA (Fin pN)) = swapA b (toA l) := by cases b <;> rfl
theorem toA_step (u : Int) (l : Lad) : (toA (l.step u) : LadA (Fin pN)) = stepA (phi 121665) (phi u) (toA l) := by
  unfold toA stepA Lad.step
  simp only [nX2, nZ2, nX3, nZ3, sE, sDA, sCB, sSq, sA, sB, phi_mod, phi_mul, phi_add, phi_sub]
  congr 1
  grind
theorem toA_round (u : Int) (l : Lad) (b : Bool) : (toA (l.round u b) : LadA (Fin pN)) = roundA (phi 121665) (phi u) (toA l) b := by
  unfold Lad.round roundA
  rw [toA_swap, toA_step, toA_swap]
theorem toA_fold (u : Int) : ∀ (bs : List Bool) (l : Lad), (toA (bs.foldl (Lad.round u) l) : LadA (Fin pN)) = bs.foldl (roundA (phi 121665) (phi u)) (toA l)
  | [], _ => rfl
  | b :: bs, l => by
    show toA (bs.foldl (Lad.round u) (l.round u b)) = bs.foldl _ (roundA _ _ (toA l) b)
    rw [toA_fold u bs, toA_round]
theorem toA_run (u : Int) (bs : List Bool) : (toA (Lad.run u bs) : LadA (Fin pN)) = runA (phi 121665) (phi u) bs := by
  unfold Lad.run runA
  rw [toA_fold]
  congr 1

theorem phi_ladOut (u : Int) (bs : List Bool) : (phi (ladOut u bs)) = outA (crv) (phi u) bs := by
  have h := toA_run u bs
  unfold ladOut outA
  rw [phi_mod, phi_mul, ← invA_phi]
  show phi (Lad.run u bs).x2 * invA (phi (Lad.run u bs).z2) = (runA (phi 121665) (phi u) bs).x2 * invA (runA (phi 121665) (phi u) bs).z2
  rw [← h]
  rfl

def gxN : Int := 9771384041963202563870679428059935816164187996444183106833894008023910952347
def gyN : Int := 46316835694926478169428394003475163141307993866256225615783033603165251855960
theorem base_on : On (crv) ⟨phi gxN, phi gyN⟩ := by
  show (phi gxN) * phi gxN * (phi gyN * phi gyN) = phi (cN : Int) * (phi gxN * phi gxN + phi gyN * phi gyN - 1)
  rw [← phi_one, ← phi_mul, ← phi_mul, ← phi_mul, ← phi_add, ← phi_sub, ← phi_mul]
  exact phi_ext.2 (by decide +kernel)
theorem base_is : Is (phi 9) ⟨phi gxN, phi gyN⟩ := by
  show (phi 9) * (1 - phi gyN) = 1 + phi gyN
  rw [← phi_one, ← phi_sub, ← phi_add, ← phi_mul]
  exact phi_ext.2 (by decide +kernel)

theorem shares_int (a b : List Bool)
    (ha : ∃ t, a = true :: t) (hb : ∃ t, b = true :: t) (hae : ∃ t, a = t ++ [false]) (hbe : ∃ t, b = t ++ [false]) :
    ladOut (ladOut 9 b) a = ladOut (ladOut 9 a) b := by
  have h := shares (crv) base_on (u := phi 9) base_is (phi_ne (by decide +kernel)) a b ha hb hae hbe
  rw [← phi_ladOut, ← phi_ladOut, ← phi_ladOut, ← phi_ladOut] at h
  have h1 := phi_ext.1 h
  unfold ladOut at h1 ⊢
  rw [Int.emod_emod, Int.emod_emod] at h1
  exact h1

theorem clamp_last (k : ByteArray) : ∃ t, bitsUp (clampB k) 255 = t ++ [false] := by
  refine ⟨bitsUp (clampB k) 254, ?_⟩
  rw [bitsUp_succ]
  congr 2
  unfold bitAt
  rw [clampB_bt k _ (by omega)]
  unfold clampAt
  have := bt_nonneg k 0
  rw [if_pos (by omega)]
  simp
  omega
theorem clamp_first (k : ByteArray) : ∃ t, bitsUp (clampB k) 255 = true :: t := by
  have e : bitAt (clampB k) 254 = true := by
    unfold bitAt
    rw [clampB_bt k _ (by omega)]
    unfold clampAt
    have h0 := bt_nonneg k 31
    rw [if_neg (by omega), if_pos (by omega)]
    simp
    omega
  refine ⟨((List.range 254).map (· + 1)).map (fun j => bitAt (clampB k) (254 - j)), ?_⟩
  unfold bitsUp
  rw [List.range_succ_eq_map, List.map_cons, Nat.sub_zero, e]

theorem low_point (s : ByteArray) (hs : s.size = 32) (h : bt s 31 < 128) : pointB s = s := by
  have h0 := bt_nonneg s 31
  refine bytes_ext (by unfold pointB; rw [row32_size, hs]) fun i hi => ?_
  have hi' : i < 32 := by unfold pointB at hi; rw [row32_size] at hi; exact hi
  rw [pointB_bt s i hi']
  unfold pointAt
  split
  · rename_i e; subst e; omega
  · rfl
theorem low_byte (y : Int) (hy : Rd y) : bt (leStr y) 31 < 128 := by
  have h := hy.num
  have h2 := hy.2
  rw [leNum_bt _ (leStr_size y)] at h
  simp only [valLE] at h
  have z := fun i => bt_nonneg (leStr y) i
  have z0 := z 0; have z1 := z 1; have z2 := z 2; have z3 := z 3; have z4 := z 4; have z5 := z 5; have z6 := z 6; have z7 := z 7; have z8 := z 8; have z9 := z 9; have z10 := z 10; have z11 := z 11; have z12 := z 12; have z13 := z 13; have z14 := z 14; have z15 := z 15
  have z16 := z 16; have z17 := z 17; have z18 := z 18; have z19 := z 19; have z20 := z 20; have z21 := z 21; have z22 := z 22; have z23 := z 23; have z24 := z 24; have z25 := z 25; have z26 := z 26; have z27 := z 27; have z28 := z 28; have z29 := z 29; have z30 := z 30; have z31 := z 31
  unfold Pr at h2
  clear z
  omega
theorem mult_of (k : ByteArray) (y : Int) (hy : Rd y) : multN k (leStr y) = ladOut y (bitsUp (clampB k) 255) := by
  unfold multN
  rw [low_point _ (leStr_size y) (low_byte y hy), hy.num, Int.emod_eq_of_lt hy.1 hy.2]
theorem out_rd (u : Int) (bs : List Bool) : Rd (ladOut u bs) := Rd.mod _
theorem mult_shares (a b : ByteArray) : multN a (leStr (multN b (leStr 9))) = multN b (leStr (multN a (leStr 9))) := by
  have h9 : Rd 9 := Rd.lit (by omega) (by omega)
  rw [mult_of a 9 h9, mult_of b 9 h9, mult_of a _ (out_rd _ _), mult_of b _ (out_rd _ _)]
  exact shares_int _ _ (clamp_first a) (clamp_first b) (clamp_last a) (clamp_last b)
end Go.Proofs.YtnfhfibbaeiglaaDoor
