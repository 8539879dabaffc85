/- The texts Lbits, Ltimes, Lmult, Lclampw, Lclampx, Msmall, Mbit, Mst, one behind the other. -/
import Derived.RangeFuncNested
import Derived.RangeFuncBound
import Derived.RangeFuncCalls
import Derived.RangeFuncLeaves
import Derived.RangeFuncFrom
import Derived.Shelf.Abstract
import Derived.Shelf.RegionOpen
import Derived.WalkKit
import Derived.OwnWalkIn
import Derived.TacticsInMore
import Derived.LoopNIn
import Derived.LoopIn
import Derived.Test.YthjlhcmdpeinpaaGreatDoorGg9
import Derived.Test.YthjlhcmdpeinpaaGreatDoorGg10
/- The iterator over the bits of a key, from the highest down. -/
namespace Go.Proofs.YthjlhcmdpeinpaaGreatDoor
set_option maxRecDepth 100000
open Go.RowKit Go.PlainAid Go.Shelf
attribute [local go_sem] Oper.semAt_some
/-- bit i of a text -/
def bitAt (s : ByteArray) (i : Nat) : Bool := decide (bt s (i / 8) / 2 ^ (i % 8) % 2 = 1)
def bitV (b : Bool) : Int := if b then 1 else 0
/-- the bits that k rounds have handed over -/
def bitsUp (s : ByteArray) (k : Nat) : List Bool := (List.range k).map fun j => bitAt s (254 - j)
theorem bitsUp_succ (s : ByteArray) (k : Nat) : bitsUp s (k + 1) = bitsUp s k ++ [bitAt s (254 - k)] := by simp [bitsUp, List.range_succ]
theorem bitsUp_length (s : ByteArray) (k : Nat) : (bitsUp s k).length = k := by simp [bitsUp]

theorem and1 (b : Int) (h0 : 0 ≤ b) (h1 : b ≤ 255) : bits .and .u8 b 1 = b % 2 := by
  obtain ⟨n, rfl⟩ := Int.eq_ofNat_of_zero_le h0
  exact (by decide +kernel : ∀ n : Fin 256, bits .and .u8 (n.val : Int) 1 = (n.val : Int) % 2) ⟨n, by omega⟩
theorem bit_math (s : ByteArray) (i : Nat) (h : i / 8 < s.size) : bits .and .u8 (((s[i / 8]'h).toNat : Int) / 2 ^ (i % 8)) 1 = bitV (bitAt s i) := by
  rw [get_bt s (i / 8) h]
  have a0 := bt_nonneg s (i / 8); have a1 := bt_le s (i / 8)
  have p : (0 : Int) < 2 ^ (i % 8) := Int.pow_pos (by omega)
  have d0 : 0 ≤ bt s (i / 8) / 2 ^ (i % 8) := Int.ediv_nonneg a0 (by omega)
  have d1 : bt s (i / 8) / 2 ^ (i % 8) ≤ bt s (i / 8) := Int.ediv_le_self _ a0
  rw [and1 _ d0 (by omega)]
  unfold bitV bitAt
  split
  · rename_i h'; simpa using h'
  · rename_i h'; simp at h'; omega

set_option maxHeartbeats 2000000 in
theorem bits1_stops (F : Fence) (n : Nat) (h6 : F.fn 160) (hro : F.round = none) (hn : 1 ≤ n) (s : ByteArray) (hs : s.size = 32) (B : Nat) (w : World) (hB : B < w.heap.size) (hc : w.cell? ⟨B, 0, none⟩ = some (.string s)) :
    SeqStopsK F n Tryz.prog 160 #[.pointer (some ⟨B, 0, none⟩)] (fun b : Bool => #[Value.int .u8 (bitV b)]) (fun W W' => W'.cell? ⟨B, 0, none⟩ = W.cell? ⟨B, 0, none⟩) (fun xs => xs = bitsUp s 255) (fun _ => True) 255 w := fun l J Jx W hW hJ hJx hY h0 => by
  refine callsIn_of_wp Tryz.func160 rfl h6 ?_ hro
  simp only [Tryz.ntmps160, List.size_toArray, List.length_cons, List.length_nil, Nat.reduceAdd, Nat.reduceSub, Array.replicate_succ, Array.replicate_zero, List.push_toArray, List.append_toArray, List.nil_append, List.cons_append]
  have hcW : W.cell? ⟨B, 0, none⟩ = some (.string s) := by rw [hW.cell (p := ⟨B, 0, none⟩) hB]; exact hc
  gi_wp2
  gi_loopw [3] (fun i wr => ∃ k : Nat, k ≤ 255 ∧ i = .int .i64 (254 - (k : Int)) ∧ J (bitsUp s k) wr ∧ wr.cell? ⟨B, 0, none⟩ = some (.string s)) (fun i _ => (intOf i + 1).toNat)
  case atStart => exact ⟨0, by omega, rfl, h0, hcW⟩
  case round =>
    obtain ⟨k, hk, rfl, hJk, hck⟩ := hrel
    by_cases hlt : k < 255
    · obtain ⟨i, hi⟩ : ∃ i : Nat, 254 - k = i := ⟨_, rfl⟩
      have e1 : (254 - (k : Int)) = (i : Int) := by omega
      rw [e1]
      have hlt8 : i / 8 < s.size := by omega
      have hbit := bit_math s i hlt8
      obtain ⟨fn, tmps, assign, body, hy, hR⟩ := hY (bitsUp s k) (bitAt s i) wr hJk (by rw [bitsUp_length]; omega)
      gi_wp2
      refine hR.mono ?_
      rintro e W3 (⟨rfl, hJ3, hk3⟩ | ⟨rfl, hJx3⟩)
      · have hc3 : W3.cell? ⟨B, 0, none⟩ = some (.string s) := hk3.trans hck
        gi_wp2
        go_roundw
        case rel => exact ⟨k + 1, by omega, by rw [show (254 - ((k + 1 : Nat) : Int)) = (i : Int) - 1 by omega], by rw [bitsUp_succ, hi]; exact hJ3, hc3⟩
        case measure => simp [intOf]
      · gi_wp2
        refine bodyPost_ret (results_none rfl _ _ _) rfl ?_
        exact ⟨⟨_, rfl⟩, .inr ⟨_, trivial, hJx3⟩⟩
    · obtain rfl : k = 255 := by omega
      gi_wp2
      go_end0
      exact ⟨⟨_, rfl⟩, .inl ⟨_, rfl, hJk⟩⟩
end Go.Proofs.YthjlhcmdpeinpaaGreatDoor

/- A point times a key: the ladder's rounds, one for each bit. -/
namespace Go.Proofs.YthjlhcmdpeinpaaGreatDoor
set_option maxRecDepth 100000
open Go.RowKit Go.PlainAid Go.Shelf
attribute [local go_sem] Oper.semAt_some
/-- the ladder's numbers -/
structure Lad where
  x2 : Int
  z2 : Int
  x3 : Int
  z3 : Int
def Lad.swap (b : Bool) (l : Lad) : Lad := if b then ⟨l.x3, l.z3, l.x2, l.z2⟩ else l
def Lad.step (u : Int) (l : Lad) : Lad := ⟨nX2 l.x2 l.z2, nZ2 l.x2 l.z2, nX3 l.x2 l.z2 l.x3 l.z3, nZ3 u l.x2 l.z2 l.x3 l.z3⟩
def Lad.round (u : Int) (l : Lad) (b : Bool) : Lad := ((l.swap b).step u).swap b
def Lad.run (u : Int) (bs : List Bool) : Lad := bs.foldl (Lad.round u) ⟨1, 0, u, 1⟩
theorem Lad.run_snoc (u : Int) (bs : List Bool) (b : Bool) : Lad.run u (bs ++ [b]) = (Lad.run u bs).round u b := by simp [Lad.run]
def Lad.ok (l : Lad) : Prop := Rd l.x2 ∧ Rd l.z2 ∧ Rd l.x3 ∧ Rd l.z3
theorem Lad.ok_round {u : Int} (l : Lad) (b : Bool) : (l.round u b).ok := by
  cases b <;> exact ⟨Rd.mod _, Rd.mod _, Rd.mod _, Rd.mod _⟩
theorem Lad.ok_run {u : Int} (hu : Rd u) (bs : List Bool) : (Lad.run u bs).ok := by
  unfold Lad.run
  suffices h : ∀ (bs : List Bool) (l : Lad), l.ok → (bs.foldl (Lad.round u) l).ok from h bs _ ⟨Rd.lit (n := 1) (by omega) (by omega), Rd.lit (n := 0) (by omega) (by omega), hu, Rd.lit (n := 1) (by omega) (by omega)⟩
  intro bs
  induction bs with
  | nil => exact fun l h => h
  | cons b bs ih => exact fun l _ => ih _ (Lad.ok_round l b)
/-- the number that the ladder ends in -/
def ladOut (u : Int) (bs : List Bool) : Int := ((Lad.run u bs).x2 * ((Lad.run u bs).z2 ^ ExpN % Pr)) % Pr
/-- the five numbers in their block -/
def LadAt (w : World) (B : Nat) (u : Int) (l : Lad) : Prop := Row5 w B (leStr u) (leStr l.x2) (leStr l.z2) (leStr l.x3) (leStr l.z3)

set_option maxHeartbeats 1000000 in
theorem bits_any (s : ByteArray) (w : World) :
    Calls Tryz.prog 128 #[.string s] w fun e w' => e = .returned (.func (.func 160) #[] #[.pointer (some ⟨w.heap.size, 0, none⟩)]) ∧ w' = w.alloc (.cells #[.string s] 9) := by
  go_enter Tryz.func128, Tryz.ntmps128
  go_wp2_with fail
  go_ret
  exact ⟨rfl, rfl⟩

theorem changed0 (u x2 z2 x3 z3 : Int) (w : World) :
    Calls Tryz.prog 129 #[.agg #[.string (leStr u), .string (leStr x2), .string (leStr z2), .string (leStr x3), .string (leStr z3)], .int .u8 0] w fun e w' =>
      e = .returned (.agg #[.string (leStr u), .string (leStr x2), .string (leStr z2), .string (leStr x3), .string (leStr z3)]) ∧ Below w.heap.size w w' := changed_any u x2 z2 x3 z3 w false
theorem changed1 (u x2 z2 x3 z3 : Int) (w : World) :
    Calls Tryz.prog 129 #[.agg #[.string (leStr u), .string (leStr x2), .string (leStr z2), .string (leStr x3), .string (leStr z3)], .int .u8 1] w fun e w' =>
      e = .returned (.agg #[.string (leStr u), .string (leStr x3), .string (leStr z3), .string (leStr x2), .string (leStr z2)]) ∧ Below w.heap.size w w' := changed_any u x2 z2 x3 z3 w true
theorem below_keeps {W W' : World} (hb : Below W.heap.size W W') : KeepsOthers W W' := ⟨hb.size, fun k o h _ => by rw [hb.block k (Array.getElem?_eq_some_iff.1 h).1]; exact h⟩
theorem keeps_set5 {W0 W : World} (h : KeepsOthers W0 W) (B : Nat) (p q r s t : Value) :
    KeepsOthers W0 (((((W.setCell ⟨B, 0, none⟩ p).setCell ⟨B, 1, none⟩ q).setCell ⟨B, 2, none⟩ r).setCell ⟨B, 3, none⟩ s).setCell ⟨B, 4, none⟩ t) :=
  ((((h.trans (KeepsOthers.setCell _ _ _)).trans (KeepsOthers.setCell _ _ _)).trans (KeepsOthers.setCell _ _ _)).trans (KeepsOthers.setCell _ _ _)).trans (KeepsOthers.setCell _ _ _)
theorem cell_far5 (w : World) {n X : Nat} (h : n ≠ X) (o : Nat) (p q r s t : Value) :
    (((((w.setCell ⟨n, 0, none⟩ p).setCell ⟨n, 1, none⟩ q).setCell ⟨n, 2, none⟩ r).setCell ⟨n, 3, none⟩ s).setCell ⟨n, 4, none⟩ t).cell? ⟨X, o, none⟩ = w.cell? ⟨X, o, none⟩ := by
  have key : ∀ (v : World) (k : Nat) (u : Value), (v.setCell ⟨n, k, none⟩ u).cell? ⟨X, o, none⟩ = v.cell? ⟨X, o, none⟩ := fun v k u => by
    rw [World.cell?_setCell_other]; intro e; cases e; exact h rfl
  rw [key, key, key, key, key]

set_option maxRecDepth 100000 in
set_option maxHeartbeats 2000000 in
theorem ladder_times (s : ByteArray) (hs : s.size = 32) {u : Int} (hu : Rd u) (w : World) (hP : PrimeAt w) :
    Calls Tryz.prog 85 #[.string s, .string (leStr u)] w (Tells (ladOut u (bitsUp s 255)) w) := by
  refine (callsIn_wide (n := 3)).1 ?_
  have lb := hP.lt
  refine callsIn_of_wp_marks Tryz.func85 rfl trivial ?_ rfl
  simp only [Tryz.ntmps85, List.size_toArray, List.length_cons, List.length_nil, Nat.reduceAdd, Nat.reduceSub, Array.replicate_succ, Array.replicate_zero, List.push_toArray, List.append_toArray, List.nil_append, List.cons_append]
  gi_wp2_with (first
    | (refine ⟨trivial, ?_⟩; gi_at_call 127; refine (callsIn_wide.2 (start_any u _)).mono ?_; rintro e w1 ⟨rfl, hb1⟩; have hs1 := hb1.size)
    | (refine ⟨trivial, ?_⟩; gi_at_call 128; refine (callsIn_wide.2 (bits_any s _)).mono ?_; rintro e w2 ⟨rfl, rfl⟩))
  have hb2 : Below w.heap.size w ((w1.alloc (.cells #[.string (leStr u), .string (leStr 1), .string (leStr 0), .string (leStr u), .string (leStr 1)] 172)).alloc (.cells #[.string s] 9)) := (hb1.alloc hb1.size _).alloc (by simp; omega) _
  have hR0 : LadAt ((w1.alloc (.cells #[.string (leStr u), .string (leStr 1), .string (leStr 0), .string (leStr u), .string (leStr 1)] 172)).alloc (.cells #[.string s] 9)) w1.heap.size u (Lad.run u []) := (Row5.fresh w1 _ _ _ _ _ _).alloc _
  have hc0 : ((w1.alloc (.cells #[.string (leStr u), .string (leStr 1), .string (leStr 0), .string (leStr u), .string (leStr 1)] 172)).alloc (.cells #[.string s] 9)).cell? ⟨w1.heap.size + 1, 0, none⟩ = some (.string s) := by simp
  have hsz : ((w1.alloc (.cells #[.string (leStr u), .string (leStr 1), .string (leStr 0), .string (leStr u), .string (leStr 1)] 172)).alloc (.cells #[.string s] 9)).heap.size = w1.heap.size + 1 + 1 := by simp
  generalize World.alloc (World.alloc w1 _) _ = W0 at hb2 hR0 hc0 hsz ⊢
  refine wpIn_rangeFunc_ownF rfl (by omega) (gf := 160) (lb := #[.pointer (some ⟨w1.heap.size + 1, 0, none⟩)]) rfl trivial (enters_of Tryz.func160 (by kernel_rfl) rfl)
    (bits1_stops Fence.wide (3 - 1) trivial rfl (by omega) s hs (w1.heap.size + 1) W0 (by omega) hc0) (fun h h' => h'.trans h) ?keepb (Below.refl _ _) (fun _ => rfl)
    (fun pre W => (LadAt W w1.heap.size u (Lad.run u pre) ∧ W.cell? ⟨w1.heap.size + 1, 0, none⟩ = some (.string s)) ∧ Below w.heap.size w W)
    (fun _ _ _ => False)
    (OwnFrom.and (OwnFrom.and (Own.from (fun t A B row ht hg hr => ⟨⟨cell_kept ht.1.1 hg hr, cell_kept ht.1.2.1 hg hr, cell_kept ht.1.2.2.1 hg hr, cell_kept ht.1.2.2.2.1 hg hr, cell_kept ht.1.2.2.2.2 hg hr⟩, ⟨(frozen_kept ht.1.1 hg hr).trans ht.2.1, (frozen_kept ht.1.2.1 hg hr).trans ht.2.2.1, (frozen_kept ht.1.2.2.1 hg hr).trans ht.2.2.2.1, (frozen_kept ht.1.2.2.2.1 hg hr).trans ht.2.2.2.2.1, (frozen_kept ht.1.2.2.2.2 hg hr).trans ht.2.2.2.2.2⟩⟩) _) (Own.from (fun t A B row ht hg hr => cell_kept ht hg hr) _)) (ownFrom_below (Nat.le_refl _) (by omega)))
    (fun _ _ _ _ _ hs _ _ => hs)
    ⟨⟨hR0, hc0⟩, hb2⟩
    (fun b => { tmps := #[.string s, .string (leStr u), undef, undef, .string ⟨#[]⟩, .pointer (some ⟨w1.heap.size, 0, none⟩), .int .u8 (bitV b), .string (leStr u), .agg #[.string (leStr u), .string (leStr 1), .string (leStr 0), .string (leStr u), .string (leStr 1)], .string s, .func (.func 160) #[] #[.pointer (some ⟨w1.heap.size + 1, 0, none⟩)], .int .u8 (bitV b), undef, undef, undef, undef, undef, undef, undef, undef], defers := [] }) ?assign ?body ?done ?stop
  case keepb =>
    intro W l o o' hl ho hc hw
    exact (belowK_b (n₀ := W0.heap.size) (w := W0) (Nat.le_refl _) W l o o' hl ho hc hw).cell (p := ⟨w1.heap.size + 1, 0, none⟩) (show w1.heap.size + 1 < W0.heap.size by omega)
  case assign =>
    intro l x W K hK
    gi_wp2
    exact hK
  case body =>
    rintro l pre x W ⟨⟨hR, hcell⟩, hB⟩ _
    have hok := Lad.ok_run hu pre
    have hPW := hP.below hB lb
    have hrun := Lad.run_snoc u pre x
    generalize Lad.run u pre = L at hR hok hrun
    obtain ⟨x2, z2, x3, z3⟩ := L
    obtain ⟨h2, h2', h3, h3'⟩ := hok
    change Row5 W w1.heap.size (leStr u) (leStr x2) (leStr z2) (leStr x3) (leStr z3) at hR
    change Rd x2 at h2
    change Rd z2 at h2'
    change Rd x3 at h3
    change Rd z3 at h3'
    clear hb2 hR0 hc0
    cases x with
    | false =>
      simp only [bitV, Bool.false_eq_true, if_false]
      obtain ⟨⟨c0, c1, c2, c3, c4⟩, -⟩ := id hR
      gi_wp2
      refine ⟨trivial, ?_⟩
      refine (CallsIn.inRound l (callsIn_wide.2 (changed0 u x2 z2 x3 z3 W))).mono ?_
      rintro e W1 ⟨rfl, hb1'⟩
      have hP1 := hPW.below hb1' hPW.lt
      gi_wp2
      refine ⟨trivial, ?_⟩
      refine (CallsIn.inRound l (callsIn_wide.2 (step_any hu h2 h2' h3 h3' W1 hP1))).mono ?_
      rintro e W2 ⟨rfl, hb2'⟩
      have hb2'' := hb1'.trans (hb2'.mono hb1'.size)
      gi_wp2
      refine ⟨trivial, ?_⟩
      refine (CallsIn.inRound l (callsIn_wide.2 (changed0 u (nX2 x2 z2) (nZ2 x2 z2) (nX3 x2 z2 x3 z3) (nZ3 u x2 z2 x3 z3) W2))).mono ?_
      rintro e W3 ⟨rfl, hb3'⟩
      have hb3 := hb2''.trans (hb3'.mono hb2''.size)
      have hR3 := Row5.on hR hb3
      have hS := hR3.set (leStr u) (leStr (nX2 x2 z2)) (leStr (nZ2 x2 z2)) (leStr (nX3 x2 z2 x3 z3)) (leStr (nZ3 u x2 z2 x3 z3))
      have hK3 := keeps_set5 (below_keeps hb3) w1.heap.size (.string (leStr u)) (.string (leStr (nX2 x2 z2))) (.string (leStr (nZ2 x2 z2))) (.string (leStr (nX3 x2 z2 x3 z3))) (.string (leStr (nZ3 u x2 z2 x3 z3)))
      have hB3 := below_set5 (hB.trans (hb3.mono hB.size)) (B := w1.heap.size) hs1 (.string (leStr u)) (.string (leStr (nX2 x2 z2))) (.string (leStr (nZ2 x2 z2))) (.string (leStr (nX3 x2 z2 x3 z3))) (.string (leStr (nZ3 u x2 z2 x3 z3)))
      have hk3 : W3.cell? ⟨w1.heap.size + 1, 0, none⟩ = some (.string s) := (hb3.cell (p := ⟨w1.heap.size + 1, 0, none⟩) (World.block_lt_of_cell? W _ hcell)).trans hcell
      have hf3 := (cell_far5 W3 (show w1.heap.size ≠ w1.heap.size + 1 by omega) 0 (.string (leStr u)) (.string (leStr (nX2 x2 z2))) (.string (leStr (nZ2 x2 z2))) (.string (leStr (nX3 x2 z2 x3 z3))) (.string (leStr (nZ3 u x2 z2 x3 z3)))).trans hk3
      clear hb1' hb2' hb3' hb2'' hR c0 c1 c2 c3 c4 hP1
      obtain ⟨⟨c0, c1, c2, c3, c4⟩, ⟨f0, f1, f2, f3, f4⟩⟩ := id hR3
      have hlt3 := Row5.lt hR3
      gi_wp2
      refine ⟨hK3, hf3.trans hcell.symm, ⟨?_, hf3⟩, hB3⟩
      rw [hrun]
      exact hS
    | true =>
      simp only [bitV, if_true]
      obtain ⟨⟨c0, c1, c2, c3, c4⟩, -⟩ := id hR
      gi_wp2
      refine ⟨trivial, ?_⟩
      refine (CallsIn.inRound l (callsIn_wide.2 (changed1 u x2 z2 x3 z3 W))).mono ?_
      rintro e W1 ⟨rfl, hb1'⟩
      have hP1 := hPW.below hb1' hPW.lt
      gi_wp2
      refine ⟨trivial, ?_⟩
      refine (CallsIn.inRound l (callsIn_wide.2 (step_any hu h3 h3' h2 h2' W1 hP1))).mono ?_
      rintro e W2 ⟨rfl, hb2'⟩
      have hb2'' := hb1'.trans (hb2'.mono hb1'.size)
      gi_wp2
      refine ⟨trivial, ?_⟩
      refine (CallsIn.inRound l (callsIn_wide.2 (changed1 u (nX2 x3 z3) (nZ2 x3 z3) (nX3 x3 z3 x2 z2) (nZ3 u x3 z3 x2 z2) W2))).mono ?_
      rintro e W3 ⟨rfl, hb3'⟩
      have hb3 := hb2''.trans (hb3'.mono hb2''.size)
      have hR3 := Row5.on hR hb3
      have hS := hR3.set (leStr u) (leStr (nX3 x3 z3 x2 z2)) (leStr (nZ3 u x3 z3 x2 z2)) (leStr (nX2 x3 z3)) (leStr (nZ2 x3 z3))
      have hK3 := keeps_set5 (below_keeps hb3) w1.heap.size (.string (leStr u)) (.string (leStr (nX3 x3 z3 x2 z2))) (.string (leStr (nZ3 u x3 z3 x2 z2))) (.string (leStr (nX2 x3 z3))) (.string (leStr (nZ2 x3 z3)))
      have hB3 := below_set5 (hB.trans (hb3.mono hB.size)) (B := w1.heap.size) hs1 (.string (leStr u)) (.string (leStr (nX3 x3 z3 x2 z2))) (.string (leStr (nZ3 u x3 z3 x2 z2))) (.string (leStr (nX2 x3 z3))) (.string (leStr (nZ2 x3 z3)))
      have hk3 : W3.cell? ⟨w1.heap.size + 1, 0, none⟩ = some (.string s) := (hb3.cell (p := ⟨w1.heap.size + 1, 0, none⟩) (World.block_lt_of_cell? W _ hcell)).trans hcell
      have hf3 := (cell_far5 W3 (show w1.heap.size ≠ w1.heap.size + 1 by omega) 0 (.string (leStr u)) (.string (leStr (nX3 x3 z3 x2 z2))) (.string (leStr (nZ3 u x3 z3 x2 z2))) (.string (leStr (nX2 x3 z3))) (.string (leStr (nZ2 x3 z3)))).trans hk3
      clear hb1' hb2' hb3' hb2'' hR c0 c1 c2 c3 c4 hP1
      obtain ⟨⟨c0, c1, c2, c3, c4⟩, ⟨f0, f1, f2, f3, f4⟩⟩ := id hR3
      have hlt3 := Row5.lt hR3
      gi_wp2
      refine ⟨hK3, hf3.trans hcell.symm, ⟨?_, hf3⟩, hB3⟩
      rw [hrun]
      exact hS
  case done =>
    rintro D ys W hD rfl ⟨⟨hR, hcell⟩, hB⟩ hK
    have hok := Lad.ok_run hu (bitsUp s 255)
    have hPW := hP.below hB lb
    clear hb2 hR0 hc0
    have hlo : ladOut u (bitsUp s 255) = ((Lad.run u (bitsUp s 255)).x2 * ((Lad.run u (bitsUp s 255)).z2 ^ ExpN % Pr)) % Pr := rfl
    generalize Lad.run u (bitsUp s 255) = L at hR hok hlo
    obtain ⟨x2, z2, x3, z3⟩ := L
    obtain ⟨h2, h2', h3, h3'⟩ := hok
    change Row5 W w1.heap.size (leStr u) (leStr x2) (leStr z2) (leStr x3) (leStr z3) at hR
    obtain ⟨⟨c0, c1, c2, c3, c4⟩, -⟩ := id hR
    gi_wp2
    refine ⟨trivial, ?_⟩
    refine (callsIn_wide.2 (point_any h2 h2' W hPW)).mono ?_
    rintro e W1 ⟨rfl, hb⟩
    have hK1 : W1.heap[D]? = some (.deferred (some [])) := by rw [hb.block D (Array.getElem?_eq_some_iff.1 hK).1]; exact hK
    have hB1 := hB.trans (hb.mono hB.size)
    gi_wp2
    refine ⟨by simp, .inl ⟨_, _, rfl, run_takeDeferred hK1, ?_⟩⟩
    exact ⟨_, results_tmp rfl _ _ _, (by rw [hlo]; rfl), hB1.trans (belowK_b (w := w) (Nat.le_refl _) W1 D _ _ (by omega) hK1 rfl rfl)⟩
  case stop =>
    rintro D c pre W _ _ h _
    exact h.elim
end Go.Proofs.YthjlhcmdpeinpaaGreatDoor

/- What the ladder's exported functions tell. -/
namespace Go.Proofs.YthjlhcmdpeinpaaGreatDoor
set_option maxRecDepth 100000
open Go.RowKit Go.PlainAid
/-- the point u times the key k -/
def multN (k u : ByteArray) : Int := ladOut (leNum (pointB u) % Pr) (bitsUp (clampB k) 255)

set_option maxHeartbeats 1000000 in
theorem mult_good (k u : ByteArray) (hk : k.size = 32) (hu : u.size = 32) (w : World) (hP : PrimeAt w) :
    Calls Tryz.prog 51 #[.string k, .string u] w (StrOk (multN k u) w) := by
  have lb := hP.lt
  have q1 : ((k.size : Int) != 32) = false := by rw [bne_eq_false_iff_eq]; omega
  have q2 : ((u.size : Int) != 32) = false := by rw [bne_eq_false_iff_eq]; omega
  have HK := Lib.hid hk; have HU := Lib.hid hu
  clear hk hu
  go_enter Tryz.func51, Tryz.ntmps51
  go_wp2_with fail
  refine (clamped_any k HK.out _).mono ?_
  rintro e w1 ⟨rfl, hB1⟩
  have hs1 := hB1.size
  have hP1 := hP.below hB1 lb
  go_wp2_with fail
  refine (ofPoint_any u HU.out _ hP1).mono ?_
  rintro e w2 ⟨rfl, hb2⟩
  have hB2 := hB1.trans (hb2.mono hs1)
  have hs2 := hB2.size
  have HT := Lib.hid (ladder_times (clampB k) (row32_size _) (Rd.mod (leNum (pointB u))) w2 (hP.below hB2 lb))
  clear hb2 hB1 hs1 hP1
  go_wp2_with fail
  refine HT.out.mono ?_
  rintro e w3 ⟨rfl, hb3⟩
  have hB3 := hB2.trans (hb3.mono hs2)
  clear hb3 hB2 HT
  go_wp2_with fail
  go_ret2
  exact ⟨rfl, hB3⟩
set_option maxHeartbeats 1000000 in
theorem base_good (k : ByteArray) (hk : k.size = 32) (w : World) (hP : PrimeAt w) :
    Calls Tryz.prog 45 #[.string k] w (StrOk (multN k (leStr 9)) w) := by
  have H := mult_good k (leStr 9) hk (leStr_size 9) w hP
  rw [← nine_str] at H ⊢
  have HM := Lib.hid H
  clear H
  go_enter Tryz.func45, Tryz.ntmps45
  go_wp2_with fail
  refine HM.out.mono ?_
  rintro e w1 ⟨rfl, hb1⟩
  go_wp2_with fail
  go_ret2
  exact ⟨rfl, hb1⟩
end Go.Proofs.YthjlhcmdpeinpaaGreatDoor

/- The walk of the law LadderClamps. -/
namespace Go.Proofs.YthjlhcmdpeinpaaGreatDoor
set_option maxRecDepth 100000
open Go.RowKit Go.PlainAid Go.Sort
theorem bytes_ext {a b : ByteArray} (hs : a.size = b.size) (h : ∀ i, i < a.size → bt a i = bt b i) : a = b := by
  apply ByteArray.ext
  apply Array.ext
  · exact hs
  · intro i h1 h2
    have h3 := h i h1
    unfold bt at h3
    rw [dif_pos (show i < a.size from h1), dif_pos (show i < b.size from h2)] at h3
    have h4 : (a[i]'h1).toNat = (b[i]'h2).toNat := by exact_mod_cast h3
    exact UInt8.toNat_inj.1 h4

theorem clampB_size (k : ByteArray) : (clampB k).size = 32 := row32_size _
end Go.Proofs.YthjlhcmdpeinpaaGreatDoor

/- The walk of the law LadderClamps. -/
namespace Go.Proofs.YthjlhcmdpeinpaaGreatDoor
set_option maxRecDepth 100000
open Go.RowKit Go.PlainAid Go.Sort
theorem bt_append (a b : ByteArray) (i : Nat) (hi : i < a.size + b.size) : bt (a ++ b) i = if i < a.size then bt a i else bt b (i - a.size) := by
  have hs : i < (a ++ b).size := by rw [ByteArray.size_append]; exact hi
  unfold bt
  rw [dif_pos hs]
  split
  · rename_i h
    rw [ByteArray.getElem_append_left h]
  · rename_i h
    rw [dif_pos (by omega), ByteArray.getElem_append_right (by omega)]

end Go.Proofs.YthjlhcmdpeinpaaGreatDoor

/- The reference's small numbers and its bits. -/
namespace Go.Proofs.YthjlhcmdpeinpaaGreatDoor
set_option maxRecDepth 100000
open Go.RowKit Go.PlainAid
theorem Ints.lit2 (w : World) (base : Nat) (hb : base ≤ w.heap.size) (x y : Int) : Ints (w.alloc (.cells #[.int .i64 x, .int .i64 y] 3)) base (.slice (some ⟨w.heap.size, 0, none⟩) 2 2) [x, y] :=
  World.ownsRow_lit w #[.int .i64 x, .int .i64 y] 2 hb (by decide) rfl
theorem valD_zeros : ∀ k : Nat, valD (List.replicate k 0) = 0
  | 0 => rfl
  | k + 1 => by rw [List.replicate_succ, valD, valD_zeros k]; rfl

set_option maxHeartbeats 1000000 in
theorem refSmall_any (n : Int) (h0 : 0 ≤ n) (h1 : n < 1000000) (w : World) :
    Calls Tryz.prog 73 #[.int .i64 n] w (DigPost n w) := by
  have e1 : n.tmod 65536 = n % 65536 := by rw [Int.tmod_eq_emod_of_nonneg h0]
  have e2 : n.tdiv 65536 = n / 65536 := by rw [Int.tdiv_eq_ediv_of_nonneg h0]
  go_enter Tryz.func73, Tryz.ntmps73
  go_wp2_with fail
  go_loopw [3] (OneR w n) (fun v _ => 16 - lenOf v)
  case atStart => exact ⟨0, _, _, by omega, rfl, Ints.lit2 w _ (Nat.le_refl _) _ _, by go_grown⟩
  case round =>
    obtain ⟨k, g, cap, hk, rfl, hI, hB⟩ := hrel
    have hsz := hB.size
    by_cases hlt : k < 14
    · have h1 : ((k : Int) + 2 < 16) := by omega
      go_wp2_with (at_builtin; refine append_int rfl _ _ rfl w.heap.size _ (n % 65536 :: n / 65536 :: List.replicate k 0) 0 wr.heap.size rfl ?c0 rfl ?c1 ?c2 ?c3 ?_)
      case c0 => exact hI.alloc _
      case c1 => simp
      case c2 => simp; omega
      case c3 => simp; omega
      intro g' cap' w' hI' hg'
      have hB' := hI.below_grown hB hsz hg'
      clear hI hg' hB
      go_wp2_with fail
      refine ⟨⟨k + 1, g', cap', by omega, by simp, ?_, hB'⟩, by simp [lenOf]; omega⟩
      rw [List.replicate_succ']
      simpa using hI'
    · obtain rfl : k = 14 := by omega
      go_wp2_with fail
      go_ret
      refine ⟨_, rfl, ⟨_, by simp, ?_, ?_, hI.at (by simp)⟩, hB⟩
      · intro d hd
        simp only [List.mem_cons, List.mem_replicate] at hd
        rcases hd with rfl | rfl | ⟨-, rfl⟩ <;> omega
      · simp only [valD, valD_zeros]
        omega
end Go.Proofs.YthjlhcmdpeinpaaGreatDoor

/- The reference's bit of a key, and its exchange of the points. -/
namespace Go.Proofs.YthjlhcmdpeinpaaGreatDoor
set_option maxRecDepth 100000
open Go.RowKit Go.PlainAid
def BitRel (s : ByteArray) (i : Nat) (w : World) (n j : Value) (wr : World) : Prop := ∃ k : Nat, k ≤ i % 8 ∧ n = .int .i64 (bt s (i / 8) / 2 ^ k) ∧ j = .int .i64 k ∧ wr = w
theorem half_div (b : Int) (k : Nat) : b / 2 ^ k / 2 = b / 2 ^ (k + 1) := by
  rw [Int.pow_succ, Int.ediv_ediv_of_nonneg (Int.le_of_lt (Int.pow_pos (by omega)))]

set_option maxHeartbeats 1000000 in
theorem refBit_any (s : ByteArray) (hs : s.size = 32) (i : Nat) (hi : i < 256) (w : World) :
    Calls Tryz.prog 96 #[.string s, .int .i64 i] w fun e w' => e = .returned (.bool (bitAt s i)) ∧ w = w' := by
  have hget := get_bt s
  have hb0 := bt_nonneg s (i / 8); have hb1 := bt_le s (i / 8)
  have hi8 : i / 8 < s.size := by omega
  go_enter Tryz.func96, Tryz.ntmps96
  go_wp2_with fail
  go_loopw [5, 6] (BitRel s i w) (fun _ j _ => 8 - (intOf j).toNat)
  case atStart => exact ⟨0, by omega, by simp, rfl, rfl⟩
  case round =>
    obtain ⟨k, hk, rfl, rfl, rfl⟩ := hrel
    have hd := half_div (bt s (i / 8)) k
    have p : (0 : Int) < 2 ^ k := Int.pow_pos (by omega)
    have d0 : 0 ≤ bt s (i / 8) / 2 ^ k := Int.ediv_nonneg hb0 (by omega)
    have d1 : bt s (i / 8) / 2 ^ k ≤ bt s (i / 8) := Int.ediv_le_self _ hb0
    by_cases hlt : k < i % 8
    · have h1 : ((k : Int) < (i : Int) % 8) := by omega
      generalize hn : bt s (i / 8) / 2 ^ k = n at *
      go_wp2_with fail
      go_roundw
      case rel => exact ⟨k + 1, by omega, by rw [← hd], by simp, rfl⟩
      case measure => simp [intOf]; omega
    · have h1 : ¬ ((k : Int) < (i : Int) % 8) := by omega
      obtain rfl : k = i % 8 := by omega
      have hbit : bitAt s i = decide (bt s (i / 8) / 2 ^ (i % 8) % 2 = 1) := rfl
      generalize hn : bt s (i / 8) / 2 ^ (i % 8) = n at *
      go_wp2_with fail
      go_ret
      exact ⟨rfl, rfl⟩

set_option maxHeartbeats 1000000 in
theorem refSwap_any (ga ca gb cb gc cc gd cd : Nat) (w : World) :
    Calls Tryz.prog 97 #[.agg #[.slice (some ⟨ga, 0, none⟩) 16 ca, .slice (some ⟨gb, 0, none⟩) 16 cb, .slice (some ⟨gc, 0, none⟩) 16 cc, .slice (some ⟨gd, 0, none⟩) 16 cd]] w fun e w' =>
      e = .returned (.agg #[.slice (some ⟨gc, 0, none⟩) 16 cc, .slice (some ⟨gd, 0, none⟩) 16 cd, .slice (some ⟨ga, 0, none⟩) 16 ca, .slice (some ⟨gb, 0, none⟩) 16 cb]) ∧ Below w.heap.size w w' := by
  go_enter Tryz.func97, Tryz.ntmps97
  go_wp2_with fail
  refine bodyPost_ret (v := .agg #[.slice (some ⟨gc, 0, none⟩) 16 cc, .slice (some ⟨gd, 0, none⟩) 16 cd, .slice (some ⟨ga, 0, none⟩) 16 ca, .slice (some ⟨gb, 0, none⟩) 16 cb]) (by simp [results, Tryz.results97, go_sem]) rfl ⟨rfl, by go_grown⟩
end Go.Proofs.YthjlhcmdpeinpaaGreatDoor

/- A store of a struct of four slices. -/
namespace Go.Proofs.YthjlhcmdpeinpaaGreatDoor
set_option maxRecDepth 100000
open Go.RowKit
set_option maxHeartbeats 400000 in
theorem run_store4 (W : World) (B : Nat) {a0 a1 a2 a3 : Value} (h : Row4 W B a0 a1 a2 a3) (g0 c0 g1 c1 g2 c2 g3 c3 : Nat) :
    (Instr.storeAt 143 (.pointer (some ⟨B, 0, none⟩)) (.agg #[.slice (some ⟨g0, 0, none⟩) 16 c0, .slice (some ⟨g1, 0, none⟩) 16 c1, .slice (some ⟨g2, 0, none⟩) 16 c2, .slice (some ⟨g3, 0, none⟩) 16 c3])).run Tryz.prog W =
      .ok () ((((W.setCell ⟨B, 0, none⟩ (.slice (some ⟨g0, 0, none⟩) 16 c0)).setCell ⟨B, 1, none⟩ (.slice (some ⟨g1, 0, none⟩) 16 c1)).setCell ⟨B, 2, none⟩ (.slice (some ⟨g2, 0, none⟩) 16 c2)).setCell ⟨B, 3, none⟩ (.slice (some ⟨g3, 0, none⟩) 16 c3)) := by
  obtain ⟨⟨p0, p1, p2, p3⟩, ⟨r0, r1, r2, r3⟩⟩ := h
  simp [go_sem, p0, p1, p2, p3, r0, r1, r2, r3]

theorem store_four {ops : Array Oper} {rest : List Oper} {o : Oper} {a : Act} {Q : Exit → Act → World → Prop} {w : World} (hgd : o.guard = none) (hdst : o.dst = none) (x y : Operand) (ho : o.op = .store 143 x y)
    (B : Nat) (hx : a.eval x = .pointer (some ⟨B, 0, none⟩)) {g0 c0 g1 c1 g2 c2 g3 c3 : Nat} (hy : a.eval y = .agg #[.slice (some ⟨g0, 0, none⟩) 16 c0, .slice (some ⟨g1, 0, none⟩) 16 c1, .slice (some ⟨g2, 0, none⟩) 16 c2, .slice (some ⟨g3, 0, none⟩) 16 c3])
    {a0 a1 a2 a3 : Value} (hrow : Row4 w B a0 a1 a2 a3)
    (h : wpList Tryz.prog ops Q rest a ((((w.setCell ⟨B, 0, none⟩ (.slice (some ⟨g0, 0, none⟩) 16 c0)).setCell ⟨B, 1, none⟩ (.slice (some ⟨g1, 0, none⟩) 16 c1)).setCell ⟨B, 2, none⟩ (.slice (some ⟨g2, 0, none⟩) 16 c2)).setCell ⟨B, 3, none⟩ (.slice (some ⟨g3, 0, none⟩) 16 c3))) :
    wpList Tryz.prog ops Q (o :: rest) a w := by
  refine wpList_plain hgd fun K hK => ?_
  unfold Oper.wp execOp
  simp only [ho, hx, hy, Sem.run_bind, run_store4 w B hrow, Result.andThen_ok, Sem.run_pure]
  refine hK _ _ ?_
  rw [hdst]
  exact h

set_option maxHeartbeats 400000 in
theorem run_load4 (W : World) (B : Nat) {g0 c0 g1 c1 g2 c2 g3 c3 : Nat} (h : Row4 W B (.slice (some ⟨g0, 0, none⟩) 16 c0) (.slice (some ⟨g1, 0, none⟩) 16 c1) (.slice (some ⟨g2, 0, none⟩) 16 c2) (.slice (some ⟨g3, 0, none⟩) 16 c3)) :
    (Instr.loadAt 143 (.pointer (some ⟨B, 0, none⟩))).run Tryz.prog W = .ok (.agg #[.slice (some ⟨g0, 0, none⟩) 16 c0, .slice (some ⟨g1, 0, none⟩) 16 c1, .slice (some ⟨g2, 0, none⟩) 16 c2, .slice (some ⟨g3, 0, none⟩) 16 c3]) W := by
  obtain ⟨⟨p0, p1, p2, p3⟩, -⟩ := h
  simp [go_sem, p0, p1, p2, p3]
theorem load_four {ops : Array Oper} {rest : List Oper} {o : Oper} {a : Act} {Q : Exit → Act → World → Prop} {w : World} (hgd : o.guard = none) (x : Operand) (ho : o.op = .load 143 x)
    (B : Nat) (hx : a.eval x = .pointer (some ⟨B, 0, none⟩)) {g0 c0 g1 c1 g2 c2 g3 c3 : Nat} (hrow : Row4 w B (.slice (some ⟨g0, 0, none⟩) 16 c0) (.slice (some ⟨g1, 0, none⟩) 16 c1) (.slice (some ⟨g2, 0, none⟩) 16 c2) (.slice (some ⟨g3, 0, none⟩) 16 c3))
    (h : wpList Tryz.prog ops Q rest (a.put o.dst (.agg #[.slice (some ⟨g0, 0, none⟩) 16 c0, .slice (some ⟨g1, 0, none⟩) 16 c1, .slice (some ⟨g2, 0, none⟩) 16 c2, .slice (some ⟨g3, 0, none⟩) 16 c3])) w) :
    wpList Tryz.prog ops Q (o :: rest) a w := by
  refine wpList_plain hgd fun K hK => ?_
  unfold Oper.wp execOp
  simp only [ho, hx, Sem.run_bind, run_load4 w B hrow, Result.andThen_ok, Sem.run_pure]
  exact hK _ _ h
end Go.Proofs.YthjlhcmdpeinpaaGreatDoor
