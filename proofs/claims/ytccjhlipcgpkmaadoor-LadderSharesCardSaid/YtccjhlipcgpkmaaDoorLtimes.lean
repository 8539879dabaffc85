/- A point times a key: the ladder's rounds, one for each bit. -/
import Derived.Test.YtccjhlipcgpkmaaDoorLbits
import Derived.Test.YtccjhlipcgpkmaaDoorLclimb
namespace Go.Proofs.YtccjhlipcgpkmaaDoor
open Go.RowKit Go.PlainAid Go.Shelf

attribute [local go_sem] Oper.semAt_some

/-- the ladder's numbers -/
structure Lad where
  x2 : Int
  z2 : Int
  x3 : Int
  z3 : Int
def Lad.swap (b : Bool) (l : Lad) : Lad := if b then ⟨l.x3, l.z3, l.x2, l.z2⟩ else l
def Lad.step (u : Int) (l : Lad) : Lad := ⟨nX2 l.x2 l.z2, nZ2 l.x2 l.z2, nX3 l.x2 l.z2 l.x3 l.z3, nZ3 u l.x2 l.z2 l.x3 l.z3⟩
def Lad.round (u : Int) (l : Lad) (b : Bool) : Lad := ((l.swap b).step u).swap b
def Lad.run (u : Int) (bs : List Bool) : Lad := bs.foldl (Lad.round u) ⟨1, 0, u, 1⟩
theorem Lad.run_snoc (u : Int) (bs : List Bool) (b : Bool) : Lad.run u (bs ++ [b]) = (Lad.run u bs).round u b := by simp [Lad.run]
def Lad.ok (l : Lad) : Prop := Rd l.x2 ∧ Rd l.z2 ∧ Rd l.x3 ∧ Rd l.z3
theorem Lad.ok_round {u : Int} (l : Lad) (b : Bool) : (l.round u b).ok := by
  cases b <;> exact ⟨Rd.mod _, Rd.mod _, Rd.mod _, Rd.mod _⟩
theorem Lad.ok_run {u : Int} (hu : Rd u) (bs : List Bool) : (Lad.run u bs).ok := by
  unfold Lad.run
  suffices h : ∀ (bs : List Bool) (l : Lad), l.ok → (bs.foldl (Lad.round u) l).ok from h bs _ ⟨Rd.lit (n := 1) (by omega) (by omega), Rd.lit (n := 0) (by omega) (by omega), hu, Rd.lit (n := 1) (by omega) (by omega)⟩
  intro bs
  induction bs with
  | nil => exact fun l h => h
  | cons b bs ih => exact fun l _ => ih _ (Lad.ok_round l b)
/-- the number that the ladder ends in -/
def ladOut (u : Int) (bs : List Bool) : Int := ((Lad.run u bs).x2 * ((Lad.run u bs).z2 ^ ExpN % Pr)) % Pr
/-- the five numbers in their block -/
def LadAt (w : World) (B : Nat) (u : Int) (l : Lad) : Prop := Row5 w B (leStr u) (leStr l.x2) (leStr l.z2) (leStr l.x3) (leStr l.z3)

set_option maxHeartbeats 1000000 in
theorem bits_any (s : ByteArray) (w : World) :
    Calls Tryd.prog 61 #[.string s] w fun e w' => e = .returned (.func (.func 69) #[] #[.pointer (some ⟨w.heap.size, 0, none⟩)]) ∧ w' = w.alloc (.cells #[.string s] 9) := by
  go_enter Tryd.func61, Tryd.ntmps61
  go_wp2_with fail
  go_ret
  exact ⟨rfl, rfl⟩

theorem changed0 (u x2 z2 x3 z3 : Int) (w : World) :
    Calls Tryd.prog 62 #[.agg #[.string (leStr u), .string (leStr x2), .string (leStr z2), .string (leStr x3), .string (leStr z3)], .int .u8 0] w fun e w' =>
      e = .returned (.agg #[.string (leStr u), .string (leStr x2), .string (leStr z2), .string (leStr x3), .string (leStr z3)]) ∧ Below w.heap.size w w' := changed_any u x2 z2 x3 z3 w false
theorem changed1 (u x2 z2 x3 z3 : Int) (w : World) :
    Calls Tryd.prog 62 #[.agg #[.string (leStr u), .string (leStr x2), .string (leStr z2), .string (leStr x3), .string (leStr z3)], .int .u8 1] w fun e w' =>
      e = .returned (.agg #[.string (leStr u), .string (leStr x3), .string (leStr z3), .string (leStr x2), .string (leStr z2)]) ∧ Below w.heap.size w w' := changed_any u x2 z2 x3 z3 w true
theorem below_keeps {W W' : World} (hb : Below W.heap.size W W') : KeepsOthers W W' := ⟨hb.size, fun k o h _ => by rw [hb.block k (Array.getElem?_eq_some_iff.1 h).1]; exact h⟩
theorem keeps_set5 {W0 W : World} (h : KeepsOthers W0 W) (B : Nat) (p q r s t : Value) :
    KeepsOthers W0 (((((W.setCell ⟨B, 0, none⟩ p).setCell ⟨B, 1, none⟩ q).setCell ⟨B, 2, none⟩ r).setCell ⟨B, 3, none⟩ s).setCell ⟨B, 4, none⟩ t) :=
  ((((h.trans (KeepsOthers.setCell _ _ _)).trans (KeepsOthers.setCell _ _ _)).trans (KeepsOthers.setCell _ _ _)).trans (KeepsOthers.setCell _ _ _)).trans (KeepsOthers.setCell _ _ _)
theorem cell_far5 (w : World) {n X : Nat} (h : n ≠ X) (o : Nat) (p q r s t : Value) :
    (((((w.setCell ⟨n, 0, none⟩ p).setCell ⟨n, 1, none⟩ q).setCell ⟨n, 2, none⟩ r).setCell ⟨n, 3, none⟩ s).setCell ⟨n, 4, none⟩ t).cell? ⟨X, o, none⟩ = w.cell? ⟨X, o, none⟩ := by
  have key : ∀ (v : World) (k : Nat) (u : Value), (v.setCell ⟨n, k, none⟩ u).cell? ⟨X, o, none⟩ = v.cell? ⟨X, o, none⟩ := fun v k u => by
    rw [World.cell?_setCell_other]; intro e; cases e; exact h rfl
  rw [key, key, key, key, key]

set_option maxRecDepth 100000 in
set_option maxHeartbeats 2000000 in
theorem ladder_times (s : ByteArray) (hs : s.size = 32) {u : Int} (hu : Rd u) (w : World) (hP : PrimeAt w) :
    Calls Tryd.prog 47 #[.string s, .string (leStr u)] w (Tells (ladOut u (bitsUp s 255)) w) := by
  refine (callsIn_wide (n := 3)).1 ?_
  have lb := hP.lt
  refine callsIn_of_wp_marks Tryd.func47 rfl trivial ?_ rfl
  simp only [Tryd.ntmps47, List.size_toArray, List.length_cons, List.length_nil, Nat.reduceAdd, Nat.reduceSub, Array.replicate_succ, Array.replicate_zero, List.push_toArray, List.append_toArray, List.nil_append, List.cons_append]
  gi_wp2_with (first
    | (refine ⟨trivial, ?_⟩; gi_at_call 60; refine (callsIn_wide.2 (start_any u _)).mono ?_; rintro e w1 ⟨rfl, hb1⟩; have hs1 := hb1.size)
    | (refine ⟨trivial, ?_⟩; gi_at_call 61; refine (callsIn_wide.2 (bits_any s _)).mono ?_; rintro e w2 ⟨rfl, rfl⟩))
  have hb2 : Below w.heap.size w ((w1.alloc (.cells #[.string (leStr u), .string (leStr 1), .string (leStr 0), .string (leStr u), .string (leStr 1)] 76)).alloc (.cells #[.string s] 9)) := (hb1.alloc hb1.size _).alloc (by simp; omega) _
  have hR0 : LadAt ((w1.alloc (.cells #[.string (leStr u), .string (leStr 1), .string (leStr 0), .string (leStr u), .string (leStr 1)] 76)).alloc (.cells #[.string s] 9)) w1.heap.size u (Lad.run u []) := (Row5.fresh w1 _ _ _ _ _ _).alloc _
  have hc0 : ((w1.alloc (.cells #[.string (leStr u), .string (leStr 1), .string (leStr 0), .string (leStr u), .string (leStr 1)] 76)).alloc (.cells #[.string s] 9)).cell? ⟨w1.heap.size + 1, 0, none⟩ = some (.string s) := by simp
  have hsz : ((w1.alloc (.cells #[.string (leStr u), .string (leStr 1), .string (leStr 0), .string (leStr u), .string (leStr 1)] 76)).alloc (.cells #[.string s] 9)).heap.size = w1.heap.size + 1 + 1 := by simp
  generalize World.alloc (World.alloc w1 _) _ = W0 at hb2 hR0 hc0 hsz ⊢
  refine wpIn_rangeFunc_ownF rfl (by omega) (gf := 69) (lb := #[.pointer (some ⟨w1.heap.size + 1, 0, none⟩)]) rfl trivial (enters_of Tryd.func69 (by kernel_rfl) rfl)
    (bits1_stops Fence.wide (3 - 1) trivial rfl (by omega) s hs (w1.heap.size + 1) W0 (by omega) hc0) (fun h h' => h'.trans h) ?keepb (Below.refl _ _) (fun _ => rfl)
    (fun pre W => (LadAt W w1.heap.size u (Lad.run u pre) ∧ W.cell? ⟨w1.heap.size + 1, 0, none⟩ = some (.string s)) ∧ Below w.heap.size w W)
    (fun _ _ _ => False)
    (OwnFrom.and (OwnFrom.and (Own.from (fun t A B row ht hg hr => ⟨⟨cell_kept ht.1.1 hg hr, cell_kept ht.1.2.1 hg hr, cell_kept ht.1.2.2.1 hg hr, cell_kept ht.1.2.2.2.1 hg hr, cell_kept ht.1.2.2.2.2 hg hr⟩, ⟨(frozen_kept ht.1.1 hg hr).trans ht.2.1, (frozen_kept ht.1.2.1 hg hr).trans ht.2.2.1, (frozen_kept ht.1.2.2.1 hg hr).trans ht.2.2.2.1, (frozen_kept ht.1.2.2.2.1 hg hr).trans ht.2.2.2.2.1, (frozen_kept ht.1.2.2.2.2 hg hr).trans ht.2.2.2.2.2⟩⟩) _) (Own.from (fun t A B row ht hg hr => cell_kept ht hg hr) _)) (ownFrom_below (Nat.le_refl _) (by omega)))
    (fun _ _ _ _ _ hs _ _ => hs)
    ⟨⟨hR0, hc0⟩, hb2⟩
    (fun b => { tmps := #[.string s, .string (leStr u), undef, undef, .string ⟨#[]⟩, .pointer (some ⟨w1.heap.size, 0, none⟩), .int .u8 (bitV b), .string (leStr u), .agg #[.string (leStr u), .string (leStr 1), .string (leStr 0), .string (leStr u), .string (leStr 1)], .string s, .func (.func 69) #[] #[.pointer (some ⟨w1.heap.size + 1, 0, none⟩)], .int .u8 (bitV b), undef, undef, undef, undef, undef, undef, undef, undef], defers := [] }) ?assign ?body ?done ?stop
  case keepb =>
    intro W l o o' hl ho hc hw
    exact (belowK_b (n₀ := W0.heap.size) (w := W0) (Nat.le_refl _) W l o o' hl ho hc hw).cell (p := ⟨w1.heap.size + 1, 0, none⟩) (show w1.heap.size + 1 < W0.heap.size by omega)
  case assign =>
    intro l x W K hK
    gi_wp2
    exact hK
  case body =>
    rintro l pre x W ⟨⟨hR, hcell⟩, hB⟩ _
    have hok := Lad.ok_run hu pre
    have hPW := hP.below hB lb
    have hrun := Lad.run_snoc u pre x
    generalize Lad.run u pre = L at hR hok hrun
    obtain ⟨x2, z2, x3, z3⟩ := L
    obtain ⟨h2, h2', h3, h3'⟩ := hok
    change Row5 W w1.heap.size (leStr u) (leStr x2) (leStr z2) (leStr x3) (leStr z3) at hR
    change Rd x2 at h2
    change Rd z2 at h2'
    change Rd x3 at h3
    change Rd z3 at h3'
    clear hb2 hR0 hc0
    cases x with
    | false =>
      simp only [bitV, Bool.false_eq_true, if_false]
      obtain ⟨⟨c0, c1, c2, c3, c4⟩, -⟩ := id hR
      gi_wp2
      refine ⟨trivial, ?_⟩
      refine (CallsIn.inRound l (callsIn_wide.2 (changed0 u x2 z2 x3 z3 W))).mono ?_
      rintro e W1 ⟨rfl, hb1'⟩
      have hP1 := hPW.below hb1' hPW.lt
      gi_wp2
      refine ⟨trivial, ?_⟩
      refine (CallsIn.inRound l (callsIn_wide.2 (step_any hu h2 h2' h3 h3' W1 hP1))).mono ?_
      rintro e W2 ⟨rfl, hb2'⟩
      have hb2'' := hb1'.trans (hb2'.mono hb1'.size)
      gi_wp2
      refine ⟨trivial, ?_⟩
      refine (CallsIn.inRound l (callsIn_wide.2 (changed0 u (nX2 x2 z2) (nZ2 x2 z2) (nX3 x2 z2 x3 z3) (nZ3 u x2 z2 x3 z3) W2))).mono ?_
      rintro e W3 ⟨rfl, hb3'⟩
      have hb3 := hb2''.trans (hb3'.mono hb2''.size)
      have hR3 := Row5.on hR hb3
      have hS := hR3.set (leStr u) (leStr (nX2 x2 z2)) (leStr (nZ2 x2 z2)) (leStr (nX3 x2 z2 x3 z3)) (leStr (nZ3 u x2 z2 x3 z3))
      have hK3 := keeps_set5 (below_keeps hb3) w1.heap.size (.string (leStr u)) (.string (leStr (nX2 x2 z2))) (.string (leStr (nZ2 x2 z2))) (.string (leStr (nX3 x2 z2 x3 z3))) (.string (leStr (nZ3 u x2 z2 x3 z3)))
      have hB3 := below_set5 (hB.trans (hb3.mono hB.size)) (B := w1.heap.size) hs1 (.string (leStr u)) (.string (leStr (nX2 x2 z2))) (.string (leStr (nZ2 x2 z2))) (.string (leStr (nX3 x2 z2 x3 z3))) (.string (leStr (nZ3 u x2 z2 x3 z3)))
      have hk3 : W3.cell? ⟨w1.heap.size + 1, 0, none⟩ = some (.string s) := (hb3.cell (p := ⟨w1.heap.size + 1, 0, none⟩) (World.block_lt_of_cell? W _ hcell)).trans hcell
      have hf3 := (cell_far5 W3 (show w1.heap.size ≠ w1.heap.size + 1 by omega) 0 (.string (leStr u)) (.string (leStr (nX2 x2 z2))) (.string (leStr (nZ2 x2 z2))) (.string (leStr (nX3 x2 z2 x3 z3))) (.string (leStr (nZ3 u x2 z2 x3 z3)))).trans hk3
      clear hb1' hb2' hb3' hb2'' hR c0 c1 c2 c3 c4 hP1
      obtain ⟨⟨c0, c1, c2, c3, c4⟩, ⟨f0, f1, f2, f3, f4⟩⟩ := id hR3
      have hlt3 := Row5.lt hR3
      gi_wp2
      refine ⟨hK3, hf3.trans hcell.symm, ⟨?_, hf3⟩, hB3⟩
      rw [hrun]
      exact hS
    | true =>
      simp only [bitV, if_true]
      obtain ⟨⟨c0, c1, c2, c3, c4⟩, -⟩ := id hR
      gi_wp2
      refine ⟨trivial, ?_⟩
      refine (CallsIn.inRound l (callsIn_wide.2 (changed1 u x2 z2 x3 z3 W))).mono ?_
      rintro e W1 ⟨rfl, hb1'⟩
      have hP1 := hPW.below hb1' hPW.lt
      gi_wp2
      refine ⟨trivial, ?_⟩
      refine (CallsIn.inRound l (callsIn_wide.2 (step_any hu h3 h3' h2 h2' W1 hP1))).mono ?_
      rintro e W2 ⟨rfl, hb2'⟩
      have hb2'' := hb1'.trans (hb2'.mono hb1'.size)
      gi_wp2
      refine ⟨trivial, ?_⟩
      refine (CallsIn.inRound l (callsIn_wide.2 (changed1 u (nX2 x3 z3) (nZ2 x3 z3) (nX3 x3 z3 x2 z2) (nZ3 u x3 z3 x2 z2) W2))).mono ?_
      rintro e W3 ⟨rfl, hb3'⟩
      have hb3 := hb2''.trans (hb3'.mono hb2''.size)
      have hR3 := Row5.on hR hb3
      have hS := hR3.set (leStr u) (leStr (nX3 x3 z3 x2 z2)) (leStr (nZ3 u x3 z3 x2 z2)) (leStr (nX2 x3 z3)) (leStr (nZ2 x3 z3))
      have hK3 := keeps_set5 (below_keeps hb3) w1.heap.size (.string (leStr u)) (.string (leStr (nX3 x3 z3 x2 z2))) (.string (leStr (nZ3 u x3 z3 x2 z2))) (.string (leStr (nX2 x3 z3))) (.string (leStr (nZ2 x3 z3)))
      have hB3 := below_set5 (hB.trans (hb3.mono hB.size)) (B := w1.heap.size) hs1 (.string (leStr u)) (.string (leStr (nX3 x3 z3 x2 z2))) (.string (leStr (nZ3 u x3 z3 x2 z2))) (.string (leStr (nX2 x3 z3))) (.string (leStr (nZ2 x3 z3)))
      have hk3 : W3.cell? ⟨w1.heap.size + 1, 0, none⟩ = some (.string s) := (hb3.cell (p := ⟨w1.heap.size + 1, 0, none⟩) (World.block_lt_of_cell? W _ hcell)).trans hcell
      have hf3 := (cell_far5 W3 (show w1.heap.size ≠ w1.heap.size + 1 by omega) 0 (.string (leStr u)) (.string (leStr (nX3 x3 z3 x2 z2))) (.string (leStr (nZ3 u x3 z3 x2 z2))) (.string (leStr (nX2 x3 z3))) (.string (leStr (nZ2 x3 z3)))).trans hk3
      clear hb1' hb2' hb3' hb2'' hR c0 c1 c2 c3 c4 hP1
      obtain ⟨⟨c0, c1, c2, c3, c4⟩, ⟨f0, f1, f2, f3, f4⟩⟩ := id hR3
      have hlt3 := Row5.lt hR3
      gi_wp2
      refine ⟨hK3, hf3.trans hcell.symm, ⟨?_, hf3⟩, hB3⟩
      rw [hrun]
      exact hS
  case done =>
    rintro D ys W hD rfl ⟨⟨hR, hcell⟩, hB⟩ hK
    have hok := Lad.ok_run hu (bitsUp s 255)
    have hPW := hP.below hB lb
    clear hb2 hR0 hc0
    have hlo : ladOut u (bitsUp s 255) = ((Lad.run u (bitsUp s 255)).x2 * ((Lad.run u (bitsUp s 255)).z2 ^ ExpN % Pr)) % Pr := rfl
    generalize Lad.run u (bitsUp s 255) = L at hR hok hlo
    obtain ⟨x2, z2, x3, z3⟩ := L
    obtain ⟨h2, h2', h3, h3'⟩ := hok
    change Row5 W w1.heap.size (leStr u) (leStr x2) (leStr z2) (leStr x3) (leStr z3) at hR
    obtain ⟨⟨c0, c1, c2, c3, c4⟩, -⟩ := id hR
    gi_wp2
    refine ⟨trivial, ?_⟩
    refine (callsIn_wide.2 (point_any h2 h2' W hPW)).mono ?_
    rintro e W1 ⟨rfl, hb⟩
    have hK1 : W1.heap[D]? = some (.deferred (some [])) := by rw [hb.block D (Array.getElem?_eq_some_iff.1 hK).1]; exact hK
    have hB1 := hB.trans (hb.mono hB.size)
    gi_wp2
    refine ⟨by simp, .inl ⟨_, _, rfl, run_takeDeferred hK1, ?_⟩⟩
    exact ⟨_, results_tmp rfl _ _ _, (by rw [hlo]; rfl), hB1.trans (belowK_b (w := w) (Nat.le_refl _) W1 D _ _ (by omega) hK1 rfl rfl)⟩
  case stop =>
    rintro D c pre W _ _ h _
    exact h.elim
end Go.Proofs.YtccjhlipcgpkmaaDoor
