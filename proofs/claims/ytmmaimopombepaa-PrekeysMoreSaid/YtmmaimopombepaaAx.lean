/- slices.Compact at numbers: how long what is left is; the sort of none. -/
import Derived.Test.YtmmaimopombepaaAw
import Derived.Lib.SliceRun
namespace Go.Proofs.Ytmmaimopombepaa
open Go.RowKit
set_option maxRecDepth 100000
theorem grownBy_cellsU (b : Nat) : ∀ (l : List Value) (o : Nat) (w : World), w.grownBy (w.setCells b o l) (some b)
  | [], _, w => World.grownBy.refl w _
  | v :: l, o, w => Lib.grownBy_trans (Lib.grownBy_setCell w b o v) (grownBy_cellsU b l (o + 1) _)
/-- no two neighbours are one -/
def ApartU (d : Array Nat) (n : Nat) : Prop := ∀ i, i + 1 < n → d[i + 1]! ≠ d[i]!
def CoRel (w : World) (blk off n : Nat) (d : Array Nat) (v : Value) (wr : World) : Prop :=
  ∃ (k : Nat) (W : World), W = wr ∧ v = .int .i64 (k : Int) ∧ 1 ≤ k ∧ k ≤ n ∧ SR w wr blk off d ∧ ApartU d k
def Co2Rel (w : World) (blk off n k0 : Nat) (v u : Value) (wr : World) : Prop :=
  ∃ (k k2 : Nat) (dk : Array Nat) (W : World), W = wr ∧ v = .int .i64 (k : Int) ∧ u = .int .i64 (k2 : Int) ∧ 1 ≤ k2 ∧ k2 + k0 ≤ n ∧ k0 ≤ k ∧ k + 1 ≤ k0 + k2 ∧ dk.size = n ∧ SR w wr blk off dk
def CoPost (blk n : Nat) (d : Array Nat) (w : World) (e : Ending) (w' : World) : Prop := ∃ (a : Option Addr) (k c' : Nat), e = .returned (.slice a k c') ∧ w.grownBy w' (some blk) ∧ (ApartU d n ∧ k = n ∨ ¬ ApartU d n ∧ k < n)
set_option maxHeartbeats 8000000 in
theorem compact_any (blk off c n : Nat) (d : Array Nat) (hn : d.size = n) (hc : n ≤ c) (hs : n ≤ 1000) (w : World) (h : RowU w blk off d) :
    Calls Try.prog 90 #[.slice (some ⟨blk, off, none⟩) n c] w fun e w' => CoPost blk n d w e w' := by
  have H := Lib.hid (And.intro hn (SR.refl h))
  have q1 : (n : Int) ≤ 1000 := by omega
  clear h hn
  by_cases h2 : n < 2
  · have h2z : (n : Int) < 2 := by omega
    go_enter Try.func90, Try.ntmps90
    go_wp2_with fail
    go_ret
    exact ⟨_, n, c, rfl, World.grownBy.refl _ _, Or.inl ⟨fun i hi => by omega, rfl⟩⟩
  · have h2z : ¬ (n : Int) < 2 := by omega
    go_enter Try.func90, Try.ntmps90
    go_wp2_with fail
    go_loopw [3] (CoRel w blk off n d) (fun v _ => n - (Lib.intOf v).toNat)
    case atStart => exact ⟨1, _, rfl, rfl, Nat.le_refl _, by omega, H.out.2, fun i hi => by omega⟩
    case round =>
      obtain ⟨k, wr, rfl, rfl, g1, g2, g3, g4⟩ := hrel
      by_cases hkn : k < n
      · have hkz : (k : Int) < (n : Int) := by omega
        obtain ⟨G, hG, hcw, hfw⟩ := g3.row.fam n H.out.1
        have HG := Lib.hid hG
        have Hk := Lib.hid (And.intro g3 g4)
        clear hG g3 g4
        go_wp2_with fail
        go_quiet (fail)
        by_cases heq : G k = G (k - 1)
        · have hez : ((G k : Int) == (G (k - 1) : Int)) = true := by rw [heq]; simp
          have hezp : (G k : Int) = (G (k - 1) : Int) := by rw [heq]
          have hna : ¬ ApartU d n := fun ha => ha (k - 1) (by omega) (by rw [show k - 1 + 1 = k by omega, ← HG.out, ← HG.out]; exact heq)
          go_wp2_with fail
          clear hcw hfw
          go_loopw [3, 5] (Co2Rel w blk off n k) (fun _ u _ => n - (Lib.intOf u).toNat)
          case atStart => exact ⟨k, 1, d, _, rfl, rfl, rfl, Nat.le_refl _, by omega, Nat.le_refl _, by omega, H.out.1, Hk.out.1.drewN _⟩
          case round =>
            clear Hk
            obtain ⟨kk, k2, dk, w2, rfl, rfl, rfl, f1, f2, f3, f4, f5, f6⟩ := hrel
            by_cases hkm : k2 < n - k
            · have hkmz : (k2 : Int) < ((n - k : Nat) : Int) := by omega
              obtain ⟨G2, hG2, hcw, hfw⟩ := f6.row.fam n f5
              have HG2 := Lib.hid hG2
              have Hd := Lib.hid (And.intro f5 f6)
              have hk2n : k + k2 < n := by omega
              have hkkn : kk < n := by omega
              clear hG2 f5 f6
              go_wp2_with fail
              go_quiet (fail)
              generalize ((G2 (k + k2) : Int) != (G2 (k + (k2 - 1)) : Int)) = bb
              cases bb
              · go_wp2_with fail
                exact ⟨⟨kk, k2 + 1, dk, _, rfl, rfl, by go_num, by omega, by omega, by omega, by omega, Hd.out.1, Hd.out.2.drewN _⟩, by simp [Lib.intOf]; omega⟩
              · have S2 := Lib.hid ((Hd.out.2.drewN nq).set kk (by rw [Hd.out.1]; exact hkkn) (G2 (k + k2)))
                go_wp2_with fail
                exact ⟨⟨kk + 1, k2 + 1, _, _, rfl, by go_num, by go_num, by omega, by omega, by omega, by omega, by rw [Array.size_setIfInBounds]; exact Hd.out.1, S2.out⟩, by simp [Lib.intOf]; omega⟩
            · have hkmz : ¬ (k2 : Int) < ((n - k : Nat) : Int) := by omega
              have hkkn : kk < n := by omega
              have hkkz : (kk : Int) < (n : Int) := by omega
              have hrc := fun ty => Lib.run_clear_slice (P := Try.prog) w2 119 23 ty (.int .u64 0) Try.underlying119 (fun W => by kernel_rfl) rfl rfl blk (off + kk) (n - kk) (c - kk) (by omega)
                (fun j hj => by rw [show off + kk + j = off + (kk + j) by omega, f6.row.cell (kk + j) (by omega)]; rfl) (fun j _ => f6.row.frozen _)
              have HE := Lib.hid (Lib.grownBy_trans f6.gr (grownBy_cellsU blk (List.replicate (n - kk) (.int .u64 0)) (off + kk) w2))
              clear f5 f6
              go_wp2_with fail
              go_ret
              exact ⟨_, kk, c, rfl, HE.out, Or.inr ⟨hna, hkkn⟩⟩
        · have hez : ((G k : Int) == (G (k - 1) : Int)) = false := by simp; omega
          have hezp : ¬ (G k : Int) = (G (k - 1) : Int) := by omega
          go_wp2_with fail
          refine ⟨⟨k + 1, _, rfl, by go_num, by omega, by omega, Hk.out.1.drewN _, fun i hi => ?_⟩, by simp [Lib.intOf]; omega⟩
          by_cases e : i + 1 = k
          · subst e
            rw [← HG.out, ← HG.out]
            rw [Nat.add_sub_cancel] at heq
            exact heq
          · exact Hk.out.2 i (by omega)
      · have hkz : ¬ (k : Int) < (n : Int) := by omega
        have hkn2 : k = n := by omega
        go_wp2_with fail
        go_ret
        rw [hkn2] at g4
        exact ⟨_, n, c, rfl, g3.gr, Or.inl ⟨g4, rfl⟩⟩
end Go.Proofs.Ytmmaimopombepaa