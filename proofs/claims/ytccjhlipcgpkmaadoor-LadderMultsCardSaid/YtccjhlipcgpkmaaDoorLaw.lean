/- The contracts of the law's own helpers: small, alive, told, Sized. -/
import Derived.Test.YtccjhlipcgpkmaaDoorPow
import Derived.Test.YtccjhlipcgpkmaaDoorLe
namespace Go.Proofs.YtccjhlipcgpkmaaDoor
open Go.RowKit

theorem small_cells (w : World) (n : Int) (t : TypeId) (i : Nat) (hi : i < 32) :
    (w.alloc (.cells #[.int .u8 n, .int .u8 0, .int .u8 0, .int .u8 0, .int .u8 0, .int .u8 0, .int .u8 0, .int .u8 0, .int .u8 0, .int .u8 0, .int .u8 0, .int .u8 0, .int .u8 0, .int .u8 0, .int .u8 0, .int .u8 0, .int .u8 0, .int .u8 0, .int .u8 0, .int .u8 0, .int .u8 0, .int .u8 0, .int .u8 0, .int .u8 0, .int .u8 0, .int .u8 0, .int .u8 0, .int .u8 0, .int .u8 0, .int .u8 0, .int .u8 0, .int .u8 0] t)).cell? ⟨w.heap.size, 0 + i, none⟩ = some (.int .u8 ((n :: List.replicate 31 0).getD i 0)) := by
  rw [World.cell?_alloc_new, Nat.zero_add]
  rcases i with _ | _ | _ | _ | _ | _ | _ | _ | _ | _ | _ | _ | _ | _ | _ | _ | _ | _ | _ | _ | _ | _ | _ | _ | _ | _ | _ | _ | _ | _ | _ | _ | i
  all_goals first | rfl | omega
theorem small_bytes (n : Int) (h0 : 0 ≤ n) (h1 : n < 256) : n :: List.replicate 31 0 = bytesLE 32 n := by
  have e1 : n % 256 = n := by omega
  have e2 : n / 256 = 0 := by omega
  show _ = n % 256 :: bytesLE 31 (n / 256)
  rw [e1, e2]
  rfl

set_option maxHeartbeats 1000000 in
theorem small_any (n : Int) (h0 : 0 ≤ n) (h1 : n < 256) (w : World) :
    Calls Tryd.prog 25 #[.int .u8 n] w fun e w' => e = .returned (.string (leStr n)) ∧ Below w.heap.size w w' := by
  have hmk : ∀ w : World, (Instr.makeSlice 43 (.int .i64 32) (.int .i64 32)).run Tryd.prog w = .ok (.slice (some ⟨w.heap.size, 0, none⟩) 32 32) (w.alloc (.cells #[.int .u8 0, .int .u8 0, .int .u8 0, .int .u8 0, .int .u8 0, .int .u8 0, .int .u8 0, .int .u8 0, .int .u8 0, .int .u8 0, .int .u8 0, .int .u8 0, .int .u8 0, .int .u8 0, .int .u8 0, .int .u8 0, .int .u8 0, .int .u8 0, .int .u8 0, .int .u8 0, .int .u8 0, .int .u8 0, .int .u8 0, .int .u8 0, .int .u8 0, .int .u8 0, .int .u8 0, .int .u8 0, .int .u8 0, .int .u8 0, .int .u8 0, .int .u8 0] 5)) := fun _ => by kernel_rfl
  go_enter Tryd.func25, Tryd.ntmps25
  go_wp2_with fail
  rw [run_convert_bytes_arg (w.alloc _) 43 5 Tryd.underlying43 Tryd.underlying5 w.heap.size 0 32 32 (n :: List.replicate 31 0) rfl (small_cells w n _) 9 Tryd.underlying9]
  rw [small_bytes n h0 h1]
  go_wp2_with fail
  go_ret
  exact ⟨rfl, by go_grown⟩

set_option maxHeartbeats 1000000 in
theorem alive_any (w : World) (hP : PrimeAt w) :
    Calls Tryd.prog 17 #[] w fun e w' => e = .returned (.bool true) ∧ Below w.heap.size w w' := by
  have hlt := hP.lt
  have e42 : (leNum (leStr 6) * leNum (leStr 7)) % Pr = 42 := by
    rw [leNum_leStr 6 (by omega) (by unfold W256; omega), leNum_leStr 7 (by omega) (by unfold W256; omega)]
    unfold Pr; omega
  have hsz := leStr_size 42
  have s32 : ((leStr 42).size : Int) = 32 := by omega
  have hbb : ((32 : Int) == 32) = true := by simp
  have E42 := Lib.hid e42
  clear e42
  go_enter Tryd.func17, Tryd.ntmps17
  go_wp2_with fail
  refine (small_any 6 (by omega) (by omega) _).mono ?_
  rintro e w1 ⟨rfl, hb1⟩
  go_wp2_with fail
  refine (small_any 7 (by omega) (by omega) _).mono ?_
  rintro e w2 ⟨rfl, hb2⟩
  have hB2 : Below w.heap.size w w2 := hb1.trans (hb2.mono hb1.size)
  have hs2 := hB2.size
  clear hb1 hb2
  go_wp2_with fail
  refine (mul_good _ _ (leStr_size 6) (leStr_size 7) _ (hP.below hB2 hlt)).mono ?_
  rintro e w3 ⟨rfl, hb3⟩
  have hB3 : Below w.heap.size w w3 := hB2.trans (hb3.mono hs2)
  have hs3 := hB3.size
  clear hb3 hB2 hs2
  rw [E42.out]
  go_wp2_with fail
  refine (small_any 42 (by omega) (by omega) _).mono ?_
  rintro e w4 ⟨rfl, hb4⟩
  have hB4 : Below w.heap.size w w4 := hB3.trans (hb4.mono hs3)
  clear hb4 hB3 hs3
  go_wp2_with fail
  go_ret
  exact ⟨rfl, hB4⟩

/-- the flag that all calls answered, and the pointer to it that the closure holds -/
def ToldAt (C D : Nat) (w : World) : Prop := w.cell? ⟨C, 0, none⟩ = some (.pointer (some ⟨D, 0, none⟩)) ∧ w.cell? ⟨D, 0, none⟩ = some (.bool true) ∧ w.frozen? ⟨D, 0, none⟩ = false
theorem ToldAt.below {n C D : Nat} {w w' : World} (h : ToldAt C D w) (hb : Below n w w') (hC : C < n) (hD : D < n) : ToldAt C D w' := by
  obtain ⟨h1, h2, h3⟩ := h
  refine ⟨?_, ?_, ?_⟩
  · rw [hb.cell (p := ⟨C, 0, none⟩) hC]; exact h1
  · rw [hb.cell (p := ⟨D, 0, none⟩) hD]; exact h2
  · rw [hb.frozen (p := ⟨D, 0, none⟩) hD]; exact h3

set_option maxHeartbeats 1000000 in
theorem told_good (s : ByteArray) (hs : s.size = 32) (C D : Nat) (w : World) (ht : ToldAt C D w) (hne : C ≠ D) :
    Calls Tryd.prog 45 #[.string s, .int .i64 0, .pointer (some ⟨C, 0, none⟩)] w fun e w' => e = .returned (.string s) ∧ ToldAt C D w' ∧ Below D w w' := by
  obtain ⟨h1, h2, h3⟩ := id ht
  have s32 : (s.size : Int) = 32 := by omega
  have b1 : ((s.size : Int) == 32) = true := by simp [s32]
  have b2 : ((s.size : Int) != 32) = false := by simp [s32]
  clear s32
  have HS := Lib.hid hs
  clear hs
  go_enter Tryd.func45, Tryd.ntmps45
  go_wp2_with fail
  go_region
  go_wp2_with fail
  go_ret
  refine ⟨rfl, ⟨?_, ?_, ?_⟩, ?_⟩
  · rw [World.cell?_drew, World.cell?_setCell_other]
    · exact h1
    · intro e; cases e; exact hne rfl
  · rw [World.cell?_drew, World.cell?_setCell_same _ _ _ h2]
  · simpa using h3
  · exact ((Below.refl D w).setCell (Nat.le_refl D) _).drew

/-- three texts in a row -/
def ThreeAt (w : World) (B : Nat) (s t u : ByteArray) : Prop := w.cell? ⟨B, 0, none⟩ = some (.string s) ∧ w.cell? ⟨B, 1, none⟩ = some (.string t) ∧ w.cell? ⟨B, 2, none⟩ = some (.string u)

set_option maxHeartbeats 1000000 in
theorem sized3_good (s t u : ByteArray) (hs : s.size = 32) (ht : t.size = 32) (hu : u.size = 32) (B : Nat) (w : World) (h3 : ThreeAt w B s t u) :
    Calls Tryd.prog 18 #[.slice (some ⟨B, 0, none⟩) 3 3] w fun e w' => e = .returned (.bool true) ∧ w = w' := by
  obtain ⟨c0, c1, c2⟩ := h3
  have b1 : ((s.size : Int) != 32) = false := by rw [bne_eq_false_iff_eq]; omega
  have b2 : ((t.size : Int) != 32) = false := by rw [bne_eq_false_iff_eq]; omega
  have b3 : ((u.size : Int) != 32) = false := by rw [bne_eq_false_iff_eq]; omega
  clear hs ht hu
  go_enter Tryd.func18, Tryd.ntmps18
  go_wp2_with fail
  refine wp_loop_rounds 4 ?_
  rw [rounds_succ]; go_wp2_with fail
  rw [rounds_succ]; go_wp2_with fail
  rw [rounds_succ]; go_wp2_with fail
  rw [rounds_succ]; go_wp2_with fail
  go_ret
  exact ⟨rfl, rfl⟩

set_option maxHeartbeats 1000000 in
theorem sized3_bad (s t u : ByteArray) (hn : ¬ (s.size = 32 ∧ t.size = 32 ∧ u.size = 32)) (B : Nat) (w : World) (h3 : ThreeAt w B s t u) :
    Calls Tryd.prog 18 #[.slice (some ⟨B, 0, none⟩) 3 3] w fun e w' => e = .returned (.bool false) ∧ w = w' := by
  obtain ⟨c0, c1, c2⟩ := h3
  by_cases hs : s.size = 32
  · have b1 : ((s.size : Int) != 32) = false := by rw [bne_eq_false_iff_eq]; omega
    by_cases ht : t.size = 32
    · have b2 : ((t.size : Int) != 32) = false := by rw [bne_eq_false_iff_eq]; omega
      have b3 : ((u.size : Int) != 32) = true := by
        rw [bne_iff_ne]; intro h; exact hn ⟨hs, ht, by omega⟩
      clear hs ht hn
      go_enter Tryd.func18, Tryd.ntmps18
      go_wp2_with fail
      refine wp_loop_rounds 4 ?_
      rw [rounds_succ]; go_wp2_with fail
      rw [rounds_succ]; go_wp2_with fail
      rw [rounds_succ]; go_wp2_with fail
      go_ret
      exact ⟨rfl, rfl⟩
    · have b2 : ((t.size : Int) != 32) = true := by rw [bne_iff_ne]; omega
      clear hs ht hn
      go_enter Tryd.func18, Tryd.ntmps18
      go_wp2_with fail
      refine wp_loop_rounds 4 ?_
      rw [rounds_succ]; go_wp2_with fail
      rw [rounds_succ]; go_wp2_with fail
      go_ret
      exact ⟨rfl, rfl⟩
  · have b1 : ((s.size : Int) != 32) = true := by rw [bne_iff_ne]; omega
    clear hs hn
    go_enter Tryd.func18, Tryd.ntmps18
    go_wp2_with fail
    refine wp_loop_rounds 4 ?_
    rw [rounds_succ]; go_wp2_with fail
    go_ret
    exact ⟨rfl, rfl⟩
end Go.Proofs.YtccjhlipcgpkmaaDoor
