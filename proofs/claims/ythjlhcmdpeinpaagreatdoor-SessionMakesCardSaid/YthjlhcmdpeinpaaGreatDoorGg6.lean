/- The texts Tell, Pub, one behind the other. -/
import Derived.Test.YthjlhcmdpeinpaaGreatDoorGg5
import Derived.Test.YthjlhcmdpeinpaaGreatDoorGg1
/- The contract of package limb's tell. -/
namespace Go.Proofs.YthjlhcmdpeinpaaGreatDoor
set_option maxRecDepth 100000
open Go.RowKit
def TellPost (x : Int) (w : World) (e : Ending) (w' : World) : Prop := e = .returned (.string (leStr x)) ∧ Below w.heap.size w w'

theorem tell_cells (W : World) (c0 c1 c2 c3 : Int) (t : TypeId) (i : Nat) (hi : i < 32) :
    (W.alloc (.cells #[.int .u8 (c0 % 256), .int .u8 (c0 / 256 % 256), .int .u8 (c0 / 65536 % 256), .int .u8 (c0 / 16777216 % 256), .int .u8 (c0 / 4294967296 % 256), .int .u8 (c0 / 1099511627776 % 256), .int .u8 (c0 / 281474976710656 % 256), .int .u8 (c0 / 72057594037927936 % 256), .int .u8 (c1 % 256), .int .u8 (c1 / 256 % 256), .int .u8 (c1 / 65536 % 256), .int .u8 (c1 / 16777216 % 256), .int .u8 (c1 / 4294967296 % 256), .int .u8 (c1 / 1099511627776 % 256), .int .u8 (c1 / 281474976710656 % 256), .int .u8 (c1 / 72057594037927936 % 256), .int .u8 (c2 % 256), .int .u8 (c2 / 256 % 256), .int .u8 (c2 / 65536 % 256), .int .u8 (c2 / 16777216 % 256), .int .u8 (c2 / 4294967296 % 256), .int .u8 (c2 / 1099511627776 % 256), .int .u8 (c2 / 281474976710656 % 256), .int .u8 (c2 / 72057594037927936 % 256), .int .u8 (c3 % 256), .int .u8 (c3 / 256 % 256), .int .u8 (c3 / 65536 % 256), .int .u8 (c3 / 16777216 % 256), .int .u8 (c3 / 4294967296 % 256), .int .u8 (c3 / 1099511627776 % 256), .int .u8 (c3 / 281474976710656 % 256), .int .u8 (c3 / 72057594037927936 % 256)] t)).cell? ⟨W.heap.size, 0 + i, none⟩ = some (.int .u8 ((tell32 c0 c1 c2 c3).getD i 0)) := by
  rw [World.cell?_alloc_new, Nat.zero_add]
  rcases i with _ | _ | _ | _ | _ | _ | _ | _ | _ | _ | _ | _ | _ | _ | _ | _ | _ | _ | _ | _ | _ | _ | _ | _ | _ | _ | _ | _ | _ | _ | _ | _ | i
  all_goals first | rfl | omega

set_option maxRecDepth 100000 in
set_option maxHeartbeats 4000000 in
theorem ltell_any (va : Value) (x : Int) (hva : Num va x) (w : World) (hP : PrimeAt w) :
    Calls Tryz.prog 167 #[va] w (TellPost (x % Pr) w) := by
  obtain ⟨a0, a1, a2, a3, rfl, ha⟩ := hva
  go_enter Tryz.func167, Tryz.ntmps167
  go_wp2_with fail
  refine (left_in w _ _ _ ⟨_, _, _, _, rfl, ha⟩ hP (by go_grown)).mono ?_
  rintro e w1 ⟨c0, c1, c2, c3, z, rfl, hz, rfl, hb1⟩
  have hN : Blk w1 w.heap.size a0 a1 a2 a3 := Blk.below (Blk.fresh_at _ _ _ _ _ _ _ rfl) hb1 (by simp)
  have hB1 : Below w.heap.size w w1 := Below.trans (by go_grown) (hb1.mono (by simp))
  clear hb1
  have hlt := hN.lt
  obtain ⟨⟨x0, x1, x2, x3⟩, ⟨y0, y1, y2, y3⟩⟩ := id hN
  go_wp2_with fail
  have hN2 := hN.set4 c0 c1 c2 c3
  have hB2 := below_set4 hB1 (Nat.le_refl _) (.int .u64 c0) (.int .u64 c1) (.int .u64 c2) (.int .u64 c3)
  clear x0 x1 x2 x3 y0 y1 y2 y3 hN
  have hsz := size_set4 w1 w.heap.size (.int .u64 c0) (.int .u64 c1) (.int .u64 c2) (.int .u64 c3)
  generalize World.setCell (World.setCell (World.setCell (World.setCell w1 _ _) _ _) _ _) _ _ = W at hN2 hB2 hsz ⊢
  rw [← hsz]
  have hltW := hN2.lt
  clear hsz hlt hB1 hN2
  have i0 : ∀ w : World, (Instr.index 213 (.agg #[.int .u64 c0, .int .u64 c1, .int .u64 c2, .int .u64 c3]) (.int .i64 0)).run Tryz.prog w = .ok (.int .u64 c0) w := fun _ => by kernel_rfl
  have i1 : ∀ w : World, (Instr.index 213 (.agg #[.int .u64 c0, .int .u64 c1, .int .u64 c2, .int .u64 c3]) (.int .i64 1)).run Tryz.prog w = .ok (.int .u64 c1) w := fun _ => by kernel_rfl
  have i2 : ∀ w : World, (Instr.index 213 (.agg #[.int .u64 c0, .int .u64 c1, .int .u64 c2, .int .u64 c3]) (.int .i64 2)).run Tryz.prog w = .ok (.int .u64 c2) w := fun _ => by kernel_rfl
  have i3 : ∀ w : World, (Instr.index 213 (.agg #[.int .u64 c0, .int .u64 c1, .int .u64 c2, .int .u64 c3]) (.int .i64 3)).run Tryz.prog w = .ok (.int .u64 c3) w := fun _ => by kernel_rfl
  refine wp_loop_rounds 5 ?_
  rw [rounds_succ]; go_wp2_with fail
  refine wp_loop_rounds 9 ?_
  rw [rounds_succ]; go_wp2_with fail
  rw [rounds_succ]; go_wp2_with fail
  rw [rounds_succ]; go_wp2_with fail
  rw [rounds_succ]; go_wp2_with fail
  rw [rounds_succ]; go_wp2_with fail
  rw [rounds_succ]; go_wp2_with fail
  rw [rounds_succ]; go_wp2_with fail
  rw [rounds_succ]; go_wp2_with fail
  rw [rounds_succ]; go_wp2_with fail
  rw [rounds_succ]; go_wp2_with fail
  refine wp_loop_rounds 9 ?_
  rw [rounds_succ]; go_wp2_with fail
  rw [rounds_succ]; go_wp2_with fail
  rw [rounds_succ]; go_wp2_with fail
  rw [rounds_succ]; go_wp2_with fail
  rw [rounds_succ]; go_wp2_with fail
  rw [rounds_succ]; go_wp2_with fail
  rw [rounds_succ]; go_wp2_with fail
  rw [rounds_succ]; go_wp2_with fail
  rw [rounds_succ]; go_wp2_with fail
  rw [rounds_succ]; go_wp2_with fail
  refine wp_loop_rounds 9 ?_
  rw [rounds_succ]; go_wp2_with fail
  rw [rounds_succ]; go_wp2_with fail
  rw [rounds_succ]; go_wp2_with fail
  rw [rounds_succ]; go_wp2_with fail
  rw [rounds_succ]; go_wp2_with fail
  rw [rounds_succ]; go_wp2_with fail
  rw [rounds_succ]; go_wp2_with fail
  rw [rounds_succ]; go_wp2_with fail
  rw [rounds_succ]; go_wp2_with fail
  rw [rounds_succ]; go_wp2_with fail
  refine wp_loop_rounds 9 ?_
  rw [rounds_succ]; go_wp2_with fail
  rw [rounds_succ]; go_wp2_with fail
  rw [rounds_succ]; go_wp2_with fail
  rw [rounds_succ]; go_wp2_with fail
  rw [rounds_succ]; go_wp2_with fail
  rw [rounds_succ]; go_wp2_with fail
  rw [rounds_succ]; go_wp2_with fail
  rw [rounds_succ]; go_wp2_with fail
  rw [rounds_succ]; go_wp2_with fail
  rw [rounds_succ]; go_wp2_with fail
  rw [run_convert_bytes_arg (W.alloc _) 94 5 Tryz.underlying94 Tryz.underlying5 W.heap.size 0 32 32 (tell32 c0 c1 c2 c3) rfl (tell_cells W c0 c1 c2 c3 _) 9 Tryz.underlying9]
  rw [tell32_eq hz]
  go_wp2_with fail
  go_ret
  refine ⟨rfl, ?_⟩
  exact hB2.alloc (Nat.le_of_lt hltW) _
end Go.Proofs.YthjlhcmdpeinpaaGreatDoor

/- The contracts of package limb's exported functions Norm, Add, Sub, Mul. -/
namespace Go.Proofs.YthjlhcmdpeinpaaGreatDoor
set_option maxRecDepth 100000
open Go.RowKit
/-- a text and no error, with what lay before left as it was -/
def StrOk (x : Int) (w : World) (e : Ending) (w' : World) : Prop := e = .returned (.tuple #[.string (leStr x), .int .i64 0]) ∧ Below w.heap.size w w'
set_option maxHeartbeats 1000000 in
theorem norm_good (s : ByteArray) (hs : s.size = 32) (w : World) (hP : PrimeAt w) :
    Calls Tryz.prog 132 #[.string s] w (StrOk (leNum s % Pr) w) := by
  go_enter Tryz.func132, Tryz.ntmps132
  go_wp2_with fail
  refine (read_good s hs _).mono ?_
  rintro e w1 ⟨a, b, c, d, rfl, h4, hb1⟩
  have hlt := hP.lt
  have hs1 := hb1.size
  have hP1 : PrimeAt (w1.alloc (.cells #[.int .u64 a, .int .u64 b, .int .u64 c, .int .u64 d] 213)) := hP.below (hb1.alloc hs1 _) hlt
  have HS := Lib.hid hs
  clear hs
  go_wp2_with fail
  refine (ltell_any _ _ ⟨_, _, _, _, rfl, h4⟩ _ hP1).mono ?_
  rintro e w2 ⟨rfl, hb2⟩
  go_wp2_with fail
  go_ret2
  exact ⟨rfl, (hb1.alloc hs1 _).trans (hb2.mono (by simp; omega))⟩

theorem pr_pos : (0 : Int) < Pr := by unfold Pr; omega
theorem plus_left (x y : Int) : (x % Pr + y % Pr) % Pr = (x + y) % Pr := by rw [← Int.add_emod]
theorem minus_left (x y : Int) : (x % Pr + (Pr - y % Pr) % Pr) % Pr = (x - y) % Pr := by
  have h1 := Int.emod_add_mul_ediv x Pr
  have h2 := Int.emod_add_mul_ediv y Pr
  rw [Int.emod_add_emod, Int.add_emod_emod]
  have : x - y = x + (Pr - y % Pr) + Pr * (-1 - y / Pr) := by
    rw [Int.mul_sub, Int.mul_neg, Int.mul_one]; omega
  rw [this, Int.add_mul_emod_self_left]

set_option maxHeartbeats 1000000 in
theorem ofTwo_plus (s t : ByteArray) (hs : s.size = 32) (ht : t.size = 32) (w : World) (hP : PrimeAt w) :
    Calls Tryz.prog 209 #[.string s, .string t, Value.func (Fn.func 210) #[] #[]] w (StrOk ((leNum s + leNum t) % Pr) w) := by
  have HS := Lib.hid hs; have HT := Lib.hid ht
  clear hs ht
  have hlt := hP.lt
  go_enter Tryz.func209, Tryz.ntmps209
  go_wp2_with fail
  refine (read_good s HS.out _).mono ?_
  rintro e w1 ⟨a0, a1, a2, a3, rfl, h4, hb1⟩
  have hs1 := hb1.size
  go_wp2_with fail
  refine (read_good t HT.out _).mono ?_
  rintro e w2 ⟨b0, b1, b2, b3, rfl, g4, hb2⟩
  have hN : Blk w2 w1.heap.size a0 a1 a2 a3 := Blk.below (Blk.fresh _ _ _ _ _ _) hb2 (by simp)
  have hs2 : w1.heap.size < w2.heap.size := hN.lt
  have hB : Below w.heap.size w w2 := (hb1.alloc hs1 _).trans (hb2.mono (by simp; omega))
  clear hb2 hb1
  obtain ⟨⟨x0, x1, x2, x3⟩, -⟩ := id hN
  have hBB := hB.alloc (by omega) (.cells #[.int .u64 b0, .int .u64 b1, .int .u64 b2, .int .u64 b3] 213)
  have hPB := hP.below hBB hlt
  go_wp2_with fail
  refine (plus_any _ _ _ _ ⟨_, _, _, _, rfl, h4⟩ ⟨_, _, _, _, rfl, g4⟩ _ hPB).mono ?_
  rintro e w3 ⟨c0, c1, c2, c3, z, rfl, hz, hzp, hb3⟩
  have hB3 := hBB.trans (hb3.mono (by simp; omega))
  have HZ : Hid (z % Pr = (leNum s + leNum t) % Pr) := by rw [hzp]; exact plus_left _ _
  clear hzp
  go_wp2_with fail
  refine (ltell_any _ _ ⟨_, _, _, _, rfl, hz⟩ _ (hP.below hB3 hlt)).mono ?_
  rintro e w4 ⟨rfl, hb4⟩
  go_wp2_with fail
  go_ret2
  refine ⟨?_, hB3.trans (hb4.mono (by have := hb3.size; simp at this; omega))⟩
  rw [HZ.out]
  rfl
set_option maxHeartbeats 1000000 in
theorem add_good (s t : ByteArray) (hs : s.size = 32) (ht : t.size = 32) (w : World) (hP : PrimeAt w) :
    Calls Tryz.prog 190 #[.string s, .string t] w (StrOk ((leNum s + leNum t) % Pr) w) := by
  go_enter Tryz.func190, Tryz.ntmps190
  go_wp2_with fail
  refine (ofTwo_plus s t hs ht _ hP).mono ?_
  rintro e w1 ⟨rfl, hb1⟩
  go_wp2_with fail
  go_ret2
  exact ⟨rfl, hb1⟩
set_option maxHeartbeats 1000000 in
theorem ofTwo_minus (s t : ByteArray) (hs : s.size = 32) (ht : t.size = 32) (w : World) (hP : PrimeAt w) :
    Calls Tryz.prog 209 #[.string s, .string t, Value.func (Fn.func 211) #[] #[]] w (StrOk ((leNum s - leNum t) % Pr) w) := by
  have HS := Lib.hid hs; have HT := Lib.hid ht
  clear hs ht
  have hlt := hP.lt
  go_enter Tryz.func209, Tryz.ntmps209
  go_wp2_with fail
  refine (read_good s HS.out _).mono ?_
  rintro e w1 ⟨a0, a1, a2, a3, rfl, h4, hb1⟩
  have hs1 := hb1.size
  go_wp2_with fail
  refine (read_good t HT.out _).mono ?_
  rintro e w2 ⟨b0, b1, b2, b3, rfl, g4, hb2⟩
  have hN : Blk w2 w1.heap.size a0 a1 a2 a3 := Blk.below (Blk.fresh _ _ _ _ _ _) hb2 (by simp)
  have hs2 : w1.heap.size < w2.heap.size := hN.lt
  have hB : Below w.heap.size w w2 := (hb1.alloc hs1 _).trans (hb2.mono (by simp; omega))
  clear hb2 hb1
  obtain ⟨⟨x0, x1, x2, x3⟩, -⟩ := id hN
  have hBB := hB.alloc (by omega) (.cells #[.int .u64 b0, .int .u64 b1, .int .u64 b2, .int .u64 b3] 213)
  have hPB := hP.below hBB hlt
  go_wp2_with fail
  refine (minus_any _ _ _ _ ⟨_, _, _, _, rfl, h4⟩ ⟨_, _, _, _, rfl, g4⟩ _ hPB).mono ?_
  rintro e w3 ⟨c0, c1, c2, c3, z, rfl, hz, hzp, hb3⟩
  have hB3 := hBB.trans (hb3.mono (by simp; omega))
  have HZ : Hid (z % Pr = (leNum s - leNum t) % Pr) := by rw [hzp]; exact minus_left _ _
  clear hzp
  go_wp2_with fail
  refine (ltell_any _ _ ⟨_, _, _, _, rfl, hz⟩ _ (hP.below hB3 hlt)).mono ?_
  rintro e w4 ⟨rfl, hb4⟩
  go_wp2_with fail
  go_ret2
  refine ⟨?_, hB3.trans (hb4.mono (by have := hb3.size; simp at this; omega))⟩
  rw [HZ.out]
  rfl
set_option maxHeartbeats 1000000 in
theorem sub_good (s t : ByteArray) (hs : s.size = 32) (ht : t.size = 32) (w : World) (hP : PrimeAt w) :
    Calls Tryz.prog 191 #[.string s, .string t] w (StrOk ((leNum s - leNum t) % Pr) w) := by
  go_enter Tryz.func191, Tryz.ntmps191
  go_wp2_with fail
  refine (ofTwo_minus s t hs ht _ hP).mono ?_
  rintro e w1 ⟨rfl, hb1⟩
  go_wp2_with fail
  go_ret2
  exact ⟨rfl, hb1⟩
set_option maxHeartbeats 1000000 in
theorem ofTwo_times (s t : ByteArray) (hs : s.size = 32) (ht : t.size = 32) (w : World) (hP : PrimeAt w) :
    Calls Tryz.prog 209 #[.string s, .string t, Value.func (Fn.func 212) #[] #[]] w (StrOk ((leNum s * leNum t) % Pr) w) := by
  have HS := Lib.hid hs; have HT := Lib.hid ht
  clear hs ht
  have hlt := hP.lt
  go_enter Tryz.func209, Tryz.ntmps209
  go_wp2_with fail
  refine (read_good s HS.out _).mono ?_
  rintro e w1 ⟨a0, a1, a2, a3, rfl, h4, hb1⟩
  have hs1 := hb1.size
  go_wp2_with fail
  refine (read_good t HT.out _).mono ?_
  rintro e w2 ⟨b0, b1, b2, b3, rfl, g4, hb2⟩
  have hN : Blk w2 w1.heap.size a0 a1 a2 a3 := Blk.below (Blk.fresh _ _ _ _ _ _) hb2 (by simp)
  have hs2 : w1.heap.size < w2.heap.size := hN.lt
  have hB : Below w.heap.size w w2 := (hb1.alloc hs1 _).trans (hb2.mono (by simp; omega))
  clear hb2 hb1
  obtain ⟨⟨x0, x1, x2, x3⟩, -⟩ := id hN
  have hBB := hB.alloc (by omega) (.cells #[.int .u64 b0, .int .u64 b1, .int .u64 b2, .int .u64 b3] 213)
  have hPB := hP.below hBB hlt
  go_wp2_with fail
  refine (times_any _ _ _ _ ⟨_, _, _, _, rfl, h4⟩ ⟨_, _, _, _, rfl, g4⟩ _).mono ?_
  rintro e w3 ⟨c0, c1, c2, c3, z, rfl, hz, hzp, hb3⟩
  have hB3 := hBB.trans (hb3.mono (by simp; omega))
  have HZ : Hid (z % Pr = (leNum s * leNum t) % Pr) := by exact hzp
  clear hzp
  go_wp2_with fail
  refine (ltell_any _ _ ⟨_, _, _, _, rfl, hz⟩ _ (hP.below hB3 hlt)).mono ?_
  rintro e w4 ⟨rfl, hb4⟩
  go_wp2_with fail
  go_ret2
  refine ⟨?_, hB3.trans (hb4.mono (by have := hb3.size; simp at this; omega))⟩
  rw [HZ.out]
  rfl
set_option maxHeartbeats 1000000 in
theorem mul_good (s t : ByteArray) (hs : s.size = 32) (ht : t.size = 32) (w : World) (hP : PrimeAt w) :
    Calls Tryz.prog 192 #[.string s, .string t] w (StrOk ((leNum s * leNum t) % Pr) w) := by
  go_enter Tryz.func192, Tryz.ntmps192
  go_wp2_with fail
  refine (ofTwo_times s t hs ht _ hP).mono ?_
  rintro e w1 ⟨rfl, hb1⟩
  go_wp2_with fail
  go_ret2
  exact ⟨rfl, hb1⟩
end Go.Proofs.YthjlhcmdpeinpaaGreatDoor
