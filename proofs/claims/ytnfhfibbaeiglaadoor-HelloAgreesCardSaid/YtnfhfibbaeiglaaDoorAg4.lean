/- The texts Read, Tell, Pub, one behind the other. -/
import Derived.Test.YtnfhfibbaeiglaaDoorAg3
import Derived.PlainAid
import Derived.Deep.QuietTactic
import Derived.BigQuiet
import Derived.Test.YtnfhfibbaeiglaaDoorAg1
/- The contracts of package limb: wordOf, read. -/
namespace Go.Proofs.YtnfhfibbaeiglaaDoor
set_option maxRecDepth 100000
open Go.RowKit Go.PlainAid
theorem or_join (i : Nat) (x y m : Int) (hm : m = ((2 ^ i : Nat) : Int)) (hx0 : 0 ≤ x) (hx : x < m) (hy0 : 0 ≤ y) (hy : y ≤ 255) (hb : 256 * m ≤ 18446744073709551616) :
    bits .or .u64 x (IntKind.u64.wrap (IntKind.u64.wrap y * m)) = x + y * m := by
  obtain ⟨X, rfl⟩ := Int.eq_ofNat_of_zero_le hx0
  obtain ⟨Y, rfl⟩ := Int.eq_ofNat_of_zero_le hy0
  have e1 : IntKind.u64.wrap (Y : Int) = (Y : Int) := by rw [IntKind.wrap_u64]; omega
  have hYm : (Y : Int) * m ≤ 255 * m := Int.mul_le_mul_of_nonneg_right hy (by omega)
  have hY0 : 0 ≤ (Y : Int) * m := Int.mul_nonneg (by omega) (by omega)
  have e2 : IntKind.u64.wrap ((Y : Int) * m) = (Y : Int) * m := by rw [IntKind.wrap_u64]; omega
  rw [e1, e2]
  subst hm
  have e3 : (Y : Int) * ((2 ^ i : Nat) : Int) = ((Y * 2 ^ i : Nat) : Int) := (Int.natCast_mul _ _).symm
  rw [e3] at hYm hY0 ⊢
  rw [u64_or_nat X (Y * 2 ^ i) (by omega) (by omega), Nat.or_comm, nat_join i (Y * 2 ^ i) X (Nat.mul_mod_left _ _) (by omega)]
  omega

/-- the number that eight bytes tell -/
def word8 (s : ByteArray) : Int := bt s 0 + bt s 1 * 256 + bt s 2 * 65536 + bt s 3 * 16777216 + bt s 4 * 4294967296 + bt s 5 * 1099511627776 + bt s 6 * 281474976710656 + bt s 7 * 72057594037927936

theorem word_math (s : ByteArray) :
    bits .or .u64 (bits .or .u64 (bits .or .u64 (bits .or .u64 (bits .or .u64 (bits .or .u64 (bits .or .u64 (IntKind.u64.wrap (bt s 0)) (IntKind.u64.wrap (IntKind.u64.wrap (bt s 1) * 256)))
      (IntKind.u64.wrap (IntKind.u64.wrap (bt s 2) * 65536))) (IntKind.u64.wrap (IntKind.u64.wrap (bt s 3) * 16777216))) (IntKind.u64.wrap (IntKind.u64.wrap (bt s 4) * 4294967296)))
      (IntKind.u64.wrap (IntKind.u64.wrap (bt s 5) * 1099511627776))) (IntKind.u64.wrap (IntKind.u64.wrap (bt s 6) * 281474976710656))) (IntKind.u64.wrap (IntKind.u64.wrap (bt s 7) * 72057594037927936)) = word8 s := by
  have a0 := bt_nonneg s 0; have a1 := bt_nonneg s 1; have a2 := bt_nonneg s 2; have a3 := bt_nonneg s 3; have a4 := bt_nonneg s 4; have a5 := bt_nonneg s 5; have a6 := bt_nonneg s 6; have a7 := bt_nonneg s 7
  have b0 := bt_le s 0; have b1 := bt_le s 1; have b2 := bt_le s 2; have b3 := bt_le s 3; have b4 := bt_le s 4; have b5 := bt_le s 5; have b6 := bt_le s 6; have b7 := bt_le s 7
  have e : IntKind.u64.wrap (bt s 0) = bt s 0 := by rw [IntKind.wrap_u64]; omega
  unfold word8
  rw [e, or_join 8 (bt s 0) (bt s 1) 256 (by decide) (by omega) (by omega) (by omega) (by omega) (by omega)]
  rw [or_join 16 _ (bt s 2) 65536 (by decide) (by omega) (by omega) (by omega) (by omega) (by omega)]
  rw [or_join 24 _ (bt s 3) 16777216 (by decide) (by omega) (by omega) (by omega) (by omega) (by omega)]
  rw [or_join 32 _ (bt s 4) 4294967296 (by decide) (by omega) (by omega) (by omega) (by omega) (by omega)]
  rw [or_join 40 _ (bt s 5) 1099511627776 (by decide) (by omega) (by omega) (by omega) (by omega) (by omega)]
  rw [or_join 48 _ (bt s 6) 281474976710656 (by decide) (by omega) (by omega) (by omega) (by omega) (by omega)]
  rw [or_join 56 _ (bt s 7) 72057594037927936 (by decide) (by omega) (by omega) (by omega) (by omega) (by omega)]

theorem word8_U (s : ByteArray) : U (word8 s) := by
  have a0 := bt_nonneg s 0; have a1 := bt_nonneg s 1; have a2 := bt_nonneg s 2; have a3 := bt_nonneg s 3; have a4 := bt_nonneg s 4; have a5 := bt_nonneg s 5; have a6 := bt_nonneg s 6; have a7 := bt_nonneg s 7
  have b0 := bt_le s 0; have b1 := bt_le s 1; have b2 := bt_le s 2; have b3 := bt_le s 3; have b4 := bt_le s 4; have b5 := bt_le s 5; have b6 := bt_le s 6; have b7 := bt_le s 7
  unfold U word8; omega

set_option maxHeartbeats 1000000 in
theorem lwordOf_any (s : ByteArray) (hs : s.size = 8) (w : World) :
    Calls Tryd.prog 41 #[.string s] w fun e w' => e = .returned (.int .u64 (word8 s)) ∧ ∃ n, w' = w.drewN n := by
  have hb := get_bt s
  have h0 : (0 : Int) < (s.size : Int) := by omega
  have h1 : (1 : Int) < (s.size : Int) := by omega
  have h2 : (2 : Int) < (s.size : Int) := by omega
  have h3 : (3 : Int) < (s.size : Int) := by omega
  have h4 : (4 : Int) < (s.size : Int) := by omega
  have h5 : (5 : Int) < (s.size : Int) := by omega
  have h6 : (6 : Int) < (s.size : Int) := by omega
  have h7 : (7 : Int) < (s.size : Int) := by omega
  have HS := Lib.hid hs
  clear hs
  go_enter Tryd.func41, Tryd.ntmps41
  go_wp2_with fail
  go_quiet (fail)
  go_wp2_with fail
  go_ret
  refine ⟨?_, _, rfl⟩
  show Ending.returned (Value.int .u64 _) = _
  rw [word_math]

/-- the number that 32 bytes tell, the lowest first -/
def leNum (s : ByteArray) : Int := val4 (word8 (s.extract 0 8)) (word8 (s.extract 8 16)) (word8 (s.extract 16 24)) (word8 (s.extract 24 32))

theorem num_read (s : ByteArray) : Is4 (word8 (s.extract 0 8)) (word8 (s.extract 8 16)) (word8 (s.extract 16 24)) (word8 (s.extract 24 32)) (leNum s) :=
  ⟨word8_U _, word8_U _, word8_U _, word8_U _, rfl⟩

theorem lbelow_drewN {B : Nat} {a w : World} (h : Below B a w) (n : Nat) : Below B a (w.drewN n) := ⟨h.os, h.tape, h.output, h.size, h.block⟩

def ReadPost (s : ByteArray) (w : World) (e : Ending) (w' : World) : Prop :=
  ∃ a b c d, e = .returned (.tuple #[.agg #[.int .u64 a, .int .u64 b, .int .u64 c, .int .u64 d], .int .i64 0]) ∧ Is4 a b c d (leNum s) ∧ Below w.heap.size w w'

set_option maxHeartbeats 1000000 in
theorem read_good (s : ByteArray) (hs : s.size = 32) (w : World) :
    Calls Tryd.prog 32 #[.string s] w (ReadPost s w) := by
  have h1 : ((s.size : Int) != 32) = false := by rw [bne_eq_false_iff_eq]; omega
  have h2 : ((s.size : Int) == 32) = true := by rw [beq_iff_eq]; omega
  have h3 : (s.size : Int) ≥ 24 := by omega
  have h4 : (8 : Int) ≤ (s.size : Int) := by omega
  have h5 : (16 : Int) ≤ (s.size : Int) := by omega
  have h6 : (24 : Int) ≤ (s.size : Int) := by omega
  have h7 : (32 : Int) ≤ (s.size : Int) := by omega
  go_enter Tryd.func32, Tryd.ntmps32
  have e0 : (s.extract 0 8).size = 8 := by simp; omega
  have e1 : (s.extract 8 16).size = 8 := by simp; omega
  have e2 : (s.extract 16 24).size = 8 := by simp; omega
  have e3 : (s.extract 24 32).size = 8 := by simp; omega
  have E0 := Lib.hid e0; have E1 := Lib.hid e1; have E2 := Lib.hid e2; have E3 := Lib.hid e3
  clear e0 e1 e2 e3
  go_wp2_with fail
  go_region_with (go_at_call 41; refine (lwordOf_any _ (by first | exact E0.out | exact E1.out | exact E2.out | exact E3.out) _).mono ?_; rintro e w' ⟨rfl, n, rfl⟩)
  go_wp2
  refine bodyPost_ret (v := .tuple #[.agg #[.int .u64 (word8 (s.extract 0 8)), .int .u64 (word8 (s.extract 8 16)), .int .u64 (word8 (s.extract 16 24)), .int .u64 (word8 (s.extract 24 32))], .int .i64 0]) (by simp [results, Tryd.results32, go_sem]) rfl ⟨_, _, _, _, rfl, num_read s, ?_⟩
  exact below_set4 (lbelow_drewN ((Below.refl _ _).alloc (Nat.le_refl _) _) _) (Nat.le_refl _) _ _ _ _
end Go.Proofs.YtnfhfibbaeiglaaDoor

/- The contract of package limb's tell. -/
namespace Go.Proofs.YtnfhfibbaeiglaaDoor
set_option maxRecDepth 100000
open Go.RowKit
def TellPost (x : Int) (w : World) (e : Ending) (w' : World) : Prop := e = .returned (.string (leStr x)) ∧ Below w.heap.size w w'

theorem tell_cells (W : World) (c0 c1 c2 c3 : Int) (t : TypeId) (i : Nat) (hi : i < 32) :
    (W.alloc (.cells #[.int .u8 (c0 % 256), .int .u8 (c0 / 256 % 256), .int .u8 (c0 / 65536 % 256), .int .u8 (c0 / 16777216 % 256), .int .u8 (c0 / 4294967296 % 256), .int .u8 (c0 / 1099511627776 % 256), .int .u8 (c0 / 281474976710656 % 256), .int .u8 (c0 / 72057594037927936 % 256), .int .u8 (c1 % 256), .int .u8 (c1 / 256 % 256), .int .u8 (c1 / 65536 % 256), .int .u8 (c1 / 16777216 % 256), .int .u8 (c1 / 4294967296 % 256), .int .u8 (c1 / 1099511627776 % 256), .int .u8 (c1 / 281474976710656 % 256), .int .u8 (c1 / 72057594037927936 % 256), .int .u8 (c2 % 256), .int .u8 (c2 / 256 % 256), .int .u8 (c2 / 65536 % 256), .int .u8 (c2 / 16777216 % 256), .int .u8 (c2 / 4294967296 % 256), .int .u8 (c2 / 1099511627776 % 256), .int .u8 (c2 / 281474976710656 % 256), .int .u8 (c2 / 72057594037927936 % 256), .int .u8 (c3 % 256), .int .u8 (c3 / 256 % 256), .int .u8 (c3 / 65536 % 256), .int .u8 (c3 / 16777216 % 256), .int .u8 (c3 / 4294967296 % 256), .int .u8 (c3 / 1099511627776 % 256), .int .u8 (c3 / 281474976710656 % 256), .int .u8 (c3 / 72057594037927936 % 256)] t)).cell? ⟨W.heap.size, 0 + i, none⟩ = some (.int .u8 ((tell32 c0 c1 c2 c3).getD i 0)) := by
  rw [World.cell?_alloc_new, Nat.zero_add]
  rcases i with _ | _ | _ | _ | _ | _ | _ | _ | _ | _ | _ | _ | _ | _ | _ | _ | _ | _ | _ | _ | _ | _ | _ | _ | _ | _ | _ | _ | _ | _ | _ | _ | i
  all_goals first | rfl | omega

set_option maxRecDepth 100000 in
set_option maxHeartbeats 4000000 in
theorem ltell_any (va : Value) (x : Int) (hva : Num va x) (w : World) (hP : PrimeAt w) :
    Calls Tryd.prog 33 #[va] w (TellPost (x % Pr) w) := by
  obtain ⟨a0, a1, a2, a3, rfl, ha⟩ := hva
  go_enter Tryd.func33, Tryd.ntmps33
  go_wp2_with fail
  refine (left_in w _ _ _ ⟨_, _, _, _, rfl, ha⟩ hP (by go_grown)).mono ?_
  rintro e w1 ⟨c0, c1, c2, c3, z, rfl, hz, rfl, hb1⟩
  have hN : Blk w1 w.heap.size a0 a1 a2 a3 := Blk.below (Blk.fresh_at _ _ _ _ _ _ _ rfl) hb1 (by simp)
  have hB1 : Below w.heap.size w w1 := Below.trans (by go_grown) (hb1.mono (by simp))
  clear hb1
  have hlt := hN.lt
  obtain ⟨⟨x0, x1, x2, x3⟩, ⟨y0, y1, y2, y3⟩⟩ := id hN
  go_wp2_with fail
  have hN2 := hN.set4 c0 c1 c2 c3
  have hB2 := below_set4 hB1 (Nat.le_refl _) (.int .u64 c0) (.int .u64 c1) (.int .u64 c2) (.int .u64 c3)
  clear x0 x1 x2 x3 y0 y1 y2 y3 hN
  have hsz := size_set4 w1 w.heap.size (.int .u64 c0) (.int .u64 c1) (.int .u64 c2) (.int .u64 c3)
  generalize World.setCell (World.setCell (World.setCell (World.setCell w1 _ _) _ _) _ _) _ _ = W at hN2 hB2 hsz ⊢
  rw [← hsz]
  have hltW := hN2.lt
  clear hsz hlt hB1 hN2
  have i0 : ∀ w : World, (Instr.index 59 (.agg #[.int .u64 c0, .int .u64 c1, .int .u64 c2, .int .u64 c3]) (.int .i64 0)).run Tryd.prog w = .ok (.int .u64 c0) w := fun _ => by kernel_rfl
  have i1 : ∀ w : World, (Instr.index 59 (.agg #[.int .u64 c0, .int .u64 c1, .int .u64 c2, .int .u64 c3]) (.int .i64 1)).run Tryd.prog w = .ok (.int .u64 c1) w := fun _ => by kernel_rfl
  have i2 : ∀ w : World, (Instr.index 59 (.agg #[.int .u64 c0, .int .u64 c1, .int .u64 c2, .int .u64 c3]) (.int .i64 2)).run Tryd.prog w = .ok (.int .u64 c2) w := fun _ => by kernel_rfl
  have i3 : ∀ w : World, (Instr.index 59 (.agg #[.int .u64 c0, .int .u64 c1, .int .u64 c2, .int .u64 c3]) (.int .i64 3)).run Tryd.prog w = .ok (.int .u64 c3) w := fun _ => by kernel_rfl
  refine wp_loop_rounds 5 ?_
  rw [rounds_succ]; go_wp2_with fail
  refine wp_loop_rounds 9 ?_
  rw [rounds_succ]; go_wp2_with fail
  rw [rounds_succ]; go_wp2_with fail
  rw [rounds_succ]; go_wp2_with fail
  rw [rounds_succ]; go_wp2_with fail
  rw [rounds_succ]; go_wp2_with fail
  rw [rounds_succ]; go_wp2_with fail
  rw [rounds_succ]; go_wp2_with fail
  rw [rounds_succ]; go_wp2_with fail
  rw [rounds_succ]; go_wp2_with fail
  rw [rounds_succ]; go_wp2_with fail
  refine wp_loop_rounds 9 ?_
  rw [rounds_succ]; go_wp2_with fail
  rw [rounds_succ]; go_wp2_with fail
  rw [rounds_succ]; go_wp2_with fail
  rw [rounds_succ]; go_wp2_with fail
  rw [rounds_succ]; go_wp2_with fail
  rw [rounds_succ]; go_wp2_with fail
  rw [rounds_succ]; go_wp2_with fail
  rw [rounds_succ]; go_wp2_with fail
  rw [rounds_succ]; go_wp2_with fail
  rw [rounds_succ]; go_wp2_with fail
  refine wp_loop_rounds 9 ?_
  rw [rounds_succ]; go_wp2_with fail
  rw [rounds_succ]; go_wp2_with fail
  rw [rounds_succ]; go_wp2_with fail
  rw [rounds_succ]; go_wp2_with fail
  rw [rounds_succ]; go_wp2_with fail
  rw [rounds_succ]; go_wp2_with fail
  rw [rounds_succ]; go_wp2_with fail
  rw [rounds_succ]; go_wp2_with fail
  rw [rounds_succ]; go_wp2_with fail
  rw [rounds_succ]; go_wp2_with fail
  refine wp_loop_rounds 9 ?_
  rw [rounds_succ]; go_wp2_with fail
  rw [rounds_succ]; go_wp2_with fail
  rw [rounds_succ]; go_wp2_with fail
  rw [rounds_succ]; go_wp2_with fail
  rw [rounds_succ]; go_wp2_with fail
  rw [rounds_succ]; go_wp2_with fail
  rw [rounds_succ]; go_wp2_with fail
  rw [rounds_succ]; go_wp2_with fail
  rw [rounds_succ]; go_wp2_with fail
  rw [rounds_succ]; go_wp2_with fail
  rw [run_convert_bytes_arg (W.alloc _) 47 5 Tryd.underlying47 Tryd.underlying5 W.heap.size 0 32 32 (tell32 c0 c1 c2 c3) rfl (tell_cells W c0 c1 c2 c3 _) 9 Tryd.underlying9]
  rw [tell32_eq hz]
  go_wp2_with fail
  go_ret
  refine ⟨rfl, ?_⟩
  exact hB2.alloc (Nat.le_of_lt hltW) _
end Go.Proofs.YtnfhfibbaeiglaaDoor

/- The contracts of package limb's exported functions Norm, Add, Sub, Mul. -/
namespace Go.Proofs.YtnfhfibbaeiglaaDoor
set_option maxRecDepth 100000
open Go.RowKit
/-- a text and no error, with what lay before left as it was -/
def StrOk (x : Int) (w : World) (e : Ending) (w' : World) : Prop := e = .returned (.tuple #[.string (leStr x), .int .i64 0]) ∧ Below w.heap.size w w'
def StrBad (w : World) (e : Ending) (w' : World) : Prop := e = .returned (.tuple #[.string ⟨#[]⟩, .int .i64 2]) ∧ Below w.heap.size w w'

set_option maxHeartbeats 1000000 in
theorem norm_good (s : ByteArray) (hs : s.size = 32) (w : World) (hP : PrimeAt w) :
    Calls Tryd.prog 23 #[.string s] w (StrOk (leNum s % Pr) w) := by
  go_enter Tryd.func23, Tryd.ntmps23
  go_wp2_with fail
  refine (read_good s hs _).mono ?_
  rintro e w1 ⟨a, b, c, d, rfl, h4, hb1⟩
  have hlt := hP.lt
  have hs1 := hb1.size
  have hP1 : PrimeAt (w1.alloc (.cells #[.int .u64 a, .int .u64 b, .int .u64 c, .int .u64 d] 59)) := hP.below (hb1.alloc hs1 _) hlt
  have HS := Lib.hid hs
  clear hs
  go_wp2_with fail
  refine (ltell_any _ _ ⟨_, _, _, _, rfl, h4⟩ _ hP1).mono ?_
  rintro e w2 ⟨rfl, hb2⟩
  go_wp2_with fail
  go_ret2
  exact ⟨rfl, (hb1.alloc hs1 _).trans (hb2.mono (by simp; omega))⟩

theorem pr_pos : (0 : Int) < Pr := by unfold Pr; omega
theorem plus_left (x y : Int) : (x % Pr + y % Pr) % Pr = (x + y) % Pr := by rw [← Int.add_emod]
theorem minus_left (x y : Int) : (x % Pr + (Pr - y % Pr) % Pr) % Pr = (x - y) % Pr := by
  have h1 := Int.emod_add_mul_ediv x Pr
  have h2 := Int.emod_add_mul_ediv y Pr
  rw [Int.emod_add_emod, Int.add_emod_emod]
  have : x - y = x + (Pr - y % Pr) + Pr * (-1 - y / Pr) := by
    rw [Int.mul_sub, Int.mul_neg, Int.mul_one]; omega
  rw [this, Int.add_mul_emod_self_left]

set_option maxHeartbeats 1000000 in
theorem ofTwo_plus (s t : ByteArray) (hs : s.size = 32) (ht : t.size = 32) (w : World) (hP : PrimeAt w) :
    Calls Tryd.prog 48 #[.string s, .string t, Value.func (Fn.func 49) #[] #[]] w (StrOk ((leNum s + leNum t) % Pr) w) := by
  have HS := Lib.hid hs; have HT := Lib.hid ht
  clear hs ht
  have hlt := hP.lt
  go_enter Tryd.func48, Tryd.ntmps48
  go_wp2_with fail
  refine (read_good s HS.out _).mono ?_
  rintro e w1 ⟨a0, a1, a2, a3, rfl, h4, hb1⟩
  have hs1 := hb1.size
  go_wp2_with fail
  refine (read_good t HT.out _).mono ?_
  rintro e w2 ⟨b0, b1, b2, b3, rfl, g4, hb2⟩
  have hN : Blk w2 w1.heap.size a0 a1 a2 a3 := Blk.below (Blk.fresh _ _ _ _ _ _) hb2 (by simp)
  have hs2 : w1.heap.size < w2.heap.size := hN.lt
  have hB : Below w.heap.size w w2 := (hb1.alloc hs1 _).trans (hb2.mono (by simp; omega))
  clear hb2 hb1
  obtain ⟨⟨x0, x1, x2, x3⟩, -⟩ := id hN
  have hBB := hB.alloc (by omega) (.cells #[.int .u64 b0, .int .u64 b1, .int .u64 b2, .int .u64 b3] 59)
  have hPB := hP.below hBB hlt
  go_wp2_with fail
  refine (plus_any _ _ _ _ ⟨_, _, _, _, rfl, h4⟩ ⟨_, _, _, _, rfl, g4⟩ _ hPB).mono ?_
  rintro e w3 ⟨c0, c1, c2, c3, z, rfl, hz, hzp, hb3⟩
  have hB3 := hBB.trans (hb3.mono (by simp; omega))
  have HZ : Hid (z % Pr = (leNum s + leNum t) % Pr) := by rw [hzp]; exact plus_left _ _
  clear hzp
  go_wp2_with fail
  refine (ltell_any _ _ ⟨_, _, _, _, rfl, hz⟩ _ (hP.below hB3 hlt)).mono ?_
  rintro e w4 ⟨rfl, hb4⟩
  go_wp2_with fail
  go_ret2
  refine ⟨?_, hB3.trans (hb4.mono (by have := hb3.size; simp at this; omega))⟩
  rw [HZ.out]
  rfl
set_option maxHeartbeats 1000000 in
theorem add_good (s t : ByteArray) (hs : s.size = 32) (ht : t.size = 32) (w : World) (hP : PrimeAt w) :
    Calls Tryd.prog 37 #[.string s, .string t] w (StrOk ((leNum s + leNum t) % Pr) w) := by
  go_enter Tryd.func37, Tryd.ntmps37
  go_wp2_with fail
  refine (ofTwo_plus s t hs ht _ hP).mono ?_
  rintro e w1 ⟨rfl, hb1⟩
  go_wp2_with fail
  go_ret2
  exact ⟨rfl, hb1⟩
set_option maxHeartbeats 1000000 in
theorem ofTwo_minus (s t : ByteArray) (hs : s.size = 32) (ht : t.size = 32) (w : World) (hP : PrimeAt w) :
    Calls Tryd.prog 48 #[.string s, .string t, Value.func (Fn.func 50) #[] #[]] w (StrOk ((leNum s - leNum t) % Pr) w) := by
  have HS := Lib.hid hs; have HT := Lib.hid ht
  clear hs ht
  have hlt := hP.lt
  go_enter Tryd.func48, Tryd.ntmps48
  go_wp2_with fail
  refine (read_good s HS.out _).mono ?_
  rintro e w1 ⟨a0, a1, a2, a3, rfl, h4, hb1⟩
  have hs1 := hb1.size
  go_wp2_with fail
  refine (read_good t HT.out _).mono ?_
  rintro e w2 ⟨b0, b1, b2, b3, rfl, g4, hb2⟩
  have hN : Blk w2 w1.heap.size a0 a1 a2 a3 := Blk.below (Blk.fresh _ _ _ _ _ _) hb2 (by simp)
  have hs2 : w1.heap.size < w2.heap.size := hN.lt
  have hB : Below w.heap.size w w2 := (hb1.alloc hs1 _).trans (hb2.mono (by simp; omega))
  clear hb2 hb1
  obtain ⟨⟨x0, x1, x2, x3⟩, -⟩ := id hN
  have hBB := hB.alloc (by omega) (.cells #[.int .u64 b0, .int .u64 b1, .int .u64 b2, .int .u64 b3] 59)
  have hPB := hP.below hBB hlt
  go_wp2_with fail
  refine (minus_any _ _ _ _ ⟨_, _, _, _, rfl, h4⟩ ⟨_, _, _, _, rfl, g4⟩ _ hPB).mono ?_
  rintro e w3 ⟨c0, c1, c2, c3, z, rfl, hz, hzp, hb3⟩
  have hB3 := hBB.trans (hb3.mono (by simp; omega))
  have HZ : Hid (z % Pr = (leNum s - leNum t) % Pr) := by rw [hzp]; exact minus_left _ _
  clear hzp
  go_wp2_with fail
  refine (ltell_any _ _ ⟨_, _, _, _, rfl, hz⟩ _ (hP.below hB3 hlt)).mono ?_
  rintro e w4 ⟨rfl, hb4⟩
  go_wp2_with fail
  go_ret2
  refine ⟨?_, hB3.trans (hb4.mono (by have := hb3.size; simp at this; omega))⟩
  rw [HZ.out]
  rfl
set_option maxHeartbeats 1000000 in
theorem sub_good (s t : ByteArray) (hs : s.size = 32) (ht : t.size = 32) (w : World) (hP : PrimeAt w) :
    Calls Tryd.prog 38 #[.string s, .string t] w (StrOk ((leNum s - leNum t) % Pr) w) := by
  go_enter Tryd.func38, Tryd.ntmps38
  go_wp2_with fail
  refine (ofTwo_minus s t hs ht _ hP).mono ?_
  rintro e w1 ⟨rfl, hb1⟩
  go_wp2_with fail
  go_ret2
  exact ⟨rfl, hb1⟩
set_option maxHeartbeats 1000000 in
theorem ofTwo_times (s t : ByteArray) (hs : s.size = 32) (ht : t.size = 32) (w : World) (hP : PrimeAt w) :
    Calls Tryd.prog 48 #[.string s, .string t, Value.func (Fn.func 51) #[] #[]] w (StrOk ((leNum s * leNum t) % Pr) w) := by
  have HS := Lib.hid hs; have HT := Lib.hid ht
  clear hs ht
  have hlt := hP.lt
  go_enter Tryd.func48, Tryd.ntmps48
  go_wp2_with fail
  refine (read_good s HS.out _).mono ?_
  rintro e w1 ⟨a0, a1, a2, a3, rfl, h4, hb1⟩
  have hs1 := hb1.size
  go_wp2_with fail
  refine (read_good t HT.out _).mono ?_
  rintro e w2 ⟨b0, b1, b2, b3, rfl, g4, hb2⟩
  have hN : Blk w2 w1.heap.size a0 a1 a2 a3 := Blk.below (Blk.fresh _ _ _ _ _ _) hb2 (by simp)
  have hs2 : w1.heap.size < w2.heap.size := hN.lt
  have hB : Below w.heap.size w w2 := (hb1.alloc hs1 _).trans (hb2.mono (by simp; omega))
  clear hb2 hb1
  obtain ⟨⟨x0, x1, x2, x3⟩, -⟩ := id hN
  have hBB := hB.alloc (by omega) (.cells #[.int .u64 b0, .int .u64 b1, .int .u64 b2, .int .u64 b3] 59)
  have hPB := hP.below hBB hlt
  go_wp2_with fail
  refine (times_any _ _ _ _ ⟨_, _, _, _, rfl, h4⟩ ⟨_, _, _, _, rfl, g4⟩ _).mono ?_
  rintro e w3 ⟨c0, c1, c2, c3, z, rfl, hz, hzp, hb3⟩
  have hB3 := hBB.trans (hb3.mono (by simp; omega))
  have HZ : Hid (z % Pr = (leNum s * leNum t) % Pr) := by exact hzp
  clear hzp
  go_wp2_with fail
  refine (ltell_any _ _ ⟨_, _, _, _, rfl, hz⟩ _ (hP.below hB3 hlt)).mono ?_
  rintro e w4 ⟨rfl, hb4⟩
  go_wp2_with fail
  go_ret2
  refine ⟨?_, hB3.trans (hb4.mono (by have := hb3.size; simp at this; omega))⟩
  rw [HZ.out]
  rfl
set_option maxHeartbeats 1000000 in
theorem mul_good (s t : ByteArray) (hs : s.size = 32) (ht : t.size = 32) (w : World) (hP : PrimeAt w) :
    Calls Tryd.prog 39 #[.string s, .string t] w (StrOk ((leNum s * leNum t) % Pr) w) := by
  go_enter Tryd.func39, Tryd.ntmps39
  go_wp2_with fail
  refine (ofTwo_times s t hs ht _ hP).mono ?_
  rintro e w1 ⟨rfl, hb1⟩
  go_wp2_with fail
  go_ret2
  exact ⟨rfl, hb1⟩
end Go.Proofs.YtnfhfibbaeiglaaDoor
