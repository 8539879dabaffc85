/- The texts Dror, Dspr, Dmix, one behind the other. -/
import Derived.Test.YtdnjieffbgmagaaDoorRows
import Derived.Test.YtdnjieffbgmagaaDoorBg1
import Derived.Deep.RegionWith
import Derived.Deep.QuietTactic
import Derived.BigQuiet
import Derived.Outline
import Derived.Test.YtdnjieffbgmagaaDoorQl
import Derived.Laws.DeepStrings4
import Derived.Deep.Cut
import Derived.Deep.CutBlock
/- The contracts of digest's smallest: ror, wordOf. -/
namespace Go.Proofs.YtdnjieffbgmagaaDoor
open Go.RowKit
theorem and31 (n m : Nat) (h0 : 0 < n) (h1 : n + m = 32) : bits .and .u64 (IntKind.u64.wrap (-(n : Int))) 31 = (m : Int) := by
  have e : IntKind.u64.wrap (-(n : Int)) = ((18446744073709551616 - n : Nat) : Int) := by
    rw [IntKind.wrap_u64]; omega
  rw [e]
  show IntKind.u64.wrap (((BitVec.ofInt 64 ((18446744073709551616 - n : Nat) : Int) &&& BitVec.ofInt 64 ((31 : Nat) : Int)).toNat : Nat) : Int) = _
  rw [BitVec.toNat_and, BitVec.ofInt_natCast, BitVec.ofInt_natCast, BitVec.toNat_ofNat, BitVec.toNat_ofNat]
  rw [Nat.mod_eq_of_lt (a := 18446744073709551616 - n) (by omega), Nat.mod_eq_of_lt (a := 31) (by omega)]
  rw [show (18446744073709551616 - n) &&& 31 = (18446744073709551616 - n) % 32 from Nat.and_two_pow_sub_one_eq_mod _ 5]
  rw [IntKind.wrap_u64]
  omega

set_option maxRecDepth 100000 in
set_option maxHeartbeats 400000 in
theorem rotl_any (x : BitVec 32) (n : Nat) (h0 : 0 < n) (h1 : n < 32) (w : World) :
    Calls Tryd.prog 109 #[.int .u32 (x.toNat : Int), .int .i64 (-(n : Int))] w fun e w' => e = .returned (.int .u32 ((rr x n).toNat : Int)) ∧ w = w' := by
  obtain ⟨m, hm⟩ : ∃ m, n + m = 32 := ⟨32 - n, by omega⟩
  have hK := and31 n m h0 hm
  have es : ((32 : Int) - (m : Int)).toNat = n := by omega
  have hm1 : (m : Int) < 32 := by omega
  have hm0 : (0 : Int) < (m : Int) := by omega
  have e1 := shl32 x m
  have e2 := shr32 x n
  have e3 := bits_or32 (x <<< m) (x >>> n)
  have er : ((rr x n).toNat : Int) = ((x <<< m ||| x >>> n).toNat : Int) := by
    unfold rr
    rw [BitVec.or_comm, show 32 - n = m by omega]
  rw [er]
  clear er
  generalize x <<< m = s at e1 e3 ⊢
  generalize x >>> n = t at e2 e3 ⊢
  generalize s ||| t = r at e3 ⊢
  go_enter Tryd.func109, Tryd.ntmps109
  go_wp2
  go_ret
  exact ⟨rfl, rfl⟩

set_option maxRecDepth 100000 in
set_option maxHeartbeats 400000 in
theorem ror_any (x : BitVec 32) (n : Nat) (h0 : 0 < n) (h1 : n < 32) (w : World) :
    Calls Tryd.prog 107 #[.int .u32 (x.toNat : Int), .int .i64 (n : Int)] w fun e w' => e = .returned (.int .u32 ((rr x n).toNat : Int)) ∧ w = w' := by
  have H := Lib.hid (rotl_any x n h0 h1)
  generalize rr x n = r at H ⊢
  go_enter Tryd.func107, Tryd.ntmps107
  go_wp2_with fail
  refine (H.out _).mono ?_
  rintro e w' ⟨rfl, rfl⟩
  go_wp2_with fail
  go_ret
  exact ⟨rfl, rfl⟩

theorem word4_or (a b c d : UInt8) : bits .or .u32 (bits .or .u32 (bits .or .u32 ((a.toNat : Int) * 16777216) ((b.toNat : Int) * 65536)) ((c.toNat : Int) * 256)) (d.toNat : Int) = ((word4 a b c d).toNat : Int) := by
  have ha := a.toNat_lt
  have hb := b.toNat_lt
  have hc := c.toNat_lt
  have hd := d.toNat_lt
  have e1 : bits .or .u32 ((a.toNat : Int) * 16777216) ((b.toNat : Int) * 65536) = (((a.toNat * 256 + b.toNat) * 65536 : Nat) : Int) := by
    have := bits_or_nat (a.toNat * 16777216) (b.toNat * 65536) (by omega) (by omega)
    rw [show ((a.toNat * 16777216 : Nat) : Int) = (a.toNat : Int) * 16777216 by omega, show ((b.toNat * 65536 : Nat) : Int) = (b.toNat : Int) * 65536 by omega] at this
    rw [this]
    have h := or_sum a.toNat (b.toNat * 65536) 24 (by omega)
    rw [show (2 : Nat) ^ 24 = 16777216 from rfl] at h
    rw [h]
    exact congrArg Nat.cast (by omega)
  have e2 : bits .or .u32 (((a.toNat * 256 + b.toNat) * 65536 : Nat) : Int) ((c.toNat : Int) * 256) = (((a.toNat * 65536 + b.toNat * 256 + c.toNat) * 256 : Nat) : Int) := by
    have := bits_or_nat ((a.toNat * 256 + b.toNat) * 65536) (c.toNat * 256) (by omega) (by omega)
    rw [show ((c.toNat * 256 : Nat) : Int) = (c.toNat : Int) * 256 by omega] at this
    rw [this]
    have h := or_sum (a.toNat * 256 + b.toNat) (c.toNat * 256) 16 (by omega)
    rw [show (2 : Nat) ^ 16 = 65536 from rfl] at h
    rw [h]
    exact congrArg Nat.cast (by omega)
  have e3 : bits .or .u32 (((a.toNat * 65536 + b.toNat * 256 + c.toNat) * 256 : Nat) : Int) (d.toNat : Int) = ((word4 a b c d).toNat : Int) := by
    rw [bits_or_nat _ _ (by omega) (by omega)]
    have h := or_sum (a.toNat * 65536 + b.toNat * 256 + c.toNat) d.toNat 8 (by omega)
    rw [show (2 : Nat) ^ 8 = 256 from rfl] at h
    rw [h]
    unfold word4
    rw [BitVec.toNat_ofNat, Nat.mod_eq_of_lt (by omega)]
    exact congrArg Nat.cast (by omega)
  rw [e1, e2, e3]

set_option maxRecDepth 100000 in
set_option maxHeartbeats 400000 in
theorem wordOf_any (s : ByteArray) (h : s.size = 4) (w : World) :
    Calls Tryd.prog 108 #[.string s] w fun e w' => e = .returned (.int .u32 ((word4 s[0] s[1] s[2] s[3]).toNat : Int)) ∧ ∃ n, w' = w.drewN n := by
  have b1 : (0 : Int) < (s.size : Int) := by omega
  have b2 : (1 : Int) < (s.size : Int) := by omega
  have b3 : (2 : Int) < (s.size : Int) := by omega
  have b4 : (3 : Int) < (s.size : Int) := by omega
  have c1 := s[0].toNat_lt
  have c2 := s[1].toNat_lt
  have c3 := s[2].toNat_lt
  have c4 := s[3].toNat_lt
  have g0 : s[0]? = some s[0] := by simp
  go_enter Tryd.func108, Tryd.ntmps108
  go_wp2
  go_quiet (fail)
  go_wp2
  go_ret
  exact ⟨ret_u32 (word4_or _ _ _ _), _, rfl⟩
end Go.Proofs.YtdnjieffbgmagaaDoor

/- The contract of digest.spread: a block's 64 words. -/
namespace Go.Proofs.YtdnjieffbgmagaaDoor
open Go.RowKit
theorem word_part (s : ByteArray) (k : Nat) (h : 4 * k + 4 ≤ s.size) (h4 : (s.extract (4 * k) (4 * k + 4)).size = 4) :
    word4 (s.extract (4 * k) (4 * k + 4))[0] (s.extract (4 * k) (4 * k + 4))[1] (s.extract (4 * k) (4 * k + 4))[2] (s.extract (4 * k) (4 * k + 4))[3] = wdAt (bl s) k := by
  unfold wdAt
  rw [bl_get s (4 * k) (by omega), bl_get s (4 * k + 1) (by omega), bl_get s (4 * k + 2) (by omega), bl_get s (4 * k + 3) (by omega)]
  simp only [ByteArray.getElem_extract, Nat.add_zero]

def SprA (w : World) (b : List UInt8) (i : Value) (wr : World) : Prop := ∃ k : Nat, k ≤ 16 ∧ i = .int .i64 k ∧ BlkW wr (w.heap.size + 1) 152 (firstW b k ++ List.replicate (64 - k) 0) ∧ BlkW wr w.heap.size 152 (List.replicate 64 0) ∧ Below w.heap.size w wr
def SprB (w : World) (b : List UInt8) (i : Value) (wr : World) : Prop := ∃ t : Nat, 16 ≤ t ∧ t ≤ 64 ∧ i = .int .i64 (t : Int) ∧ BlkW wr (w.heap.size + 1) 152 (extW (t - 16) (firstW b 16) ++ List.replicate (64 - t) 0) ∧ BlkW wr w.heap.size 152 (List.replicate 64 0) ∧ Below w.heap.size w wr
theorem near_bits (x : BitVec 32) : bits .xor .u32 (bits .xor .u32 ((rr x 17).toNat : Int) ((rr x 19).toNat : Int)) ((x.toNat : Int) / 1024) = ((near x).toNat : Int) := by
  have e : (x.toNat : Int) / (1024 : Int) = ((x >>> 10).toNat : Int) := shr32 x 10
  rw [e, bits_xor32, bits_xor32]; rfl
theorem far_bits (x : BitVec 32) : bits .xor .u32 (bits .xor .u32 ((rr x 7).toNat : Int) ((rr x 18).toNat : Int)) ((x.toNat : Int) / 8) = ((far x).toNat : Int) := by
  have e : (x.toNat : Int) / (8 : Int) = ((x >>> 3).toNat : Int) := shr32 x 3
  rw [e, bits_xor32, bits_xor32]; rfl
theorem set_at (l : List (BitVec 32)) (n : Nat) (x : BitVec 32) (h : 0 < n) : (l ++ List.replicate n 0).set l.length x = (l ++ [x]) ++ List.replicate (n - 1) 0 := by
  obtain ⟨m, rfl⟩ : ∃ m, n = m + 1 := ⟨n - 1, by omega⟩
  simp [List.replicate_succ]

set_option maxRecDepth 100000 in
set_option maxHeartbeats 1000000 in
theorem spread_any (s : ByteArray) (hs : s.size = 64) (w : World) :
    Calls Tryd.prog 106 #[.string s] w fun e w' => e = .returned (.agg (Wd (sched (bl s))).toArray) ∧ Below w.heap.size w w' := by
  go_enter Tryd.func106, Tryd.ntmps106
  go_wp2_with fail
  go_loopw [8] (SprA w (bl s)) (fun i _ => 16 - (intOf i).toNat)
  case atStart =>
    refine ⟨0, by omega, rfl, BlkW.fresh _ _ _ _ (by rfl) _ (by simp), (BlkW.fresh _ _ _ _ (by rfl) _ rfl).alloc _, by go_grown⟩
  case round =>
    obtain ⟨k, hk, rfl, hB, hO, hb⟩ := hrel
    by_cases hlt : k < 16
    · have h4 : (s.extract (4 * k) (4 * k + 4)).size = 4 := by rw [ByteArray.size_extract]; omega
      have hc := wordOf_any (s.extract (4 * k) (4 * k + 4)) h4
      rw [word_part s k (by omega) h4] at hc
      have HC := Lib.hid hc
      clear hc
      have h1 : (k : Int) < 16 := by omega
      have h1' : (k : Int) < 64 := by omega
      have e1 : IntKind.i64.wrap (4 * (k : Int)) = 4 * (k : Int) := IntWalk.i64_in _ (by omega)
      have e2 : IntKind.i64.wrap (4 * (k : Int) + 4) = 4 * (k : Int) + 4 := IntWalk.i64_in _ (by omega)
      have e3 : (4 * (k : Int)).toNat = 4 * k := by omega
      have e4 : (4 * (k : Int) + 4).toNat = 4 * k + 4 := by omega
      have hsl := fun W : World => str_slice (P := Tryd.prog) 9 Tryd.underlying9 s (4 * (k : Int)) (4 * (k : Int) + 4) (4 * k) (4 * k + 4) (by omega) (by omega) (by omega) (by omega) W
      clear h4
      obtain ⟨x, hx⟩ : ∃ x, wdAt (bl s) k = x := ⟨_, rfl⟩
      rw [hx] at HC
      have HX := Lib.hid hx
      clear hx
      have HB := Lib.hid hB
      have HO := Lib.hid hO
      clear hB hO
      go_wp2_with fail
      refine (HC.out _).mono ?_
      rintro e w1 ⟨rfl, n, rfl⟩
      obtain ⟨W, hW⟩ : ∃ W, wr.drewN n = W := ⟨_, rfl⟩
      have hB : BlkW W (w.heap.size + 1) 152 (firstW (bl s) k ++ List.replicate (64 - k) 0) := by rw [← hW]; exact HB.out
      have hO : BlkW W w.heap.size 152 (List.replicate 64 0) := by rw [← hW]; exact HO.out
      have hb' : Below w.heap.size w W := by rw [← hW]; exact below_drewN hb n
      rw [hW]
      clear hW hb HB HO HC
      have y1 := hB.cell k (by simp [firstW_length]; omega)
      have y2 := hB.frozen k
      go_wp2_with fail
      refine ⟨⟨k + 1, by omega, by simp, ?_, hO.far _ (by simp) _, hb'.setCell (by simp) _⟩, by simp [intOf]; omega⟩
      have := hB.set k x
      have e := set_at (firstW (bl s) k) (64 - k) x (by omega)
      rw [firstW_length] at e
      rw [e] at this
      rw [show firstW (bl s) (k + 1) = firstW (bl s) k ++ [x] by rw [← HX.out]; rfl]
      exact this
    · obtain rfl : k = 16 := by omega
      have HB := Lib.hid hB
      have HO := Lib.hid hO
      clear hB hO hk hlt
      go_wp2_with fail
      go_loopw [5] (SprB w (bl s)) (fun i _ => 64 - (intOf i).toNat)
      case atStart => exact ⟨16, by omega, by omega, rfl, HB.out, HO.out, hb⟩
      case round =>
        clear HB HO hb
        obtain ⟨t, ht0, ht, rfl, hB, hO, hb⟩ := hrel
        by_cases hlt : t < 64
        · have h1 : (t : Int) < 64 := by omega
          have e2 : IntKind.i64.wrap ((t : Int) - 2) = (t : Int) - 2 := IntWalk.i64_in _ (by omega)
          have n2 : ((t : Int) - 2).toNat = t - 2 := by omega
          have e15 : IntKind.i64.wrap ((t : Int) - 15) = (t : Int) - 15 := IntWalk.i64_in _ (by omega)
          have n15 : ((t : Int) - 15).toNat = t - 15 := by omega
          have e7 : IntKind.i64.wrap ((t : Int) - 7) = (t : Int) - 7 := IntWalk.i64_in _ (by omega)
          have n7 : ((t : Int) - 7).toNat = t - 7 := by omega
          have e16 : IntKind.i64.wrap ((t : Int) - 16) = (t : Int) - 16 := IntWalk.i64_in _ (by omega)
          have n16 : ((t : Int) - 16).toNat = t - 16 := by omega
          have l2 : (0 : Int) ≤ (t : Int) - 2 := by omega
          have m2 : (t : Int) - 2 < 64 := by omega
          have l15 : (0 : Int) ≤ (t : Int) - 15 := by omega
          have m15 : (t : Int) - 15 < 64 := by omega
          have l7 : (0 : Int) ≤ (t : Int) - 7 := by omega
          have m7 : (t : Int) - 7 < 64 := by omega
          have l16 : (0 : Int) ≤ (t : Int) - 16 := by omega
          have m16 : (t : Int) - 16 < 64 := by omega
          have hl : (extW (t - 16) (firstW (bl s) 16)).length = t := by rw [extW_length, firstW_length]; omega
          have hnext : extW (t + 1 - 16) (firstW (bl s) 16) = extW (t - 16) (firstW (bl s) 16) ++ [nextW (extW (t - 16) (firstW (bl s) 16))] := by
            rw [show t + 1 - 16 = (t - 16) + 1 by omega]; rfl
          obtain ⟨r, hr⟩ : ∃ r, extW (t - 16) (firstW (bl s) 16) = r := ⟨_, rfl⟩
          rw [hr] at hB hl hnext
          obtain ⟨x2, q2⟩ : ∃ x, r.getD (t - 2) 0 = x := ⟨_, rfl⟩
          obtain ⟨x7, q7⟩ : ∃ x, r.getD (t - 7) 0 = x := ⟨_, rfl⟩
          obtain ⟨x15, q15⟩ : ∃ x, r.getD (t - 15) 0 = x := ⟨_, rfl⟩
          obtain ⟨x16, q16⟩ : ∃ x, r.getD (t - 16) 0 = x := ⟨_, rfl⟩
          have g : ∀ i, i < t → (r ++ List.replicate (64 - t) 0).getD i 0 = r.getD i 0 := by
            intro i hi
            rw [List.getD_eq_getElem?_getD, List.getD_eq_getElem?_getD, List.getElem?_append_left (by omega)]
          have c2 := hB.cell (t - 2) (by simp [hl]; omega)
          have c7 := hB.cell (t - 7) (by simp [hl]; omega)
          have c15 := hB.cell (t - 15) (by simp [hl]; omega)
          have c16 := hB.cell (t - 16) (by simp [hl]; omega)
          rw [g _ (by omega)] at c2 c7 c15 c16
          rw [q2] at c2
          rw [q7] at c7
          rw [q15] at c15
          rw [q16] at c16
          have hx : nextW r = near x2 + x7 + far x15 + x16 := by
            unfold nextW; rw [hl, q2, q7, q15, q16]
          have HL := Lib.hid hl; have HN := Lib.hid hnext; have HX := Lib.hid hx; have HR := Lib.hid hr
          have HB := Lib.hid hB; have HO := Lib.hid hO
          clear hl hnext hx hr hB hO q2 q7 q15 q16 g
          have Z2 := Lib.hid (near_bits x2)
          have Z15 := Lib.hid (far_bits x15)
          have A1 := ror_any x2 17 (by omega) (by omega)
          have A2 := ror_any x2 19 (by omega) (by omega)
          have A3 := ror_any x15 7 (by omega) (by omega)
          have A4 := ror_any x15 18 (by omega) (by omega)
          generalize rr x2 17 = a1 at A1 Z2
          generalize rr x2 19 = a2 at A2 Z2
          generalize rr x15 7 = a3 at A3 Z15
          generalize rr x15 18 = a4 at A4 Z15
          have B1 := Lib.hid A1; have B2 := Lib.hid A2; have B3 := Lib.hid A3; have B4 := Lib.hid A4
          clear A1 A2 A3 A4
          go_wp2_with fail
          go_quiet ((go_at_call 107; first | exact quiet_left (B1.out _) | exact quiet_left (B2.out _)))
          rw [Z2.out]
          have f15 : (wr.drewN nq).cell? ⟨w.heap.size + 1, t - 15, none⟩ = some (.int .u32 (x15.toNat : Int)) := c15
          have f7 : (wr.drewN nq).cell? ⟨w.heap.size + 1, t - 7, none⟩ = some (.int .u32 (x7.toNat : Int)) := c7
          have f16 : (wr.drewN nq).cell? ⟨w.heap.size + 1, t - 16, none⟩ = some (.int .u32 (x16.toNat : Int)) := c16
          have HB1 : Hid (BlkW (wr.drewN nq) (w.heap.size + 1) 152 (r ++ List.replicate (64 - t) 0)) := HB.out
          have HO1 : Hid (BlkW (wr.drewN nq) w.heap.size 152 (List.replicate 64 0)) := HO.out
          have hb1 := below_drewN hb nq
          clear HB HO hb c2 c7 c15 c16 B1 B2 Z2
          generalize wr.drewN nq = W1 at f15 f7 f16 HB1 HO1 hb1 ⊢
          generalize near x2 = y2 at HX ⊢
          go_wp2_with fail
          go_quiet ((go_at_call 107; first | exact quiet_left (B3.out _) | exact quiet_left (B4.out _)))
          rw [Z15.out]
          have c7 : (W1.drewN nq).cell? ⟨w.heap.size + 1, t - 7, none⟩ = some (.int .u32 (x7.toNat : Int)) := f7
          have c16 : (W1.drewN nq).cell? ⟨w.heap.size + 1, t - 16, none⟩ = some (.int .u32 (x16.toNat : Int)) := f16
          have HB : Hid (BlkW (W1.drewN nq) (w.heap.size + 1) 152 (r ++ List.replicate (64 - t) 0)) := HB1.out
          have HO : Hid (BlkW (W1.drewN nq) w.heap.size 152 (List.replicate 64 0)) := HO1.out
          have hb := below_drewN hb1 nq
          clear HB1 HO1 hb1 f7 f15 f16 B3 B4 Z15
          generalize W1.drewN nq = W2 at c7 c16 HB HO hb ⊢
          generalize far x15 = y15 at HX ⊢
          obtain ⟨p1, hp1⟩ : ∃ p, y2 + x7 = p := ⟨_, rfl⟩
          obtain ⟨p2, hp2⟩ : ∃ p, p1 + y15 = p := ⟨_, rfl⟩
          obtain ⟨p3, hp3⟩ : ∃ p, p2 + x16 = p := ⟨_, rfl⟩
          have HY : Hid (nextW r = p3) := by rw [HX.out, hp1, hp2, hp3]; rfl
          have E1 := add_mod32 _ _ _ hp1
          have E2 := add_mod32 _ _ _ hp2
          have E3 := add_mod32 _ _ _ hp3
          clear hp1 hp2 hp3 HX
          go_wp2_with fail
          refine wp_region_last_drewN 15 _ (by kernel_rfl) rfl rfl rfl rfl (by kernel_rfl) (by kernel_rfl) ?_
          simp only [List.take_succ_cons, List.take_zero]
          repeat (go_big_quiet_step (fail))
          refine wpQuiet_nil ?_
          intro _ hw'
          obtain ⟨nq, hw''⟩ := hw'
          subst hw''
          have HB1 : BlkW (W2.drewN nq) (w.heap.size + 1) 152 (r ++ List.replicate (64 - t) 0) := HB.out
          have HO1 : BlkW (W2.drewN nq) w.heap.size 152 (List.replicate 64 0) := HO.out
          have hb1 := below_drewN hb nq
          clear HB HO hb c7 c16
          generalize W2.drewN nq = W3 at HB1 HO1 hb1 ⊢
          have z1 := HB1.cell t (by simp [HL.out]; omega)
          have z2 := HB1.frozen t
          clear E1 E2
          rw [E3]
          clear E3
          go_wp2_with fail
          refine ⟨⟨t + 1, by omega, by omega, by simp, ?_, HO1.far _ (by simp) _, hb1.setCell (by simp) _⟩, by simp [intOf]; omega⟩
          have := HB1.set t p3
          have e := set_at r (64 - t) p3 (by omega)
          rw [HL.out] at e
          rw [e] at this
          rw [HN.out, HY.out]
          exact this
        · obtain rfl : t = 64 := by omega
          have hfin : extW (64 - 16) (firstW (bl s) 16) ++ List.replicate (64 - 64) 0 = sched (bl s) := by simp [sched]
          rw [hfin] at hB
          have hl := sched_length (bl s)
          have HL := Lib.hid hl
          have HB := Lib.hid hB; have HO := Lib.hid hO
          have hbs := below_setCells (Nat.le_refl w.heap.size) (Wd (sched (bl s))) 0 wr hb
          have hst := hO.stored (sched (bl s)) (by rw [sched_length]; simp)
          clear hfin hb hB hO ht0 ht hlt
          have HS := Lib.hid hst
          have HD := Lib.hid hbs
          clear hst hbs hl
          go_upto_region 13 with fail
          refine wp_region_lit ?_
          refine load_blk rfl _ _ rfl (w.heap.size + 1) rfl HB.out Tryd.underlying152 rfl (by rw [HL.out]; kernel_rfl) ?_
          refine store_blk rfl rfl _ _ _ rfl w.heap.size rfl (l' := sched (bl s)) rfl HO.out (by rw [HL.out]; simp) (by rw [List.length_replicate]; kernel_rfl) ?_
          refine wpList_nil ?_
          generalize World.setCells wr _ _ _ = W at HS HD ⊢
          rename_i K hK
          refine hK _ _ ?_
          refine wp_ret ?_
          refine bodyPost_ret (results_blk (p := 2) (T := 152) (by kernel_rfl) _ _ w.heap.size rfl HS.out Tryd.underlying152 rfl (by rw [HL.out]; kernel_rfl)) rfl ⟨rfl, HD.out⟩
end Go.Proofs.YtdnjieffbgmagaaDoor

/- The contract of digest.mixed: eight words mixed with a block. -/
namespace Go.Proofs.YtdnjieffbgmagaaDoor
open Go.RowKit
/-- the keys lie in their variable -/
def KeysAt (w : World) : Prop := ∀ i, i < 64 → w.cell? ⟨2, i, none⟩ = some (.int .u32 ((keysL.getD i 0).toNat : Int))
theorem KeysAt.lt {w : World} (h : KeysAt w) : 2 < w.heap.size := World.block_lt_of_cell? w _ (h 0 (by omega))
theorem KeysAt.on {w w' : World} (h : KeysAt w) (hb : Below w.heap.size w w') : KeysAt w' := by
  intro i hi
  rw [hb.cell (p := ⟨2, i, none⟩) h.lt]
  exact h i hi
theorem KeysAt.drewN {w : World} (h : KeysAt w) (n : Nat) : KeysAt (w.drewN n) := h
theorem KeysAt.far {w : World} (h : KeysAt w) (a : Addr) (ha : a.block ≠ 2) (v : Value) : KeysAt (w.setCell a v) := by
  intro i hi
  rw [World.cell?_setCell_other]
  · exact h i hi
  · rintro rfl; exact ha rfl
theorem KeysAt.below {n : Nat} {w w' : World} (h : KeysAt w) (hb : Below n w w') (hn : 2 < n) : KeysAt w' := by
  intro i hi
  rw [hb.cell (p := ⟨2, i, none⟩) hn]
  exact h i hi

def uv (x : BitVec 32) : Value := .int .u32 (x.toNat : Int)
theorem uv_eq (x : BitVec 32) : uv x = .int .u32 (x.toNat : Int) := rfl
theorem bigE_bits (e m : BitVec 32) (h : bigE e = m) : bits .xor .u32 (bits .xor .u32 ((rr e 6).toNat : Int) ((rr e 11).toNat : Int)) ((rr e 25).toNat : Int) = (m.toNat : Int) := by
  subst h; rw [bits_xor32, bits_xor32]; rfl
theorem bigA_bits (a m : BitVec 32) (h : bigA a = m) : bits .xor .u32 (bits .xor .u32 ((rr a 2).toNat : Int) ((rr a 13).toNat : Int)) ((rr a 22).toNat : Int) = (m.toNat : Int) := by
  subst h; rw [bits_xor32, bits_xor32]; rfl
theorem chE_bits (e f g m : BitVec 32) (h : chE e f g = m) : bits .xor .u32 (bits .and .u32 (e.toNat : Int) (f.toNat : Int)) (bits .and .u32 (bits .xor .u32 4294967295 (e.toNat : Int)) (g.toNat : Int)) = (m.toNat : Int) := by
  subst h; rw [not32, bits_and32, bits_and32, bits_xor32]; rfl
theorem majA_bits (a b c m : BitVec 32) (h : majA a b c = m) : bits .xor .u32 (bits .xor .u32 (bits .and .u32 (a.toNat : Int) (b.toNat : Int)) (bits .and .u32 (a.toNat : Int) (c.toNat : Int))) (bits .and .u32 (b.toNat : Int) (c.toNat : Int)) = (m.toNat : Int) := by
  subst h; rw [bits_and32, bits_and32, bits_and32, bits_xor32, bits_xor32]; rfl
theorem index8 (a b c d e f g h : BitVec 32) (k : Nat) (hk : k < 8) (w : World) :
    (Instr.index 144 (.agg #[.int .u32 (a.toNat : Int), .int .u32 (b.toNat : Int), .int .u32 (c.toNat : Int), .int .u32 (d.toNat : Int), .int .u32 (e.toNat : Int), .int .u32 (f.toNat : Int), .int .u32 (g.toNat : Int), .int .u32 (h.toNat : Int)]) (.int .i64 (k : Int))).run Tryd.prog w = .ok (.int .u32 (([a, b, c, d, e, f, g, h].getD k 0).toNat : Int)) w := by
  rcases k with _ | _ | _ | _ | _ | _ | _ | _ | k
  all_goals first | (exfalso; omega) | kernel_rfl
/-- the words, the first k of them added -/
def partS (s u : S8) (k : Nat) : List (BitVec 32) := (addS s u).l.take k ++ s.l.drop k
theorem partS_length (s u : S8) (k : Nat) (h : k ≤ 8) : (partS s u k).length = 8 := by
  unfold partS
  rw [List.length_append, List.length_take, List.length_drop, S8.l_length, S8.l_length]; omega
theorem partS_get (s u : S8) (k : Nat) (h : k < 8) : (partS s u k).getD k 0 = s.l.getD k 0 := by
  rcases k with _ | _ | _ | _ | _ | _ | _ | _ | k
  all_goals first | rfl | omega
theorem partS_set (s u : S8) (k : Nat) (h : k < 8) : (partS s u k).set k (s.l.getD k 0 + u.l.getD k 0) = partS s u (k + 1) := by
  rcases k with _ | _ | _ | _ | _ | _ | _ | _ | k
  all_goals first | rfl | omega
def AddRelM (w : World) (s u : S8) (i : Value) (wr : World) : Prop :=
  ∃ k : Nat, k ≤ 8 ∧ i = .int .i64 (k : Int) ∧ BlkW wr w.heap.size 144 (partS s u k) ∧ BlkW wr (w.heap.size + 1) 144 (List.replicate 8 0) ∧ Below w.heap.size w wr
def MixRel (w : World) (s : S8) (ws : List (BitVec 32)) (B2 : Nat) (a b c d e f g h i : Value) (wr : World) : Prop :=
  ∃ k : Nat, ∃ u : S8, k ≤ 64 ∧ i = .int .i64 (k : Int) ∧ u = runS keysL ws s k ∧ a = uv u.a ∧ b = uv u.b ∧ c = uv u.c ∧ d = uv u.d ∧ e = uv u.e ∧ f = uv u.f ∧ g = uv u.g ∧ h = uv u.h ∧
    BlkW wr w.heap.size 144 s.l ∧ BlkW wr (w.heap.size + 1) 144 (List.replicate 8 0) ∧ BlkW wr B2 152 ws ∧ KeysAt wr ∧ Below w.heap.size w wr

set_option maxRecDepth 100000 in
set_option maxHeartbeats 8000000 in
theorem mixed_any (s : S8) (b : ByteArray) (hb64 : b.size = 64) (w : World) (hK : KeysAt w) :
    Calls Tryd.prog 104 #[.agg (Wd s.l).toArray, .string b] w fun e w' => e = .returned (.agg (Wd (mixS s (bl b)).l).toArray) ∧ Below w.heap.size w w' := by
  have HSP := Lib.hid (spread_any b hb64)
  go_enter Tryd.func104, Tryd.ntmps104
  go_wp2_with fail
  have hS : BlkW ((w.alloc (.cells (Wd s.l).toArray 144)).alloc (.cells #[.int .u32 0, .int .u32 0, .int .u32 0, .int .u32 0, .int .u32 0, .int .u32 0, .int .u32 0, .int .u32 0] 144)) w.heap.size 144 s.l := (BlkW.fresh _ _ _ _ rfl _ rfl).alloc _
  have hR : BlkW ((w.alloc (.cells (Wd s.l).toArray 144)).alloc (.cells #[.int .u32 0, .int .u32 0, .int .u32 0, .int .u32 0, .int .u32 0, .int .u32 0, .int .u32 0, .int .u32 0] 144)) (w.heap.size + 1) 144 (List.replicate 8 0) := BlkW.fresh _ _ _ _ (by rfl) _ (by simp)
  have hB : Below w.heap.size w ((w.alloc (.cells (Wd s.l).toArray 144)).alloc (.cells #[.int .u32 0, .int .u32 0, .int .u32 0, .int .u32 0, .int .u32 0, .int .u32 0, .int .u32 0, .int .u32 0] 144)) := by go_grown
  generalize World.alloc (World.alloc w _) _ = W0 at hS hR hB ⊢
  have hle := hK.lt
  replace hK : KeysAt W0 := hK.on hB
  refine (HSP.out _).mono ?_
  rintro e w1 ⟨rfl, hb1⟩
  replace hS := hS.on hb1
  replace hR := hR.on hb1
  replace hK := hK.on hb1
  replace hB : Below w.heap.size w w1 := hB.trans (hb1.mono hB.size)
  have hn := hR.lt
  obtain ⟨ws, hws⟩ : ∃ ws, sched (bl b) = ws := ⟨_, rfl⟩
  have hl : ws.length = 64 := by rw [← hws]; exact sched_length _
  rw [hws]
  have HW := Lib.hid hws
  have HL := Lib.hid hl
  have HSS := Lib.hid hS; have HR := Lib.hid hR; have HK := Lib.hid hK
  clear hb1 HSP hws hl hS hR hK
  go_wp2_with (refine store_blk (by rfl) (by rfl) _ _ _ (by rfl) w1.heap.size (by rfl) (l' := ws) (by rfl) (BlkW.fresh w1 152 (List.replicate 64 0) _ (by rfl) _ rfl) (by rw [HL.out]; simp) (by rw [List.length_replicate]; kernel_rfl) ?_)
  have hP : BlkW ((w1.alloc (.cells (Wd (List.replicate 64 0)).toArray 152)).setCells w1.heap.size 0 (Wd ws)) w1.heap.size 152 ws := (BlkW.fresh w1 152 (List.replicate 64 0) _ rfl _ rfl).stored ws (by rw [HL.out]; simp)
  have hBB : Below w1.heap.size w1 ((w1.alloc (.cells (Wd (List.replicate 64 0)).toArray 152)).setCells w1.heap.size 0 (Wd ws)) := below_setCells (Nat.le_refl _) _ _ _ ((Below.refl _ _).alloc (Nat.le_refl _) _)
  have hS := HSS.out.on hBB
  have hR := HR.out.on hBB
  have hK := HK.out.on hBB
  replace hB : Below w.heap.size w _ := hB.trans (hBB.mono hB.size)
  clear hBB HSS HR HK
  change Code.wp Tryd.prog _ _ _ ((w1.alloc (.cells (Wd (List.replicate 64 0)).toArray 152)).setCells w1.heap.size 0 (Wd ws))
  generalize World.setCells (World.alloc w1 _) _ _ _ = W2 at hS hR hK hB hP ⊢
  generalize w1.heap.size = B2 at hP ⊢ hn
  clear hb64
  have c0 : W2.cell? ⟨w.heap.size, 0, none⟩ = some (uv s.a) := hS.cell 0 (by show _ < 8; omega)
  have c1 : W2.cell? ⟨w.heap.size, 1, none⟩ = some (uv s.b) := hS.cell 1 (by show _ < 8; omega)
  have c2 : W2.cell? ⟨w.heap.size, 2, none⟩ = some (uv s.c) := hS.cell 2 (by show _ < 8; omega)
  have c3 : W2.cell? ⟨w.heap.size, 3, none⟩ = some (uv s.d) := hS.cell 3 (by show _ < 8; omega)
  have c4 : W2.cell? ⟨w.heap.size, 4, none⟩ = some (uv s.e) := hS.cell 4 (by show _ < 8; omega)
  have c5 : W2.cell? ⟨w.heap.size, 5, none⟩ = some (uv s.f) := hS.cell 5 (by show _ < 8; omega)
  have c6 : W2.cell? ⟨w.heap.size, 6, none⟩ = some (uv s.g) := hS.cell 6 (by show _ < 8; omega)
  have c7 : W2.cell? ⟨w.heap.size, 7, none⟩ = some (uv s.h) := hS.cell 7 (by show _ < 8; omega)
  have HSS := Lib.hid hS; have HR := Lib.hid hR; have HK := Lib.hid hK; have HP := Lib.hid hP
  clear hS hR hK hP
  go_quiet (fail)
  replace HSS : BlkW (W2.drewN nq) w.heap.size 144 s.l := HSS.out
  replace HR : BlkW (W2.drewN nq) (w.heap.size + 1) 144 (List.replicate 8 0) := HR.out
  replace HK : KeysAt (W2.drewN nq) := HK.out
  replace HP : BlkW (W2.drewN nq) B2 152 ws := HP.out
  replace hB := below_drewN hB nq
  clear c0 c1 c2 c3 c4 c5 c6 c7
  generalize W2.drewN nq = W3 at HSS HR HK HP hB ⊢
  go_wp2_with fail
  go_loopw [6, 7, 8, 9, 10, 11, 12, 13, 37] (MixRel w s ws B2) (fun _ _ _ _ _ _ _ _ i _ => 64 - (intOf i).toNat)
  case atStart => exact ⟨0, s, by omega, rfl, rfl, rfl, rfl, rfl, rfl, rfl, rfl, rfl, rfl, HSS, HR, HP, HK, hB⟩
  case round =>
    clear HSS HR HP HK hB
    obtain ⟨k, u, hk, rfl, hu, rfl, rfl, rfl, rfl, rfl, rfl, rfl, rfl, hS, hR, hP, hK, hB⟩ := hrel
    by_cases hlt : k < 64
    · have h1 : (k : Int) < 64 := by omega
      have hl : ws.length = 64 := HL.out
      have ck := hK k (by omega)
      have cx := hP.cell k (by omega)
      obtain ⟨key, hkey⟩ : ∃ x, keysL.getD k 0 = x := ⟨_, rfl⟩
      obtain ⟨x, hx⟩ : ∃ x, ws.getD k 0 = x := ⟨_, rfl⟩
      rw [hkey] at ck
      rw [hx] at cx
      obtain ⟨a, b', c, d, e, f, g, h⟩ := u
      obtain ⟨m1, hm1⟩ : ∃ x, bigE e = x := ⟨_, rfl⟩
      obtain ⟨m2, hm2⟩ : ∃ x, chE e f g = x := ⟨_, rfl⟩
      obtain ⟨m3, hm3⟩ : ∃ x, bigA a = x := ⟨_, rfl⟩
      obtain ⟨m4, hm4⟩ : ∃ x, majA a b' c = x := ⟨_, rfl⟩
      obtain ⟨p1, hp1⟩ : ∃ x, h + m1 = x := ⟨_, rfl⟩
      obtain ⟨p2, hp2⟩ : ∃ x, p1 + m2 = x := ⟨_, rfl⟩
      obtain ⟨p3, hp3⟩ : ∃ x, p2 + key = x := ⟨_, rfl⟩
      obtain ⟨t1, ht1⟩ : ∃ y, p3 + x = y := ⟨_, rfl⟩
      obtain ⟨t2, ht2⟩ : ∃ x, m3 + m4 = x := ⟨_, rfl⟩
      obtain ⟨a', ha'⟩ : ∃ x, t1 + t2 = x := ⟨_, rfl⟩
      obtain ⟨e', he'⟩ : ∃ x, d + t1 = x := ⟨_, rfl⟩
      have hnext : (⟨a', a, b', c, e', e, f, g⟩ : S8) = runS keysL ws s (k + 1) := by
        show _ = stepS (keysL.getD k 0) (ws.getD k 0) (runS keysL ws s k)
        rw [← hu, hkey, hx, ← ha', ← he', ← ht1, ← ht2, ← hp3, ← hp2, ← hp1, ← hm1, ← hm2, ← hm3, ← hm4]
        rfl
      have X1 := bigE_bits e m1 hm1
      have X2 := chE_bits e f g m2 hm2
      have X3 := bigA_bits a m3 hm3
      have X4 := majA_bits a b' c m4 hm4
      have E1 := add_mod32 _ _ _ hp1
      have E2 := add_mod32 _ _ _ hp2
      have E3 := add_mod32 _ _ _ hp3
      have E4 := add_mod32 _ _ _ ht1
      have E5 := add_mod32 _ _ _ ht2
      have E6 := add_mod32 _ _ _ ha'
      have E7 := add_mod32 _ _ _ he'
      clear hu hkey hx hm1 hm2 hm3 hm4 hp1 hp2 hp3 ht1 ht2 ha' he' hl
      have A1 := ror_any e 6 (by omega) (by omega)
      have A2 := ror_any e 11 (by omega) (by omega)
      have A3 := ror_any e 25 (by omega) (by omega)
      have A4 := ror_any a 2 (by omega) (by omega)
      have A5 := ror_any a 13 (by omega) (by omega)
      have A6 := ror_any a 22 (by omega) (by omega)
      generalize rr e 6 = r1 at A1 X1
      generalize rr e 11 = r2 at A2 X1
      generalize rr e 25 = r3 at A3 X1
      generalize rr a 2 = r4 at A4 X3
      generalize rr a 13 = r5 at A5 X3
      generalize rr a 22 = r6 at A6 X3
      have B1 := Lib.hid A1; have B2 := Lib.hid A2; have B3 := Lib.hid A3; have B4 := Lib.hid A4; have B5 := Lib.hid A5; have B6 := Lib.hid A6
      clear A1 A2 A3 A4 A5 A6
      have HS := Lib.hid hS; have HR := Lib.hid hR; have HK := Lib.hid hK; have HP := Lib.hid hP; have HN := Lib.hid hnext
      clear hS hR hK hP hnext
      have hnot : (if IntKind.u32.signed = true then (-1 : Int) else IntKind.u32.max) = 4294967295 := by rfl
      simp only [uv_eq]
      go_wp2_with fail
      go_quiet ((go_at_call 107; first | exact quiet_left (B1.out _) | exact quiet_left (B2.out _) | exact quiet_left (B3.out _)))
      clear hnot X1 X2 E1 E2 E3 ck cx B1 B2 B3
      replace HS : Hid (BlkW (wr.drewN nq) w.heap.size 144 s.l) := HS.out
      replace HR : Hid (BlkW (wr.drewN nq) (w.heap.size + 1) 144 (List.replicate 8 0)) := HR.out
      replace HK : Hid (KeysAt (wr.drewN nq)) := HK.out
      replace HP : Hid (BlkW (wr.drewN nq) _ 152 ws) := HP.out
      replace hB := below_drewN hB nq
      generalize wr.drewN nq = W5 at HS HR HK HP hB ⊢
      rw [E4]
      clear E4
      go_wp2_with (go_at_call 107; (first | refine (B4.out _).mono ?_ | refine (B5.out _).mono ?_ | refine (B6.out _).mono ?_); rintro e w' ⟨rfl, rfl⟩)
      exact ⟨⟨k + 1, _, by omega, by simp, HN.out, (by first | rfl | exact congrArg (Value.int .u32) E6), rfl, rfl, rfl, (by first | rfl | exact congrArg (Value.int .u32) E7), rfl, rfl, rfl, HS.out, HR.out, HP.out, HK.out, hB⟩, by simp [intOf]; omega⟩
    · obtain rfl : k = 64 := by omega
      clear hlt hk
      have hfin : addS s u = mixS s (bl b) := by rw [hu]; unfold mixS; rw [HW.out]
      have HF := Lib.hid hfin
      clear hfin hu hP hK
      have HS := Lib.hid hS; have HR := Lib.hid hR
      clear hS hR
      simp only [uv_eq]
      have hix := index8 u.a u.b u.c u.d u.e u.f u.g u.h
      have HI := Lib.hid hix
      clear hix
      go_wp2_with fail
      go_loopw [109] (AddRelM w s u) (fun i _ => 8 - (intOf i).toNat)
      case atStart => exact ⟨0, by omega, rfl, HS.out, HR.out, hB⟩
      case round =>
        clear HS HR hB
        obtain ⟨j, hj, rfl, hS, hR, hB⟩ := hrel
        by_cases hlt : j < 8
        · have h1 : (j : Int) < 8 := by omega
          have hix : ∀ W : World, _ := fun W => HI.out j hlt W
          have cj := hS.cell j (by rw [partS_length _ _ _ hj]; omega)
          have fj := hS.frozen j
          rw [partS_get _ _ _ hlt] at cj
          have hset := partS_set s u j hlt
          have hst := hS.set j (s.l.getD j 0 + u.l.getD j 0)
          rw [hset] at hst
          have hu : [u.a, u.b, u.c, u.d, u.e, u.f, u.g, u.h].getD j 0 = u.l.getD j 0 := rfl
          rw [hu] at hix
          clear hset hu HI
          generalize s.l.getD j 0 = x at hst cj
          generalize u.l.getD j 0 = y at hst hix
          obtain ⟨z, hz⟩ : ∃ z, x + y = z := ⟨_, rfl⟩
          rw [hz] at hst
          have E := add_mod32 _ _ _ hz
          have HT := Lib.hid hst; have HS := Lib.hid hS; have HR := Lib.hid hR
          clear hst hS hR hz
          go_wp2_with fail
          exact ⟨⟨j + 1, by omega, by simp, HT.out, HR.out.far _ (by simp) _, hB.setCell (Nat.le_refl _) _⟩, by simp [intOf]; omega⟩
        · obtain rfl : j = 8 := by omega
          have hfin : partS s u 8 = (mixS s (bl b)).l := by rw [← HF.out]; rfl
          rw [hfin] at hS
          have hst := hR.stored (mixS s (bl b)).l (by simp [S8.l_length])
          have hbs := below_setCells (show w.heap.size ≤ w.heap.size + 1 by omega) (Wd (mixS s (bl b)).l) 0 wr hB
          have HS := Lib.hid hS; have HR := Lib.hid hR; have HT := Lib.hid hst; have HD := Lib.hid hbs
          clear hS hR hst hbs hB hfin hj hlt HF
          go_upto_region 15 with fail
          refine wp_region_lit ?_
          refine load_blk rfl _ _ rfl w.heap.size rfl HS.out Tryd.underlying144 rfl (by rw [S8.l_length]; kernel_rfl) ?_
          refine store_blk rfl rfl _ _ _ rfl (w.heap.size + 1) rfl (l' := (mixS s (bl b)).l) rfl HR.out (by rw [S8.l_length]; simp) (by rw [List.length_replicate]; kernel_rfl) ?_
          refine wpList_nil ?_
          generalize World.setCells wr _ _ _ = W at HT HD ⊢
          rename_i K hK
          refine hK _ _ ?_
          refine wp_ret ?_
          refine bodyPost_ret (results_blk (p := 4) (T := 144) (by kernel_rfl) _ _ (w.heap.size + 1) rfl HT.out Tryd.underlying144 rfl (by rw [S8.l_length]; kernel_rfl)) rfl ⟨rfl, HD.out⟩
end Go.Proofs.YtdnjieffbgmagaaDoor
