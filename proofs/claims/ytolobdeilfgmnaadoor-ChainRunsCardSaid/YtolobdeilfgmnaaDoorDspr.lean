/- The contract of digest.spread: a block's 64 words. -/
import Derived.Test.YtolobdeilfgmnaaDoorDror
import Derived.Test.YtolobdeilfgmnaaDoorQl
import Derived.Test.YtolobdeilfgmnaaDoorKa
import Derived.Laws.DeepStrings4
import Derived.Deep.Cut
import Derived.Outline
namespace Go.Proofs.YtolobdeilfgmnaaDoor
open Go.RowKit
theorem word_part (s : ByteArray) (k : Nat) (h : 4 * k + 4 ≤ s.size) (h4 : (s.extract (4 * k) (4 * k + 4)).size = 4) :
    word4 (s.extract (4 * k) (4 * k + 4))[0] (s.extract (4 * k) (4 * k + 4))[1] (s.extract (4 * k) (4 * k + 4))[2] (s.extract (4 * k) (4 * k + 4))[3] = wdAt (bl s) k := by
  unfold wdAt
  rw [bl_get s (4 * k) (by omega), bl_get s (4 * k + 1) (by omega), bl_get s (4 * k + 2) (by omega), bl_get s (4 * k + 3) (by omega)]
  simp only [ByteArray.getElem_extract, Nat.add_zero]

def SprA (w : World) (b : List UInt8) (i : Value) (wr : World) : Prop := ∃ k : Nat, k ≤ 16 ∧ i = .int .i64 k ∧ BlkW wr (w.heap.size + 1) 108 (firstW b k ++ List.replicate (64 - k) 0) ∧ BlkW wr w.heap.size 108 (List.replicate 64 0) ∧ Below w.heap.size w wr
def SprB (w : World) (b : List UInt8) (i : Value) (wr : World) : Prop := ∃ t : Nat, 16 ≤ t ∧ t ≤ 64 ∧ i = .int .i64 (t : Int) ∧ BlkW wr (w.heap.size + 1) 108 (extW (t - 16) (firstW b 16) ++ List.replicate (64 - t) 0) ∧ BlkW wr w.heap.size 108 (List.replicate 64 0) ∧ Below w.heap.size w wr
theorem near_bits (x : BitVec 32) : bits .xor .u32 (bits .xor .u32 ((rr x 17).toNat : Int) ((rr x 19).toNat : Int)) ((x.toNat : Int) / 1024) = ((near x).toNat : Int) := by
  have e : (x.toNat : Int) / (1024 : Int) = ((x >>> 10).toNat : Int) := shr32 x 10
  rw [e, bits_xor32, bits_xor32]; rfl
theorem far_bits (x : BitVec 32) : bits .xor .u32 (bits .xor .u32 ((rr x 7).toNat : Int) ((rr x 18).toNat : Int)) ((x.toNat : Int) / 8) = ((far x).toNat : Int) := by
  have e : (x.toNat : Int) / (8 : Int) = ((x >>> 3).toNat : Int) := shr32 x 3
  rw [e, bits_xor32, bits_xor32]; rfl
theorem set_at (l : List (BitVec 32)) (n : Nat) (x : BitVec 32) (h : 0 < n) : (l ++ List.replicate n 0).set l.length x = (l ++ [x]) ++ List.replicate (n - 1) 0 := by
  obtain ⟨m, rfl⟩ : ∃ m, n = m + 1 := ⟨n - 1, by omega⟩
  simp [List.replicate_succ]

set_option maxRecDepth 100000 in
set_option maxHeartbeats 1000000 in
theorem spread_any (s : ByteArray) (hs : s.size = 64) (w : World) :
    Calls Tryd.prog 63 #[.string s] w fun e w' => e = .returned (.agg (Wd (sched (bl s))).toArray) ∧ Below w.heap.size w w' := by
  go_enter Tryd.func63, Tryd.ntmps63
  go_wp2_with fail
  go_loopw [8] (SprA w (bl s)) (fun i _ => 16 - (intOf i).toNat)
  case atStart =>
    refine ⟨0, by omega, rfl, BlkW.fresh _ _ _ _ (by rfl) _ (by simp), (BlkW.fresh _ _ _ _ (by rfl) _ rfl).alloc _, by go_grown⟩
  case round =>
    obtain ⟨k, hk, rfl, hB, hO, hb⟩ := hrel
    by_cases hlt : k < 16
    · have h4 : (s.extract (4 * k) (4 * k + 4)).size = 4 := by rw [ByteArray.size_extract]; omega
      have hc := wordOf_any (s.extract (4 * k) (4 * k + 4)) h4
      rw [word_part s k (by omega) h4] at hc
      have HC := Lib.hid hc
      clear hc
      have h1 : (k : Int) < 16 := by omega
      have h1' : (k : Int) < 64 := by omega
      have e1 : IntKind.i64.wrap (4 * (k : Int)) = 4 * (k : Int) := IntWalk.i64_in _ (by omega)
      have e2 : IntKind.i64.wrap (4 * (k : Int) + 4) = 4 * (k : Int) + 4 := IntWalk.i64_in _ (by omega)
      have e3 : (4 * (k : Int)).toNat = 4 * k := by omega
      have e4 : (4 * (k : Int) + 4).toNat = 4 * k + 4 := by omega
      have hsl := fun W : World => str_slice (P := Tryd.prog) 9 Tryd.underlying9 s (4 * (k : Int)) (4 * (k : Int) + 4) (4 * k) (4 * k + 4) (by omega) (by omega) (by omega) (by omega) W
      clear h4
      obtain ⟨x, hx⟩ : ∃ x, wdAt (bl s) k = x := ⟨_, rfl⟩
      rw [hx] at HC
      have HX := Lib.hid hx
      clear hx
      have HB := Lib.hid hB
      have HO := Lib.hid hO
      clear hB hO
      go_wp2_with fail
      refine (HC.out _).mono ?_
      rintro e w1 ⟨rfl, n, rfl⟩
      obtain ⟨W, hW⟩ : ∃ W, wr.drewN n = W := ⟨_, rfl⟩
      have hB : BlkW W (w.heap.size + 1) 108 (firstW (bl s) k ++ List.replicate (64 - k) 0) := by rw [← hW]; exact HB.out
      have hO : BlkW W w.heap.size 108 (List.replicate 64 0) := by rw [← hW]; exact HO.out
      have hb' : Below w.heap.size w W := by rw [← hW]; exact below_drewN hb n
      rw [hW]
      clear hW hb HB HO HC
      have y1 := hB.cell k (by simp [firstW_length]; omega)
      have y2 := hB.frozen k
      go_wp2_with fail
      refine ⟨⟨k + 1, by omega, by simp, ?_, hO.far _ (by simp) _, hb'.setCell (by simp) _⟩, by simp [intOf]; omega⟩
      have := hB.set k x
      have e := set_at (firstW (bl s) k) (64 - k) x (by omega)
      rw [firstW_length] at e
      rw [e] at this
      rw [show firstW (bl s) (k + 1) = firstW (bl s) k ++ [x] by rw [← HX.out]; rfl]
      exact this
    · obtain rfl : k = 16 := by omega
      have HB := Lib.hid hB
      have HO := Lib.hid hO
      clear hB hO hk hlt
      go_wp2_with fail
      go_loopw [5] (SprB w (bl s)) (fun i _ => 64 - (intOf i).toNat)
      case atStart => exact ⟨16, by omega, by omega, rfl, HB.out, HO.out, hb⟩
      case round =>
        clear HB HO hb
        obtain ⟨t, ht0, ht, rfl, hB, hO, hb⟩ := hrel
        by_cases hlt : t < 64
        · have h1 : (t : Int) < 64 := by omega
          have e2 : IntKind.i64.wrap ((t : Int) - 2) = (t : Int) - 2 := IntWalk.i64_in _ (by omega)
          have n2 : ((t : Int) - 2).toNat = t - 2 := by omega
          have e15 : IntKind.i64.wrap ((t : Int) - 15) = (t : Int) - 15 := IntWalk.i64_in _ (by omega)
          have n15 : ((t : Int) - 15).toNat = t - 15 := by omega
          have e7 : IntKind.i64.wrap ((t : Int) - 7) = (t : Int) - 7 := IntWalk.i64_in _ (by omega)
          have n7 : ((t : Int) - 7).toNat = t - 7 := by omega
          have e16 : IntKind.i64.wrap ((t : Int) - 16) = (t : Int) - 16 := IntWalk.i64_in _ (by omega)
          have n16 : ((t : Int) - 16).toNat = t - 16 := by omega
          have l2 : (0 : Int) ≤ (t : Int) - 2 := by omega
          have m2 : (t : Int) - 2 < 64 := by omega
          have l15 : (0 : Int) ≤ (t : Int) - 15 := by omega
          have m15 : (t : Int) - 15 < 64 := by omega
          have l7 : (0 : Int) ≤ (t : Int) - 7 := by omega
          have m7 : (t : Int) - 7 < 64 := by omega
          have l16 : (0 : Int) ≤ (t : Int) - 16 := by omega
          have m16 : (t : Int) - 16 < 64 := by omega
          have hl : (extW (t - 16) (firstW (bl s) 16)).length = t := by rw [extW_length, firstW_length]; omega
          have hnext : extW (t + 1 - 16) (firstW (bl s) 16) = extW (t - 16) (firstW (bl s) 16) ++ [nextW (extW (t - 16) (firstW (bl s) 16))] := by
            rw [show t + 1 - 16 = (t - 16) + 1 by omega]; rfl
          obtain ⟨r, hr⟩ : ∃ r, extW (t - 16) (firstW (bl s) 16) = r := ⟨_, rfl⟩
          rw [hr] at hB hl hnext
          obtain ⟨x2, q2⟩ : ∃ x, r.getD (t - 2) 0 = x := ⟨_, rfl⟩
          obtain ⟨x7, q7⟩ : ∃ x, r.getD (t - 7) 0 = x := ⟨_, rfl⟩
          obtain ⟨x15, q15⟩ : ∃ x, r.getD (t - 15) 0 = x := ⟨_, rfl⟩
          obtain ⟨x16, q16⟩ : ∃ x, r.getD (t - 16) 0 = x := ⟨_, rfl⟩
          have g : ∀ i, i < t → (r ++ List.replicate (64 - t) 0).getD i 0 = r.getD i 0 := by
            intro i hi
            rw [List.getD_eq_getElem?_getD, List.getD_eq_getElem?_getD, List.getElem?_append_left (by omega)]
          have c2 := hB.cell (t - 2) (by simp [hl]; omega)
          have c7 := hB.cell (t - 7) (by simp [hl]; omega)
          have c15 := hB.cell (t - 15) (by simp [hl]; omega)
          have c16 := hB.cell (t - 16) (by simp [hl]; omega)
          rw [g _ (by omega)] at c2 c7 c15 c16
          rw [q2] at c2
          rw [q7] at c7
          rw [q15] at c15
          rw [q16] at c16
          have hx : nextW r = near x2 + x7 + far x15 + x16 := by
            unfold nextW; rw [hl, q2, q7, q15, q16]
          have HL := Lib.hid hl; have HN := Lib.hid hnext; have HX := Lib.hid hx; have HR := Lib.hid hr
          have HB := Lib.hid hB; have HO := Lib.hid hO
          clear hl hnext hx hr hB hO q2 q7 q15 q16 g
          have Z2 := Lib.hid (near_bits x2)
          have Z15 := Lib.hid (far_bits x15)
          have A1 := ror_any x2 17 (by omega) (by omega)
          have A2 := ror_any x2 19 (by omega) (by omega)
          have A3 := ror_any x15 7 (by omega) (by omega)
          have A4 := ror_any x15 18 (by omega) (by omega)
          generalize rr x2 17 = a1 at A1 Z2
          generalize rr x2 19 = a2 at A2 Z2
          generalize rr x15 7 = a3 at A3 Z15
          generalize rr x15 18 = a4 at A4 Z15
          have B1 := Lib.hid A1; have B2 := Lib.hid A2; have B3 := Lib.hid A3; have B4 := Lib.hid A4
          clear A1 A2 A3 A4
          go_wp2_with fail
          go_quiet ((go_at_call 64; first | exact quiet_left (B1.out _) | exact quiet_left (B2.out _)))
          rw [Z2.out]
          have f15 : (wr.drewN nq).cell? ⟨w.heap.size + 1, t - 15, none⟩ = some (.int .u32 (x15.toNat : Int)) := c15
          have f7 : (wr.drewN nq).cell? ⟨w.heap.size + 1, t - 7, none⟩ = some (.int .u32 (x7.toNat : Int)) := c7
          have f16 : (wr.drewN nq).cell? ⟨w.heap.size + 1, t - 16, none⟩ = some (.int .u32 (x16.toNat : Int)) := c16
          have HB1 : Hid (BlkW (wr.drewN nq) (w.heap.size + 1) 108 (r ++ List.replicate (64 - t) 0)) := HB.out
          have HO1 : Hid (BlkW (wr.drewN nq) w.heap.size 108 (List.replicate 64 0)) := HO.out
          have hb1 := below_drewN hb nq
          clear HB HO hb c2 c7 c15 c16 B1 B2 Z2
          generalize wr.drewN nq = W1 at f15 f7 f16 HB1 HO1 hb1 ⊢
          generalize near x2 = y2 at HX ⊢
          go_wp2_with fail
          go_quiet ((go_at_call 64; first | exact quiet_left (B3.out _) | exact quiet_left (B4.out _)))
          rw [Z15.out]
          have c7 : (W1.drewN nq).cell? ⟨w.heap.size + 1, t - 7, none⟩ = some (.int .u32 (x7.toNat : Int)) := f7
          have c16 : (W1.drewN nq).cell? ⟨w.heap.size + 1, t - 16, none⟩ = some (.int .u32 (x16.toNat : Int)) := f16
          have HB : Hid (BlkW (W1.drewN nq) (w.heap.size + 1) 108 (r ++ List.replicate (64 - t) 0)) := HB1.out
          have HO : Hid (BlkW (W1.drewN nq) w.heap.size 108 (List.replicate 64 0)) := HO1.out
          have hb := below_drewN hb1 nq
          clear HB1 HO1 hb1 f7 f15 f16 B3 B4 Z15
          generalize W1.drewN nq = W2 at c7 c16 HB HO hb ⊢
          generalize far x15 = y15 at HX ⊢
          obtain ⟨p1, hp1⟩ : ∃ p, y2 + x7 = p := ⟨_, rfl⟩
          obtain ⟨p2, hp2⟩ : ∃ p, p1 + y15 = p := ⟨_, rfl⟩
          obtain ⟨p3, hp3⟩ : ∃ p, p2 + x16 = p := ⟨_, rfl⟩
          have HY : Hid (nextW r = p3) := by rw [HX.out, hp1, hp2, hp3]; rfl
          have E1 := add_mod32 _ _ _ hp1
          have E2 := add_mod32 _ _ _ hp2
          have E3 := add_mod32 _ _ _ hp3
          clear hp1 hp2 hp3 HX
          go_wp2_with fail
          refine wp_region_last_drewN 15 _ (by kernel_rfl) rfl rfl rfl rfl (by kernel_rfl) (by kernel_rfl) ?_
          simp only [List.take_succ_cons, List.take_zero]
          repeat (go_big_quiet_step (fail))
          refine wpQuiet_nil ?_
          intro _ hw'
          obtain ⟨nq, hw''⟩ := hw'
          subst hw''
          have HB1 : BlkW (W2.drewN nq) (w.heap.size + 1) 108 (r ++ List.replicate (64 - t) 0) := HB.out
          have HO1 : BlkW (W2.drewN nq) w.heap.size 108 (List.replicate 64 0) := HO.out
          have hb1 := below_drewN hb nq
          clear HB HO hb c7 c16
          generalize W2.drewN nq = W3 at HB1 HO1 hb1 ⊢
          have z1 := HB1.cell t (by simp [HL.out]; omega)
          have z2 := HB1.frozen t
          clear E1 E2
          rw [E3]
          clear E3
          go_wp2_with fail
          refine ⟨⟨t + 1, by omega, by omega, by simp, ?_, HO1.far _ (by simp) _, hb1.setCell (by simp) _⟩, by simp [intOf]; omega⟩
          have := HB1.set t p3
          have e := set_at r (64 - t) p3 (by omega)
          rw [HL.out] at e
          rw [e] at this
          rw [HN.out, HY.out]
          exact this
        · obtain rfl : t = 64 := by omega
          have hfin : extW (64 - 16) (firstW (bl s) 16) ++ List.replicate (64 - 64) 0 = sched (bl s) := by simp [sched]
          rw [hfin] at hB
          have hl := sched_length (bl s)
          have HL := Lib.hid hl
          have HB := Lib.hid hB; have HO := Lib.hid hO
          have hbs := below_setCells (Nat.le_refl w.heap.size) (Wd (sched (bl s))) 0 wr hb
          have hst := hO.stored (sched (bl s)) (by rw [sched_length]; simp)
          clear hfin hb hB hO ht0 ht hlt
          have HS := Lib.hid hst
          have HD := Lib.hid hbs
          clear hst hbs hl
          go_upto_region 13 with fail
          refine wp_region_lit ?_
          refine load_blk rfl _ _ rfl (w.heap.size + 1) rfl HB.out Tryd.underlying108 rfl (by rw [HL.out]; kernel_rfl) ?_
          refine store_blk rfl rfl _ _ _ rfl w.heap.size rfl (l' := sched (bl s)) rfl HO.out (by rw [HL.out]; simp) (by rw [List.length_replicate]; kernel_rfl) ?_
          refine wpList_nil ?_
          generalize World.setCells wr _ _ _ = W at HS HD ⊢
          rename_i K hK
          refine hK _ _ ?_
          refine wp_ret ?_
          refine bodyPost_ret (results_blk (p := 2) (T := 108) (by kernel_rfl) _ _ w.heap.size rfl HS.out Tryd.underlying108 rfl (by rw [HL.out]; kernel_rfl)) rfl ⟨rfl, HD.out⟩
end Go.Proofs.YtolobdeilfgmnaaDoor