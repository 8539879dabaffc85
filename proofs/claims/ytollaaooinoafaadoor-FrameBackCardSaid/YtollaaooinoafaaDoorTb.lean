/- The package frame's small calls: number, text, isKey, isKind, fits, areKeys, wireKind. -/
import Derived.Test.YtollaaooinoafaaDoorTa
import Derived.Test.YtollaaooinoafaaDoorSg
import Derived.Test.YtollaaooinoafaaDoorPi
namespace Go.Proofs.YtollaaooinoafaaDoor
open Go.RowKit Go.Sort
set_option maxRecDepth 100000
set_option maxHeartbeats 400000 in
theorem fNumber_any (n : Nat) (w : World) :
    Calls Tryd.prog 36 #[.int .u64 (n : Int)] w fun e w' => e = .returned (pv (np n)) ∧ Below w.heap.size w w' := by
  have hS : BlkV (w.alloc (.cells #[.bool false, .int .u64 0, .string ⟨#[]⟩] 48)) w.heap.size 48 (pcs p0) := BlkV.fresh _ _ _ _ rfl _ rfl
  have hB : Below w.heap.size w (w.alloc (.cells #[.bool false, .int .u64 0, .string ⟨#[]⟩] 48)) := (Below.refl _ _).alloc (Nat.le_refl _) _
  have HS := Lib.hid hS; have HB := Lib.hid hB
  clear hS hB
  go_enter Tryd.func36, Tryd.ntmps36
  go_upto_region 1 with fail
  generalize World.alloc w _ = V at HS HB ⊢
  refine wp_region_lit ?_
  iterate 2 (refine wpList_step (fun K hK => ?_); go_simp; refine hK _ _ ?_; clear hK K)
  refine store_v rfl rfl _ _ _ rfl w.heap.size rfl (l' := pcs (np n)) rfl HS.out rfl (by intro v hv; simp [pcs] at hv; rcases hv with rfl | rfl | rfl <;> rfl) (by kernel_rfl) ?_
  refine wpList_nil ?_
  have hF := HS.out.stored (pcs (np n)) rfl
  have hBF := below_setCells (Nat.le_refl w.heap.size) (pcs (np n)) 0 _ HB.out
  generalize World.setCells V _ _ _ = W at hF hBF ⊢
  rename_i K hK
  refine hK _ _ ?_
  refine wp_ret ?_
  exact bodyPost_ret (results_v (p := 2) (T := 48) (by kernel_rfl) _ _ w.heap.size rfl hF Tryd.underlying48 rfl (by kernel_rfl)) rfl ⟨rfl, hBF⟩
set_option maxHeartbeats 400000 in
theorem fText_any (s : ByteArray) (w : World) :
    Calls Tryd.prog 35 #[.string s] w fun e w' => e = .returned (pv (tp s)) ∧ Below w.heap.size w w' := by
  have hS : BlkV (w.alloc (.cells #[.bool false, .int .u64 0, .string ⟨#[]⟩] 48)) w.heap.size 48 (pcs p0) := BlkV.fresh _ _ _ _ rfl _ rfl
  have hB : Below w.heap.size w (w.alloc (.cells #[.bool false, .int .u64 0, .string ⟨#[]⟩] 48)) := (Below.refl _ _).alloc (Nat.le_refl _) _
  have HS := Lib.hid hS; have HB := Lib.hid hB
  clear hS hB
  go_enter Tryd.func35, Tryd.ntmps35
  go_upto_region 1 with fail
  generalize World.alloc w _ = V at HS HB ⊢
  refine wp_region_lit ?_
  iterate 2 (refine wpList_step (fun K hK => ?_); go_simp; refine hK _ _ ?_; clear hK K)
  refine store_v rfl rfl _ _ _ rfl w.heap.size rfl (l' := pcs (tp s)) rfl HS.out rfl (by intro v hv; simp [pcs] at hv; rcases hv with rfl | rfl | rfl <;> rfl) (by kernel_rfl) ?_
  refine wpList_nil ?_
  have hF := HS.out.stored (pcs (tp s)) rfl
  have hBF := below_setCells (Nat.le_refl w.heap.size) (pcs (tp s)) 0 _ HB.out
  generalize World.setCells V _ _ _ = W at hF hBF ⊢
  rename_i K hK
  refine hK _ _ ?_
  refine wp_ret ?_
  exact bodyPost_ret (results_v (p := 2) (T := 48) (by kernel_rfl) _ _ w.heap.size rfl hF Tryd.underlying48 rfl (by kernel_rfl)) rfl ⟨rfl, hBF⟩
theorem size_beq (s : ByteArray) (n : Nat) : ((s.size : Int) == (n : Int)) = decide (s.size = n) := nat_eq s.size n
set_option maxHeartbeats 400000 in
theorem isKey_any (s : ByteArray) (w : World) :
    Calls Tryd.prog 37 #[.string s] w fun e w' => e = .returned (.bool (decide (s.size = 32))) ∧ w = w' := by
  go_enter Tryd.func37, Tryd.ntmps37
  go_wp2_with fail
  go_ret
  exact ⟨ret_bool (size_beq s 32), rfl⟩
set_option maxHeartbeats 400000 in
theorem isKind_any (k : Int) (w : World) :
    Calls Tryd.prog 20 #[.int .i64 k] w fun e w' => e = .returned (.bool (decide (0 ≤ k ∧ k < 3))) ∧ w = w' := by
  by_cases h0 : 0 ≤ k
  · by_cases h3 : k < 3
    · rw [decide_eq_true (And.intro h0 h3)]
      go_enter Tryd.func20, Tryd.ntmps20
      go_wp2_with fail
      go_ret
      exact ⟨rfl, rfl⟩
    · rw [decide_eq_false (fun h => h3 h.2)]
      go_enter Tryd.func20, Tryd.ntmps20
      go_wp2_with fail
      go_ret
      exact ⟨rfl, rfl⟩
  · rw [decide_eq_false (fun h => h0 h.1)]
    go_enter Tryd.func20, Tryd.ntmps20
    go_wp2_with fail
    go_ret
    exact ⟨rfl, rfl⟩
set_option maxHeartbeats 2000000 in
theorem fFits_any (k : Nat) (hk : k < 13) (p : Pt) (w : World) :
    Calls Tryd.prog 22 #[.int .i64 (k : Int), pv p] w fun e w' => e = .returned (.bool (fitsW k p)) ∧ Below w.heap.size w w' := by
  obtain ⟨t, n, s⟩ := p
  have hb : Below w.heap.size w (w.alloc (.cells #[.bool t, .int .u64 (n : Int), .string s] 48)) := (Below.refl _ _).alloc (Nat.le_refl _) _
  have HB := Lib.hid hb
  have HK := Lib.hid (isKey_any s)
  clear hb
  unfold pv
  simp only
  match k, hk with
  | 0, _ | 1, _ | 2, _ | 3, _ | 6, _ | 7, _ | 9, _ | 10, _ =>
    go_enter Tryd.func22, Tryd.ntmps22
    go_wp2_with fail
    go_ret
    exact ⟨rfl, HB.out⟩
  | 4, _ | 5, _ | 8, _ =>
    go_enter Tryd.func22, Tryd.ntmps22
    go_wp2_with fail
    refine (HK.out _).mono ?_
    rintro e w1 ⟨rfl, rfl⟩
    go_wp2_with fail
    go_ret
    exact ⟨rfl, HB.out⟩
  | 11, _ =>
    go_enter Tryd.func22, Tryd.ntmps22
    go_wp2_with fail
    go_ret
    exact ⟨ret_bool (by show _ = decide (s.size ≤ 1024); by_cases h : s.size ≤ 1024 <;> simp [h] <;> omega), HB.out⟩
  | 12, _ =>
    go_enter Tryd.func22, Tryd.ntmps22
    go_wp2_with fail
    go_ret
    exact ⟨ret_bool (by show _ = decide (n ≤ 32); by_cases h : n ≤ 32 <;> simp [h] <;> omega), HB.out⟩
set_option maxHeartbeats 1000000 in
theorem wireKind_any (k : Nat) (hk : k < 13) (w : World) :
    Calls Tryd.prog 47 #[.int .i64 (k : Int)] w fun e w' => e = .returned (.int .u8 ((wkW k).toNat : Int)) ∧ w = w' := by
  match k, hk with
  | 0, _ | 1, _ | 2, _ | 3, _ | 6, _ | 7, _ | 9, _ | 10, _ | 4, _ | 5, _ | 8, _ | 11, _ | 12, _ =>
    go_enter Tryd.func47, Tryd.ntmps47
    go_wp2_with fail
    go_ret
    exact ⟨rfl, rfl⟩
set_option maxHeartbeats 1000000 in
theorem areKeys_any (a : Option Addr) (c : Nat) (l : List ByteArray) (hl : l.length ≤ maxLen) (w : World) (hp : SSl w a l) :
    Calls Tryd.prog 23 #[.slice a l.length c] w fun e w' => e = .returned (.bool (keysB l)) ∧ w = w' := by
  have HP := Lib.hid hp; have HL := Lib.hid hl
  clear hp hl
  unfold keysB
  go_enter Tryd.func23, Tryd.ntmps23
  go_wp2_with fail
  go_loopw [7] (KeysRel w l) (fun i _ => l.length - (intOf i).toNat)
  case atStart => exact ⟨0, Nat.zero_le _, rfl, rfl, rfl⟩
  case round =>
    obtain ⟨k, hk, rfl, hall, rfl⟩ := hrel
    by_cases hlt : k < l.length
    · have h1 : (k : Int) < (l.length : Int) := by omega
      have h1k : (k : Int) < 9223372036854775807 := by have := HL.out; unfold maxLen at this; omega
      obtain ⟨b, off, rfl, hbl, hc⟩ := HP.out (by omega)
      have hcell := hc k hlt
      have hst := all_step l k hlt _ hall
      have hstop := all_stop l k hlt (fun x => decide (x.size = 32))
      obtain ⟨x, ex⟩ : ∃ x, l.getD k ⟨#[]⟩ = x := ⟨_, rfl⟩
      rw [ex] at hcell hst hstop
      have HK := Lib.hid (isKey_any x)
      by_cases hx : x.size = 32
      · rw [decide_eq_true hx] at hst
        have HST := Lib.hid hst
        rw [decide_eq_true hx] at HK
        clear hc hst hstop ex hall hx
        go_wp2_with fail
        refine (HK.out _).mono ?_
        rintro e w1 ⟨rfl, rfl⟩
        go_wp2_with fail
        exact ⟨⟨k + 1, by omega, by simp, HST.out, rfl⟩, by simp [intOf]; omega⟩
      · have HST := Lib.hid (hstop (decide_eq_false hx))
        rw [decide_eq_false hx] at HK
        clear hc hst hstop ex hall hx
        go_wp2_with fail
        refine (HK.out _).mono ?_
        rintro e w1 ⟨rfl, rfl⟩
        go_wp2_with fail
        go_ret
        rw [HST.out]
        exact ⟨rfl, rfl⟩
    · obtain rfl : k = l.length := by omega
      rw [List.take_of_length_le (Nat.le_refl _)] at hall
      have HA := Lib.hid hall
      have hn : ¬ (l.length : Int) < (l.length : Int) := by omega
      clear hall
      go_wp2_with fail
      go_ret
      rw [HA.out]
      exact ⟨rfl, rfl⟩
end Go.Proofs.YtollaaooinoafaaDoor