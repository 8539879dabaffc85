/- The reference: Number, One, Long, Pack, Kinds. -/
import Derived.Test.YtimijdmigdlhfaaPe
namespace Go.Proofs.Ytimijdmigdlhfaa
open Go.RowKit Go.Sort
set_option maxRecDepth 100000
theorem cat_str (a b : List UInt8) : strL a ++ strL b = strL (a ++ b) := strL_append a b
def RNumRel (w : World) (n : Nat) (v o : Value) (wr : World) : Prop :=
  ∃ (m : Nat) (ol : List UInt8), m ≤ n ∧ v = .int .u64 (m : Int) ∧ o = .string (strL ol) ∧ digL m ++ ol = digL n ∧ Below w.heap.size w wr
def natOf : Value → Nat | .int _ n => n.toNat | _ => 0
set_option maxHeartbeats 1000000 in
theorem rNumber_any (n : Nat) (hn : n < 18446744073709551616) (w : World) :
    Calls Try.prog 38 #[.int .u64 (n : Int)] w fun e w' => e = .returned (.string (strL (numB n))) ∧ Below w.heap.size w w' := by
  go_enter Try.func38, Try.ntmps38
  go_wp2_with fail
  go_loopw [0, 3] (RNumRel w n) (fun v _ _ => natOf v)
  case atStart => exact ⟨n, [], Nat.le_refl _, rfl, rfl, by simp, Below.refl _ _⟩
  case round =>
    obtain ⟨m, ol, hm, rfl, rfl, hd, hB⟩ := hrel
    have hsz := hB.size
    by_cases h0 : m = 0
    · subst h0
      rw [digL_zero, List.nil_append] at hd
      subst hd
      have hl := digL_len8 n hn
      have hz : ¬ (0 : Int) < ((0 : Nat) : Int) := by omega
      have h1 := one_text (UInt8.ofNat (digL n).length) ((digL n).length : Int) (by rw [UInt8.toNat_ofNat']; omega)
      have hs : ((strL (digL n)).size : Int) = ((digL n).length : Int) := by rw [strL_size]
      have hl2 : ((digL n).length : Int) ≤ 8 := by omega
      have hlim : (9223372036854775807 < (strL [UInt8.ofNat (digL n).length]).size + (strL (digL n)).size) = False := by rw [strL_size, strL_size]; simp; omega
      have HB := Lib.hid hB
      clear hB hm
      go_wp2_with fail
      go_ret
      exact ⟨by rw [cat_str]; rfl, HB.out.alloc hsz _⟩
    · have h1 : (0 : Int) < (m : Int) := by omega
      have h2 := one_text (UInt8.ofNat (m % 256)) ((m : Int) % 256) (by rw [ofNat_mod]; omega)
      rw [digL_pos m h0, List.append_assoc] at hd
      have hol : ol.length ≤ 8 := by
        have := congrArg List.length hd
        have h8 := digL_len8 n hn
        simp at this
        omega
      have hlim : (9223372036854775807 < (strL [UInt8.ofNat (m % 256)]).size + (strL ol).size) = False := by rw [strL_size, strL_size]; simp; omega
      have HB := Lib.hid hB; have HD := Lib.hid hd
      clear hB hd hol
      go_wp2_with fail
      exact ⟨⟨m / 256, [UInt8.ofNat (m % 256)] ++ ol, by omega, by simp, by rw [cat_str], HD.out, HB.out.alloc hsz _⟩, by simp [natOf]; omega⟩

set_option maxHeartbeats 1000000 in
theorem rOne_any (p : Pt) (hp : PtOk p) (hf : longP p = false) (w : World) :
    Calls Try.prog 29 #[pv p] w fun e w' => e = .returned (.string (strL (partB p))) ∧ Below w.heap.size w w' := by
  obtain ⟨t, n, s⟩ := p
  have hn : n < 18446744073709551616 := hp.n
  have hs : s.size ≤ maxLen := hp.s
  have hb0 : Below w.heap.size w (w.alloc (.cells #[.bool t, .int .u64 (n : Int), .string s] 65)) := (Below.refl _ _).alloc (Nat.le_refl _) _
  have hpt := PtAt.fresh w ⟨t, n, s⟩ 65
  unfold pv
  simp only
  have HB0 := Lib.hid hb0; have HPT := Lib.hid hpt
  clear hp hb0 hpt
  cases t
  · have HN := Lib.hid hn
    have hP : partB ⟨false, n, s⟩ = numB n := rfl
    rw [hP]
    clear hP hn hs
    go_enter Try.func29, Try.ntmps29
    go_wp2_with fail
    refine (rNumber_any n HN.out _).mono ?_
    rintro e w1 ⟨rfl, hb⟩
    have hB := HB0.out.trans (hb.mono HB0.out.size)
    have HB := Lib.hid hB
    clear hb hB HB0 HPT
    go_wp2_with fail
    go_ret
    exact ⟨rfl, HB.out⟩
  · have hP : partB ⟨true, n, s⟩ = numB s.size ++ bl s := rfl
    rw [hP, ← strL_append, strL_bl]
    have hsz : s.size ≤ 1024 := by unfold longP at hf; simpa using hf
    have hw : IntKind.u64.wrap (s.size : Int) = (s.size : Int) := by rw [IntKind.wrap_u64]; omega
    have hN := fun W => rNumber_any s.size (by omega) W
    have hl9 : (numB s.size).length ≤ 9 := by rw [numB_length]; have := digL_len8 s.size (by omega); omega
    obtain ⟨y, ey⟩ : ∃ y, strL (numB s.size) = y := ⟨_, rfl⟩
    have hys : y.size ≤ 9 := by rw [← ey, strL_size]; exact hl9
    rw [ey] at hN
    rw [ey]
    have hcat : ∀ W : World, (Op.stringOp .add y s).run Try.prog W = .ok (.string (y ++ s)) W := fun W => by rw [run_string_add_sum W _ _ (by omega)]
    have hlim : (9223372036854775807 < y.size + s.size) = False := by simp; omega
    have HN := Lib.hid hN
    clear hP hn hs hN hl9 hys ey hf
    go_enter Try.func29, Try.ntmps29
    go_upto_region 2 with fail
    generalize World.alloc w _ = V at HB0 HPT ⊢
    have q2 := cell_regrown HPT.out.c2
    simp only [Nat.zero_add] at q2
    refine wp_region_quiet_below (by kernel_rfl) (by kernel_rfl) ?_
    iterate 9 (quiet_step (first | (go_at_call 38; exact Calls.regrown_of (HN.out _))))
    refine wpQuiet_nil ?_
    intro _ hw'
    obtain ⟨⟨dq, osq⟩, hw''⟩ := hw'
    subst hw''
    have hB := HB0.out.trans ((below_regrown V dq osq).mono HB0.out.size)
    have HB := Lib.hid hB
    clear q2 hcat hlim HB0 HPT HN hB
    generalize grow (redrawn V dq) osq = V1 at HB ⊢
    go_wp2_with fail
    go_ret
    exact ⟨rfl, HB.out⟩

theorem sum_lim (a b : ByteArray) (h : a.size + b.size ≤ 100000000) : (9223372036854775807 < a.size + b.size) = False := by simp; omega
def RPackRel (w : World) (l : List Pt) (o i : Value) (wr : World) : Prop :=
  ∃ k : Nat, k ≤ l.length ∧ i = .int .i64 (k : Int) ∧ o = .string (strL (packL (l.take k))) ∧ Below w.heap.size w wr
theorem longP_of (l : List Pt) (h : longL l = false) (k : Nat) (hk : k < l.length) : longP (l.getD k p0) = false := by
  cases hh : longP (l.getD k p0)
  · rfl
  · have := longL_at l k hk hh; rw [h] at this; exact absurd this (by simp)
end Go.Proofs.Ytimijdmigdlhfaa