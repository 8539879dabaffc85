/- The contracts of derive's byteAt and Same. -/
import Derived.Test.YtikgefcbmoomjaaDoorZk
import Derived.Test.YtikgefcbmoomjaaDoorZa
namespace Go.Proofs.YtikgefcbmoomjaaDoor
open Go.RowKit
set_option maxRecDepth 100000
set_option maxHeartbeats 400000 in
theorem byteAt_any (s : ByteArray) (i : Nat) (_hs : s.size ≤ maxLen) (_hi : i ≤ maxLen) (w : World) :
    Calls Tryd.prog 38 #[.string s, .int .i64 (i : Int)] w fun e w' => e = .returned (.int .u8 (((bl s).getD i 0).toNat : Int)) ∧ w = w' := by
  by_cases hlt : i < s.size
  · have l1 : (i : Int) < (s.size : Int) := by omega
    have hix := str_index s (i : Int) i rfl hlt
    rw [bl_get s i hlt]
    generalize s[i] = y at hix ⊢
    go_enter Tryd.func38, Tryd.ntmps38
    go_wp2_with fail
    go_ret
    exact ⟨rfl, rfl⟩
  · have l1 : ¬ (i : Int) < (s.size : Int) := by omega
    have h0 : (bl s).getD i 0 = 0 := by rw [List.getD_eq_getElem?_getD, List.getElem?_eq_none (by rw [bl_length]; omega)]; rfl
    rw [h0]
    go_enter Tryd.func38, Tryd.ntmps38
    go_wp2_with fail
    go_ret
    exact ⟨rfl, rfl⟩

def SameD (w : World) (a b : ByteArray) (g i : Value) (wr : World) : Prop :=
  ∃ k n : Nat, k ≤ max a.size b.size ∧ i = .int .i64 (k : Int) ∧ n < 9223372036854775808 ∧ g = .int .i64 (n : Int) ∧ (n = 0 ↔ a.size = b.size ∧ ∀ j, j < k → (bl a).getD j 0 = (bl b).getD j 0) ∧ w = wr
theorem same_ext (a b : ByteArray) (h1 : a.size = b.size) (h2 : ∀ j, j < max a.size b.size → (bl a).getD j 0 = (bl b).getD j 0) : a = b := by
  refine bl_inj (List.ext_getElem (by rw [bl_length, bl_length]; exact h1) fun j hj1 hj2 => ?_)
  have := h2 j (by rw [bl_length] at hj1; omega)
  simpa [List.getD, hj1, hj2] using this

set_option maxHeartbeats 1000000 in
theorem samed_any (a b : ByteArray) (ha : a.size ≤ maxLen) (hb : b.size ≤ maxLen) (w : World) :
    Calls Tryd.prog 28 #[.string a, .string b] w fun e w' => e = .returned (.bool (decide (a = b))) ∧ w = w' := by
  have hba := byteAt_any a
  have hbb := byteAt_any b
  have HA := Lib.hid hba; have HB := Lib.hid hbb
  clear hba hbb
  have ha' := ha; have hb' := hb
  unfold maxLen at ha hb
  have hx := bits_xor64 a.size b.size (by omega) (by omega)
  have hxl := Nat.xor_lt_two_pow (n := 63) (x := a.size) (y := b.size) (by omega) (by omega)
  have hx0 : a.size ^^^ b.size = 0 ↔ a.size = b.size := nxor0 _ _
  obtain ⟨g0, hg0⟩ : ∃ g, a.size ^^^ b.size = g := ⟨_, rfl⟩
  rw [hg0] at hx hxl hx0
  obtain ⟨m, hm⟩ : ∃ m, max a.size b.size = m := ⟨_, rfl⟩
  have hmi : max (a.size : Int) (b.size : Int) = (m : Int) := by omega
  have hml : m ≤ maxLen := by unfold maxLen; omega
  have HM := Lib.hid hm
  clear hg0
  go_enter Tryd.func28, Tryd.ntmps28
  go_wp2_with fail
  go_loopw [5, 17] (SameD w a b) (fun _ i _ => m - (intOf i).toNat)
  case atStart => exact ⟨0, g0, by omega, rfl, hxl, rfl, by rw [hx0]; exact ⟨fun h => ⟨h, fun j hj => absurd hj (by omega)⟩, fun h => h.1⟩, rfl⟩
  case round =>
    clear hx hxl hx0
    obtain ⟨k, n, hk, rfl, hn, rfl, hiff, rfl⟩ := hrel
    rw [HM.out] at hk
    by_cases hlt : k < m
    · have l1 : (k : Int) < (m : Int) := by omega
      have h1 := HA.out k ha' (by omega)
      have h2 := HB.out k hb' (by omega)
      obtain ⟨x, hx⟩ : ∃ x, (bl a).getD k 0 = x := ⟨_, rfl⟩
      obtain ⟨y, hy⟩ : ∃ y, (bl b).getD k 0 = y := ⟨_, rfl⟩
      rw [hx] at h1
      rw [hy] at h2
      have hxy := bits_xor8 x y
      have hz0 := xor8_zero x y
      have hzl := (x ^^^ y).toNat_lt
      obtain ⟨z, hz⟩ : ∃ z, x ^^^ y = z := ⟨_, rfl⟩
      rw [hz] at hxy hz0 hzl
      have hor := bits_or64 n z.toNat hn (by omega)
      have hol := Nat.or_lt_two_pow (n := 63) (x := n) (y := z.toNat) hn (by omega)
      have ho0 := nor0 n z.toNat
      obtain ⟨q, hq⟩ : ∃ q, n ||| z.toNat = q := ⟨_, rfl⟩
      rw [hq] at hor hol ho0
      have hfin : q = 0 ↔ a.size = b.size ∧ ∀ j, j < k + 1 → (bl a).getD j 0 = (bl b).getD j 0 := by
        rw [ho0, hiff, hz0]
        constructor
        · rintro ⟨⟨g1, g2⟩, g3⟩
          refine ⟨g1, fun j hj => ?_⟩
          by_cases hjk : j = k
          · subst hjk; rw [hx, hy, g3]
          · exact g2 j (by omega)
        · rintro ⟨g1, g2⟩
          refine ⟨⟨g1, fun j hj => g2 j (by omega)⟩, ?_⟩
          have := g2 k (by omega)
          rw [hx, hy] at this
          exact this
      have H1 := Lib.hid h1; have H2 := Lib.hid h2; have HFIN := Lib.hid hfin
      clear h1 h2 hx hy hz0 hz ho0 hq hfin hiff
      go_wp2_with fail
      refine (H1.out _).mono ?_
      rintro e w1 ⟨rfl, rfl⟩
      go_wp2_with fail
      refine (H2.out _).mono ?_
      rintro e w1 ⟨rfl, rfl⟩
      go_wp2_with fail
      exact ⟨⟨k + 1, q, by rw [HM.out]; omega, by simp, hol, rfl, HFIN.out, rfl⟩, by simp [intOf]; omega⟩
    · obtain rfl : k = m := by omega
      have l1 : ¬ (k : Int) < (k : Int) := by omega
      have hfin : decide (a = b) = decide (n = 0) := by
        rw [decide_eq_decide, hiff]
        constructor
        · rintro rfl; exact ⟨rfl, fun _ _ => rfl⟩
        · rintro ⟨g1, g2⟩
          exact same_ext a b g1 (by rw [HM.out]; exact g2)
      have HFIN := Lib.hid hfin
      clear hfin hiff
      by_cases hn0 : n = 0
      · subst hn0
        go_wp2_with fail
        go_ret
        exact ⟨by rw [HFIN.out]; rfl, rfl⟩
      · have hn1 : ((n : Int) == 0) = false := by rw [beq_eq_false_iff_ne]; omega
        go_wp2_with fail
        go_ret
        exact ⟨by rw [HFIN.out]; simp [hn0], rfl⟩
end Go.Proofs.YtikgefcbmoomjaaDoor