/- prekeys: place. -/
import Derived.Test.YtmmaimopombepaaBh
namespace Go.Proofs.Ytmmaimopombepaa
open Go.RowKit
set_option maxRecDepth 100000
def cmpZ (x y : Nat) : Int := if x < y then -1 else if y < x then 1 else 0
theorem compare_any (x y : Nat) (w : World) : Calls Try.prog 109 #[.int .u64 (x : Int), .int .u64 (y : Int)] w fun e w' => e = .returned (.int .i64 (cmpZ x y)) ∧ w' = w := by
  unfold cmpZ
  by_cases h1 : x < y
  · have h1z : (x : Int) < (y : Int) := by omega
    rw [if_pos h1]
    go_enter Try.func109, Try.ntmps109
    go_wp2_with (go_at_call 119; refine (isNaN_u _ _).mono ?_; rintro e w' ⟨rfl, rfl⟩)
    go_ret
    exact ⟨rfl, rfl⟩
  · have h1z : ¬ (x : Int) < (y : Int) := by omega
    rw [if_neg h1]
    by_cases h2 : y < x
    · have h2z : (x : Int) > (y : Int) := by omega
      rw [if_pos h2]
      go_enter Try.func109, Try.ntmps109
      go_wp2_with (go_at_call 119; refine (isNaN_u _ _).mono ?_; rintro e w' ⟨rfl, rfl⟩)
      go_ret
      exact ⟨rfl, rfl⟩
    · have h2z : ¬ (x : Int) > (y : Int) := by omega
      rw [if_neg h2]
      go_enter Try.func109, Try.ntmps109
      go_wp2_with (go_at_call 119; refine (isNaN_u _ _).mono ?_; rintro e w' ⟨rfl, rfl⟩)
      go_ret
      exact ⟨rfl, rfl⟩
theorem place1_any (m : ShM) (u : Nat) (w : World) :
    Calls Try.prog 108 #[.agg #[.int .u64 (m.s.user : Int), .string m.s.ident, .int .u64 (m.s.sgn.id : Int), .string m.s.sgn.pt, .slice m.a m.s.once.length m.c], .int .u64 (u : Int)] w fun e w' => e = .returned (.int .i64 (cmpZ m.s.user u)) ∧ Below w.heap.size w w' := by
  go_enter Try.func108, Try.ntmps108
  go_wp2_with (go_at_call 109; refine (compare_any _ _ _).mono ?_; rintro e w' ⟨rfl, rfl⟩)
  go_ret
  exact ⟨rfl, (Below.refl _ w).alloc (Nat.le_refl _) _⟩
def BsRel (w : World) (l : List Sh) (u : Nat) (i j : Value) (wr : World) : Prop := ∃ (a b : Nat) (W : World), W = wr ∧ i = .int .i64 (a : Int) ∧ j = .int .i64 (b : Int) ∧ a ≤ b ∧ b ≤ l.length ∧ Below w.heap.size w wr ∧ (∀ t, (ht : t < l.length) → t < a → l[t].user < u) ∧ ∀ t, (ht : t < l.length) → b ≤ t → u ≤ l[t].user
/-- a user's place, or where it would be -/
def PlaceAt (l : List Sh) (u i : Nat) (f : Bool) : Prop := i ≤ l.length ∧ (∀ t, (ht : t < l.length) → t < i → l[t].user < u) ∧ (∀ t, (ht : t < l.length) → i ≤ t → u ≤ l[t].user) ∧ (f = true ↔ ∃ hi : i < l.length, l[i].user = u)
set_option maxHeartbeats 8000000 in
theorem bsearch_any (a : Option Addr) (c : Nat) (L : List ShM) (u : Nat) (w : World) (h : SS w a c L) (hmax : L.length ≤ 1000) (hr : risesS (shs L)) :
    Calls Try.prog 107 #[.slice a L.length c, .int .u64 (u : Int), .func (.func 108) #[] #[]] w fun e w' => ∃ (i : Nat) (f : Bool), e = .returned (.tuple #[.int .i64 (i : Int), .bool f]) ∧ PlaceAt (shs L) u i f ∧ Below w.heap.size w w' := by
  have hsl := shs_length L
  have H := Lib.hid (And.intro h hr)
  have q : (L.length : Int) ≤ 1000 := by omega
  clear h hr
  go_enter Try.func107, Try.ntmps107
  go_wp2_with fail
  go_loopw [9, 10] (BsRel w (shs L) u) (fun i j _ => (Lib.intOf j - Lib.intOf i).toNat)
  case atStart => exact ⟨0, L.length, _, rfl, rfl, rfl, Nat.zero_le _, by omega, Below.refl _ _, fun t _ ht => absurd ht (Nat.not_lt_zero t), fun t ht ht2 => by omega⟩
  case round =>
    obtain ⟨x, y, wr, rfl, rfl, rfl, h1, h2, h3, h4, h5⟩ := hrel
    have qx : (x : Int) ≤ 1000 := by omega
    have qy : (y : Int) ≤ 1000 := by omega
    by_cases hxy : x < y
    · have hxz : (x : Int) < (y : Int) := by omega
      obtain ⟨h, eh⟩ : ∃ h : Nat, ((x : Int) + (y : Int)) / 2 = (h : Int) := ⟨(x + y) / 2, by omega⟩
      have hh : x ≤ h ∧ h < y := by omega
      have hk : h < L.length := by omega
      obtain ⟨b, off, rfl, hlt, hall⟩ := (H.out.1.on h3).sl.get h hk
      have hks : h < (shs L).length := by omega
      have hat : (shs L)[h] = L[h].s := shs_get L h hk
      have hm5 := hall h hk
      obtain ⟨m, em⟩ : ∃ m, L[h] = m := ⟨_, rfl⟩
      rw [em] at hm5 hat
      obtain ⟨c0, c1, c2, c3, c4⟩ := hm5
      have HP := Lib.hid (place1_any m u wr)
      have HB := Lib.hid (And.intro h3 (And.intro h4 h5))
      have hhz : (h : Int) < (L.length : Int) := by omega
      clear h3 h4 h5 hall em
      by_cases hlt2 : m.s.user < u
      · have e : cmpZ m.s.user u = -1 := by unfold cmpZ; rw [if_pos hlt2]
        rw [e] at HP
        have HN := Lib.hid (show ∀ t, (ht : t < (shs L).length) → t < h + 1 → (shs L)[t].user < u from fun t ht hth => by
          rcases Nat.lt_or_ge t h with hl | hl
          · have := rises_step H.out.2 t h hl hks
            rw [hat] at this
            omega
          · obtain rfl : t = h := by omega
            rw [hat]; exact hlt2)
        clear hlt2 e hat
        go_wp2_with (go_at_call 108; refine HP.out.mono ?_; rintro e w2 ⟨rfl, hb2⟩)
        exact ⟨⟨h + 1, y, _, rfl, by go_num, rfl, by omega, by omega, HB.out.1.trans (hb2.mono HB.out.1.size), HN.out, HB.out.2.2⟩, by simp [Lib.intOf]; omega⟩
      · have e : ¬ cmpZ m.s.user u < 0 := by unfold cmpZ; rw [if_neg hlt2]; split <;> omega
        obtain ⟨cz, ecz⟩ : ∃ cz, cmpZ m.s.user u = cz := ⟨_, rfl⟩
        rw [ecz] at HP e
        have HN := Lib.hid (show ∀ t, (ht : t < (shs L).length) → h ≤ t → u ≤ (shs L)[t].user from fun t ht hth => by
          rcases Nat.lt_or_ge h t with hl | hl
          · have := rises_step H.out.2 h t hl ht
            rw [hat] at this
            omega
          · obtain rfl : t = h := by omega
            rw [hat]; omega)
        clear hlt2 hat ecz
        go_wp2_with (go_at_call 108; refine HP.out.mono ?_; rintro e w2 ⟨rfl, hb2⟩)
        exact ⟨⟨x, h, _, rfl, rfl, rfl, by omega, by omega, HB.out.1.trans (hb2.mono HB.out.1.size), HB.out.2.1, HN.out⟩, by simp [Lib.intOf]; omega⟩
    · have hxz : ¬ (x : Int) < (y : Int) := by omega
      obtain rfl : x = y := by omega
      by_cases hk : x < L.length
      · have hkz : (x : Int) < (L.length : Int) := by omega
        obtain ⟨b, off, rfl, hlt, hall⟩ := (H.out.1.on h3).sl.get x hk
        have hat : (shs L)[x]'(by omega) = L[x].s := shs_get L x hk
        have hm5 := hall x hk
        obtain ⟨m, em⟩ : ∃ m, L[x] = m := ⟨_, rfl⟩
        rw [em] at hm5 hat
        obtain ⟨c0, c1, c2, c3, c4⟩ := hm5
        have HP := Lib.hid (place1_any m u wr)
        have HB := Lib.hid (And.intro h3 (And.intro h4 h5))
        obtain ⟨f, ef⟩ : ∃ f, (cmpZ m.s.user u == 0) = f := ⟨_, rfl⟩
        have HF := Lib.hid (show f = true ↔ ∃ hi : x < (shs L).length, (shs L)[x].user = u by
          rw [← ef, beq_iff_eq]
          unfold cmpZ
          constructor
          · intro h
            refine ⟨by omega, ?_⟩
            rw [hat]
            by_cases g1 : m.s.user < u
            · rw [if_pos g1] at h
              omega
            · by_cases g2 : u < m.s.user
              · rw [if_neg g1, if_pos g2] at h
                omega
              · omega
          · rintro ⟨hi, h⟩
            rw [hat] at h
            rw [if_neg (by omega), if_neg (by omega)])
        clear h3 h4 h5 hall em hat
        go_wp2_with (go_at_call 108; refine HP.out.mono ?_; rintro e w2 ⟨rfl, hb2⟩)
        refine bodyPost_ret (v := .tuple #[.int .i64 (x : Int), .bool f]) (by simp [results, Try.results107, go_sem]) rfl ?_
        exact ⟨x, f, rfl, ⟨by omega, HB.out.2.1, HB.out.2.2, HF.out⟩, HB.out.1.trans (hb2.mono HB.out.1.size)⟩
      · have hkz : decide ((x : Int) < (L.length : Int)) = false := decide_eq_false (by omega)
        have HB := Lib.hid (And.intro h3 (And.intro h4 h5))
        clear h3 h4 h5
        go_wp2_with fail
        refine bodyPost_ret (v := .tuple #[.int .i64 (x : Int), .bool false]) (by simp [results, Try.results107, go_sem]) rfl ?_
        have hpl : PlaceAt (shs L) u x false := ⟨by omega, HB.out.2.1, HB.out.2.2, ⟨fun h => (by cases h), fun ⟨hi, _⟩ => (by omega)⟩⟩
        first | exact ⟨x, false, rfl, hpl, HB.out.1⟩ | exact Or.inl ⟨rfl, hpl, HB.out.1⟩ | exact ⟨x, Or.inl ⟨rfl, hpl, HB.out.1⟩⟩
theorem place_any (a : Option Addr) (c : Nat) (L : List ShM) (u : Nat) (w : World) (h : SS w a c L) (hmax : L.length ≤ 1000) (hr : risesS (shs L)) :
    Calls Try.prog 84 #[.slice a L.length c, .int .u64 (u : Int)] w fun e w' => ∃ (i : Nat) (f : Bool), e = .returned (.tuple #[.int .i64 (i : Int), .bool f]) ∧ PlaceAt (shs L) u i f ∧ Below w.heap.size w w' := by
  have H := Lib.hid (bsearch_any a c L u w h hmax hr)
  clear h hmax hr
  go_enter Try.func84, Try.ntmps84
  go_wp2_with (go_at_call 107; refine H.out.mono ?_; rintro e w2 ⟨i, f, rfl, hp, hb2⟩)
  refine bodyPost_ret (v := .tuple #[.int .i64 (i : Int), .bool f]) (by simp [results, Try.results84, go_sem]) rfl ?_
  exact ⟨i, f, rfl, hp, hb2⟩
end Go.Proofs.Ytmmaimopombepaa