/- The reference's Long and Kinds; the law's few. -/
import Derived.Test.YtkpmemigdikplaaPg
namespace Go.Proofs.Ytkpmemigdikplaa
open Go.RowKit Go.Sort
set_option maxRecDepth 100000

def LongRel (w : World) (l : List Pt) (i : Value) (wr : World) : Prop :=
  ∃ k : Nat, k ≤ l.length ∧ i = .int .i64 (k : Int) ∧ longL (l.take k) = false ∧ Below w.heap.size w wr
set_option maxHeartbeats 2000000 in
theorem rLong_any (a : Option Addr) (c : Nat) (l : List Pt) (hl : l.length ≤ 1000) (w : World) (hp : PSl w a l) :
    Calls Try.prog 17 #[.slice a l.length c] w fun e w' => e = .returned (.bool (longL l)) ∧ Below w.heap.size w w' := by
  have HP := Lib.hid hp; have HL := Lib.hid hl
  clear hp hl
  go_enter Try.func17, Try.ntmps17
  go_wp2_with fail
  go_loopw [7] (LongRel w l) (fun i _ => l.length - (intOf i).toNat)
  case atStart => exact ⟨0, Nat.zero_le _, rfl, rfl, Below.refl _ _⟩
  case round =>
    obtain ⟨k, hk, rfl, hf, hB⟩ := hrel
    have hsz := hB.size
    by_cases hlt : k < l.length
    · have h1 : (k : Int) < (l.length : Int) := by omega
      have h1k : (k : Int) < 1000 := by have := HL.out; omega
      obtain ⟨b, off, rfl, hbl, hc⟩ := HP.out (by omega)
      have hpt := (hc k hlt).on (hB.mono (Nat.le_refl _))
      have hst := take_step l k hlt
      have hlong := longL_at l k hlt
      obtain ⟨p, ep⟩ : ∃ p, l.getD k p0 = p := ⟨_, rfl⟩
      rw [ep] at hpt hst hlong
      obtain ⟨t, n, s⟩ := p
      have hb1 : Below wr.heap.size wr (wr.alloc (.cells #[.bool t, .int .u64 (n : Int), .string s] 34)) := (Below.refl _ _).alloc (Nat.le_refl _) _
      have hbx := PtAt.fresh wr ⟨t, n, s⟩ 34
      have HBX := Lib.hid hbx
      have HB := Lib.hid (hB.trans (hb1.mono hsz)); have HST := Lib.hid (And.intro hst (And.intro hlong hf))
      obtain ⟨c0, c1, c2⟩ := hpt
      simp only at c0 c1 c2
      clear hB hst hc ep hlong hf hb1 hbx
      go_upto_region 4 with fail
      clear c0 c1 c2
      generalize World.alloc wr _ = V at HB HBX ⊢
      obtain ⟨b0, b1, b2⟩ := HBX.out
      simp only [Nat.zero_add] at b0 b1 b2
      obtain ⟨hst, hlong, hf⟩ := HST.out
      cases t
      · have hfl : longL (l.take (k + 1)) = false := by
          rw [hst, longL_append, hf]; rfl
        have HFL := Lib.hid hfl
        clear hst hlong hf hfl HST HBX
        go_wp2_with fail
        exact ⟨⟨k + 1, by omega, by simp, HFL.out, HB.out⟩, by simp [intOf]; omega⟩
      · by_cases hs : 1024 < s.size
        · have hs' : (1024 : Int) < (s.size : Int) := by omega
          have hlt := hlong (by simp [longP, hs])
          have HLT := Lib.hid hlt
          clear hst hlong hf hs hlt HST HBX
          go_wp2_with fail
          go_ret
          rw [HLT.out]
          exact ⟨rfl, HB.out⟩
        · have hs' : ¬ (1024 : Int) < (s.size : Int) := by omega
          have hfl : longL (l.take (k + 1)) = false := by
            rw [hst, longL_append, hf]; simp [longL, longP]; omega
          have HFL := Lib.hid hfl
          clear hst hlong hf hfl hs HST HBX
          go_wp2_with fail
          exact ⟨⟨k + 1, by omega, by simp, HFL.out, HB.out⟩, by simp [intOf]; omega⟩
    · obtain rfl : k = l.length := by omega
      rw [List.take_of_length_le (Nat.le_refl _)] at hf
      have hn : ¬ (l.length : Int) < (l.length : Int) := by omega
      have HB := Lib.hid hB; have HF := Lib.hid hf
      clear hB hf
      go_wp2_with fail
      go_ret
      rw [HF.out]
      exact ⟨rfl, HB.out⟩

def KindsRel (w : World) (l : List Pt) (o i : Value) (wr : World) : Prop :=
  ∃ k : Nat, k ≤ l.length ∧ i = .int .i64 (k : Int) ∧ o = .string (strL (kindsL (l.take k))) ∧ Below w.heap.size w wr
set_option maxHeartbeats 2000000 in
theorem rKinds_any (a : Option Addr) (c : Nat) (l : List Pt) (hl : l.length ≤ 1000) (w : World) (hp : PSl w a l) :
    Calls Try.prog 21 #[.slice a l.length c] w fun e w' => e = .returned (.string (strL (kindsL l))) ∧ Below w.heap.size w w' := by
  have HP := Lib.hid hp; have HL := Lib.hid hl
  clear hp hl
  go_enter Try.func21, Try.ntmps21
  go_wp2_with fail
  go_loopw [3, 8] (KindsRel w l) (fun _ i _ => l.length - (intOf i).toNat)
  case atStart => exact ⟨0, Nat.zero_le _, rfl, by simp [kindsL]; rfl, Below.refl _ _⟩
  case round =>
    obtain ⟨k, hk, rfl, rfl, hB⟩ := hrel
    have hsz := hB.size
    by_cases hlt : k < l.length
    · have h1 : (k : Int) < (l.length : Int) := by omega
      have h1k : (k : Int) < 1000 := by have := HL.out; omega
      obtain ⟨b, off, rfl, hbl, hc⟩ := HP.out (by omega)
      have hpt := (hc k hlt).on (hB.mono (Nat.le_refl _))
      have hst := take_step l k hlt
      obtain ⟨p, ep⟩ : ∃ p, l.getD k p0 = p := ⟨_, rfl⟩
      rw [ep] at hpt hst
      obtain ⟨t, n, s⟩ := p
      have hb1 : Below wr.heap.size wr (wr.alloc (.cells #[.bool t, .int .u64 (n : Int), .string s] 34)) := (Below.refl _ _).alloc (Nat.le_refl _) _
      have hbx := PtAt.fresh wr ⟨t, n, s⟩ 34
      have HBX := Lib.hid hbx
      have hlen : (kindsL (l.take k)).length ≤ 1000 := by unfold kindsL; rw [List.length_map, List.length_take]; have := HL.out; omega
      have hlim : (9223372036854775807 < (strL (kindsL (l.take k))).size + 1) = False := by rw [strL_size]; simp; omega
      have hkk : kindsL (l.take (k + 1)) = kindsL (l.take k) ++ [kindP ⟨t, n, s⟩] := by rw [hst]; unfold kindsL; rw [List.map_append]; rfl
      have HB := Lib.hid (hB.trans (hb1.mono hsz)); have HKK := Lib.hid hkk
      obtain ⟨c0, c1, c2⟩ := hpt
      simp only at c0 c1 c2
      clear hB hst hc ep hb1 hbx hkk hlen
      go_upto_region 5 with fail
      clear c0 c1 c2
      generalize World.alloc wr _ = V at HB HBX ⊢
      obtain ⟨b0, b1, b2⟩ := HBX.out
      simp only [Nat.zero_add] at b0 b1 b2
      clear HBX
      cases t
      · go_wp2_with fail
        exact ⟨⟨k + 1, by omega, by simp, by rw [HKK.out, ← strL_append]; rfl, HB.out⟩, by simp [intOf]; omega⟩
      · go_wp2_with fail
        exact ⟨⟨k + 1, by omega, by simp, by rw [HKK.out, ← strL_append]; rfl, HB.out⟩, by simp [intOf]; omega⟩
    · obtain rfl : k = l.length := by omega
      rw [List.take_of_length_le (Nat.le_refl _)]
      have hn : ¬ (l.length : Int) < (l.length : Int) := by omega
      have HB := Lib.hid hB
      clear hB
      go_wp2_with fail
      go_ret
      exact ⟨rfl, HB.out⟩
set_option maxHeartbeats 1000000 in
theorem few_any (a : Option Addr) (c : Nat) (l : List Pt) (hl : l.length ≤ maxLen) (hlc : l.length ≤ c) (w : World) :
    Calls Try.prog 8 #[.slice a l.length c] w fun e w' => ∃ c' : Nat, e = .returned (.slice a (l.take 12).length c') ∧ (l.take 12).length ≤ c' ∧ w = w' := by
  unfold maxLen at hl
  obtain ⟨m, em⟩ : ∃ m : Nat, min (l.length : Int) 12 = (m : Int) := ⟨min l.length 12, by omega⟩
  have hlen : (l.take 12).length = m := by rw [List.length_take]; omega
  have h1 : (m : Int) ≤ (l.length : Int) := by omega
  have h2 : (m : Int) ≤ (c : Int) := by omega
  have HLN := Lib.hid hlen
  rw [hlen]
  clear hlen
  go_enter Try.func8, Try.ntmps8
  go_wp2_with fail
  go_ret
  exact ⟨c, rfl, by omega, rfl⟩
end Go.Proofs.Ytkpmemigdikplaa
