/- The package hello: joined, secret, Initiate, Respond. -/
import Derived.Test.YtnfhfibbaeiglaaGreatDoorWe
import Derived.Test.YtnfhfibbaeiglaaGreatDoorFhash
namespace Go.Proofs.YtnfhfibbaeiglaaGreatDoor
open Go.RowKit Go.Sort
set_option maxRecDepth 100000

def JoinRel (w : World) (l : List Pr2) (o i : Value) (wr : World) : Prop :=
  ∃ k : Nat, k ≤ l.length ∧ (∀ j, j < k → okP (l.getD j pr0)) ∧ o = .string (joinF (l.take k)) ∧ i = .int .i64 (k : Int) ∧ Below w.heap.size w wr
def JoinPost (w : World) (l : List Pr2) (e : Ending) (w' : World) : Prop :=
  ((okL l ∧ e = .returned (.tuple #[.string (joinF l), .int .i64 0])) ∨ (¬ okL l ∧ e = .returned (.tuple #[.string ⟨#[]⟩, .int .i64 2]))) ∧ Below w.heap.size w w'
theorem mult_pt (k u : ByteArray) (hk : k.size = 32) (hu : u.size = 32) (w : World) (hP : PrimeAt w) :
    Calls Tryz.prog 33 #[.string k, .string u] w fun e w' => e = .returned (.tuple #[.string (pt k u), .int .i64 0]) ∧ Below w.heap.size w w' := mult_good k u hk hu w hP
theorem mult_no (k u : ByteArray) (h : ¬ (k.size = 32 ∧ u.size = 32)) (w : World) :
    Calls Tryz.prog 33 #[.string k, .string u] w fun e w' => e = .returned (.tuple #[.string ⟨#[]⟩, .int .i64 2]) ∧ Below w.heap.size w w' := mult_bad k u (by omega) w
set_option maxHeartbeats 4000000 in
theorem joined_any (a : Option Addr) (l : List Pr2) (c : Nat) (hl : l.length ≤ 4) (w : World) (hp : PrL w a l) (hP : PrimeAt w) :
    Calls Tryz.prog 17 #[.slice a l.length c] w (JoinPost w l) := by
  have HP := Lib.hid hp; have HPR := Lib.hid hP; have HL := Lib.hid hl
  clear hp hP hl
  go_enter Tryz.func17, Tryz.ntmps17
  go_wp2_with fail
  go_loopw [4, 11] (fun o i wr => JoinRel w l o i wr) (fun _ i _ => l.length - (intOf i).toNat)
  case atStart => exact ⟨0, Nat.zero_le _, fun j hj => absurd hj (Nat.not_lt_zero j), rfl, rfl, Below.refl _ _⟩
  case round =>
    obtain ⟨k, hk, hok, rfl, rfl, hB⟩ := hrel
    by_cases hlt : k < l.length
    · have h1 : (k : Int) < (l.length : Int) := by omega
      have h1k : (k : Int) < 1000 := by have := HL.out; omega
      obtain ⟨g, off, rfl, hbl, hc⟩ := HP.out (by omega)
      have hp0 := hc k hlt
      have r1 : wr.cell? ⟨g, off + k * 2, none⟩ = some (.string (l.getD k pr0).1) := by rw [hB.cell (p := ⟨g, off + k * 2, none⟩) hbl]; exact hp0.c0
      have r2 : wr.cell? ⟨g, off + k * 2 + 1, none⟩ = some (.string (l.getD k pr0).2) := by rw [hB.cell (p := ⟨g, off + k * 2 + 1, none⟩) hbl]; exact hp0.c1
      have hj := joinF_take l k hlt
      have hsz := joinF_size (l.take k)
      rw [List.length_take] at hsz
      have hps := pt_size (l.getD k pr0).1 (l.getD k pr0).2
      obtain ⟨p, ep⟩ : ∃ p, l.getD k pr0 = p := ⟨_, rfl⟩
      have hPW := HPR.out.below hB HPR.out.lt
      obtain ⟨x, y⟩ := p
      rw [ep] at r1 r2 hj hps
      simp only at r1 r2 hj hps
      obtain ⟨A, eA⟩ : ∃ A, joinF (l.take k) = A := ⟨_, rfl⟩
      rw [eA] at hj hsz
      simp only [eA]
      have hcat : ∀ (z : ByteArray), z.size = 32 → (∀ W : World, (Op.stringOp .add A z).run Tryz.prog W = .ok (.string (A ++ z)) W) ∧ (9223372036854775807 < A.size + z.size) = False := fun z hz => ⟨fun W => run_string_add_sum W _ _ (by omega), by simp; omega⟩
      have HPW := Lib.hid hPW; have HB := Lib.hid hB
      by_cases hxy : okP (x, y)
      · have hM := mult_pt x y hxy.1 hxy.2
        obtain ⟨z, ez⟩ : ∃ z, pt x y = z := ⟨_, rfl⟩
        rw [ez] at hM hj hps
        obtain ⟨hc1, hc2⟩ := hcat z hps
        have hok2 : ∀ j, j < k + 1 → okP (l.getD j pr0) := fun j hj => by
          by_cases e : j = k
          · subst e; rw [ep]; exact hxy
          · exact hok j (by omega)
        have HM := Lib.hid hM; have HJ := Lib.hid (And.intro hj hok2)
        clear hM hj hok2 hok hcat hc hp0 hsz hps hxy eA ez ep hPW hB
        go_wp2_with fail
        have hal : Below wr.heap.size wr (wr.alloc (.cells #[.string x, .string y] 34)) := (Below.refl _ _).alloc (Nat.le_refl _) _
        refine (HM.out _ (HPW.out.below hal HPW.out.lt)).mono ?_
        rintro e w2 ⟨rfl, hb⟩
        have HB2 := Lib.hid (HB.out.trans ((hal.trans (hb.mono (by simp))).mono HB.out.size))
        clear hal hb HM HPW HB
        go_wp2_with fail
        exact ⟨⟨k + 1, by omega, HJ.out.2, by rw [HJ.out.1], by simp, HB2.out⟩, by simp [intOf]; omega⟩
      · have hM := mult_no x y hxy
        have hbad : ¬ okL l := fun h => hxy (by have := h k hlt; rw [ep] at this; exact this)
        have HM := Lib.hid hM; have HBAD := Lib.hid hbad
        clear hM hbad hok hcat hc hp0 hsz hps hxy eA ep hPW hB hj
        go_wp2_with fail
        have hal : Below wr.heap.size wr (wr.alloc (.cells #[.string x, .string y] 34)) := (Below.refl _ _).alloc (Nat.le_refl _) _
        refine (HM.out _).mono ?_
        rintro e w2 ⟨rfl, hb⟩
        have HB2 := Lib.hid (HB.out.trans ((hal.trans (hb.mono (by simp))).mono HB.out.size))
        clear hal hb HM HPW HB
        go_wp2_with fail
        go_ret2
        exact ⟨Or.inr ⟨HBAD.out, rfl⟩, HB2.out⟩
    · obtain rfl : k = l.length := by omega
      have hn : ¬ (l.length : Int) < (l.length : Int) := by omega
      rw [List.take_length]
      have HB := Lib.hid (show JoinPost w l (.returned (.tuple #[.string (joinF l), .int .i64 0])) wr from ⟨Or.inl ⟨hok, rfl⟩, hB⟩)
      clear hB hok
      go_wp2_with fail
      go_ret2
      exact HB.out

def SecPost (w : World) (l : List Pr2) (e : Ending) (w' : World) : Prop :=
  ((okL l ∧ e = .returned (.tuple #[.string (secB (joinF l)), .int .i64 0])) ∨ (¬ okL l ∧ e = .returned (.tuple #[.string ⟨#[]⟩, .int .i64 2]))) ∧ Below w.heap.size w w'
set_option maxHeartbeats 4000000 in
theorem secret_any (a : Option Addr) (l : List Pr2) (c : Nat) (hl : l.length ≤ 4) (w : World) (hp : PrL w a l) (hT : TriAt w) :
    Calls Tryz.prog 13 #[.slice a l.length c] w (SecPost w l) := by
  have hj := joined_any a l c hl w hp hT.p
  have hsz := joinF_size l
  obtain ⟨J, eJ⟩ : ∃ J, joinF l = J := ⟨_, rfl⟩
  have hE := extract_any helloW J (by decide) (by rw [← eJ]; omega)
  obtain ⟨S, eS⟩ : ∃ S, secB J = S := ⟨_, rfl⟩
  have eS2 := eS
  unfold secB at eS2
  simp only [eS2] at hE
  unfold helloW at hE
  have HJ := Lib.hid hj; have HE := Lib.hid hE; have HT := Lib.hid hT; have HN := Lib.hid (And.intro eJ eS)
  clear hj hE hT hp hl hsz eJ eS eS2
  go_enter Tryz.func13, Tryz.ntmps13
  go_wp2_with fail
  refine HJ.out.mono ?_
  rintro e w1 ⟨⟨hok, rfl⟩ | ⟨hok, rfl⟩, hb⟩
  · have HK := Lib.hid hok
    rw [HN.out.1]
    have HB := Lib.hid hb; have HT := Lib.hid (HT.out.on hb)
    clear hb HJ hok
    go_wp2_with fail
    refine (HE.out _ HT.out.f HT.out.k).mono ?_
    rintro e w2 ⟨rfl, hb⟩
    have HB2 := Lib.hid (HB.out.trans (hb.mono HB.out.size))
    clear hb HE HB HT
    go_wp2_with fail
    go_ret2
    exact ⟨Or.inl ⟨HK.out, by rw [HN.out.1, HN.out.2]; rfl⟩, HB2.out⟩
  · have HK := Lib.hid hok
    have HB := Lib.hid hb
    clear hb HJ hok HE
    go_wp2_with fail
    go_ret2
    exact ⟨Or.inr ⟨HK.out, rfl⟩, HB.out⟩
end Go.Proofs.YtnfhfibbaeiglaaGreatDoor
