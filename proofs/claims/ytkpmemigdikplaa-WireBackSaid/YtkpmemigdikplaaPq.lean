/- What is unpacked is no more than 33 parts a kind, each of no more than 1024 bytes; the law's cut of kinds. -/
import Derived.Test.YtkpmemigdikplaaPy
import Derived.Test.YtkpmemigdikplaaPs
namespace Go.Proofs.Ytkpmemigdikplaa
open Go.RowKit Go.Sort
set_option maxRecDepth 100000

def Siz (st : St) : Prop := ∀ p ∈ st.1, p.s.size ≤ 1024
theorem Siz.stepN {s : List UInt8} {st : St} (h : Siz st) (most : Nat) : Siz (stepN s most st).1 := by
  unfold Go.Proofs.Ytkpmemigdikplaa.stepN
  split
  · exact h
  · split
    · intro p hp
      rcases List.mem_append.1 hp with hp | hp
      · exact h p hp
      · obtain rfl := List.mem_singleton.1 hp
        exact Nat.zero_le _
    · exact h
theorem Siz.stepT {s : List UInt8} {st : St} (h : Siz st) : Siz (stepT s st).1 := by
  unfold Go.Proofs.Ytkpmemigdikplaa.stepT
  split
  · exact h
  · split
    · rename_i hc
      intro p hp
      rcases List.mem_append.1 hp with hp | hp
      · exact h p hp
      · obtain rfl := List.mem_singleton.1 hp
        show (strL _).size ≤ 1024
        rw [strL_size, List.length_take]
        omega
    · exact h
theorem Siz.stepTs {s : List UInt8} (j : Nat) {st : St} (h : Siz st) : Siz (stepTs s j st).1 := by
  induction j generalizing st with
  | zero => exact h
  | succ j ih =>
    unfold Go.Proofs.Ytkpmemigdikplaa.stepTs
    split
    · exact ih h.stepT
    · exact h.stepT
theorem Siz.stepK {s : List UInt8} {st : St} (h : Siz st) (k : UInt8) : Siz (stepK s k st).1 := by
  unfold Go.Proofs.Ytkpmemigdikplaa.stepK
  split
  · exact h.stepN _
  · split
    · exact h.stepT
    · unfold stepM
      split
      · exact (h.stepN 32).stepTs _
      · exact h.stepN 32
theorem Siz.stepKs {s : List UInt8} (ks : List UInt8) {st : St} (h : Siz st) : Siz (stepKs s ks st).1 := by
  induction ks generalizing st with
  | nil => exact h
  | cons k ks ih =>
    unfold Go.Proofs.Ytkpmemigdikplaa.stepKs
    split
    · exact ih (h.stepK k)
    · exact h.stepK k
theorem stepKs_le (s : List UInt8) (ks : List UInt8) (st : St) (h : st.2 ≤ s.length) : (stepKs s ks st).1.1.length ≤ st.1.length + 33 * ks.length := by
  induction ks generalizing st with
  | nil => simp [stepKs]
  | cons k ks ih =>
    obtain ⟨h1, h2⟩ := stepK_le s k st h
    unfold stepKs
    rw [List.length_cons]
    split
    · have := ih _ h1; omega
    · omega
theorem unpackL_siz (s ks : List UInt8) : ∀ p ∈ (unpackL s ks).1, p.s.size ≤ 1024 := by
  have hn : Siz (([], 0) : St) := fun p hp => by cases hp
  have h := hn.stepKs (s := s) ks
  unfold unpackL
  split
  · split
    · split
      · intro p hp; cases hp
      · exact h
    · intro p hp; cases hp
  · intro p hp; cases hp
theorem unpackL_len (s ks : List UInt8) : (unpackL s ks).1.length ≤ 33 * ks.length := by
  have h := stepKs_le s ks ([], 0) (Nat.zero_le _)
  simp only [List.length_nil, Nat.zero_add] at h
  unfold unpackL
  split
  · split
    · split
      · exact Nat.zero_le _
      · exact h
    · exact Nat.zero_le _
  · exact Nat.zero_le _
/-- kinds[:min(len(kinds), 30)] -/
def cutK (k : ByteArray) : ByteArray := k.extract 0 (min k.size 30)
theorem cutK_size (k : ByteArray) : (cutK k).size ≤ 30 := by unfold cutK; rw [ByteArray.size_extract]; omega
theorem cutK_run (k : ByteArray) (W : World) : (Instr.slice 9 (.string k) none (some (.int .i64 (min (k.size : Int) 30))) none).run Try.prog W = .ok (.string (cutK k)) W := by
  have hc : k.extract 0 (min (k.size : Int) 30).toNat = cutK k := by
    unfold cutK
    congr 1
    omega
  have l1 : min (k.size : Int) 30 ≤ (k.size : Int) := by omega
  have l0 : 0 ≤ min (k.size : Int) 30 := by omega
  rw [← hc]
  clear hc
  go_simp
theorem few_at (a : Option Addr) (c : Nat) (l : List Pt) (hl : l.length ≤ maxLen) (hlc : l.length ≤ c) (w : World) :
    Calls Try.prog 8 #[.slice a l.length c] w fun e w' => e = .returned (.slice a (l.take 12).length c) ∧ Below w.heap.size w w' := by
  unfold maxLen at hl
  obtain ⟨m, em⟩ : ∃ m : Nat, min (l.length : Int) 12 = (m : Int) := ⟨min l.length 12, by omega⟩
  have hlen : (l.take 12).length = m := by rw [List.length_take]; omega
  have h1 : (m : Int) ≤ (l.length : Int) := by omega
  have h2 : (m : Int) ≤ (c : Int) := by omega
  rw [hlen]
  clear hlen
  go_enter Try.func8, Try.ntmps8
  go_wp2_with fail
  go_ret
  exact ⟨rfl, Below.refl _ _⟩
set_option maxHeartbeats 8000000 in
theorem wireUnpacks_any (s kinds : ByteArray) (hs : s.size ≤ maxLen) (_hk : kinds.size ≤ maxLen) (w : World) :
    Calls Try.prog 4 #[.string s, .string kinds] w fun e w' => e = .returned (.bool true) ∧ Below w.heap.size w w' := by
  have hkr := cutK_run kinds
  have hks := cutK_size kinds
  obtain ⟨k, ek⟩ : ∃ k, cutK kinds = k := ⟨_, rfl⟩
  rw [ek] at hkr hks
  have hlen := unpackL_len (bl s) (bl k)
  rw [bl_length] at hlen
  have hU := fun W => Unpack_any s k hs (by omega) W
  have hR := fun W => rUnpack_any s k hs (by omega) W
  obtain ⟨U, eU⟩ : ∃ U, unpackL (bl s) (bl k) = U := ⟨_, rfl⟩
  rw [eU] at hlen hU hR
  obtain ⟨L, at', E⟩ := U
  simp only at hlen hU hR
  have HU := Lib.hid hU; have HR := Lib.hid hR; have HL := Lib.hid (show L.length ≤ maxLen by unfold maxLen; omega)
  clear ek hks hlen hU hR eU hs
  go_enter Try.func4, Try.ntmps4
  go_wp2_with fail
  refine (HU.out _).mono ?_
  rintro e w1 ⟨a, c, rfl, -, hp1, hb1⟩
  have HP1 := Lib.hid hp1; have HB1 := Lib.hid hb1
  clear hp1 hb1 HU hkr
  go_wp2_with fail
  refine (HR.out _).mono ?_
  rintro e w2 ⟨a2, c2, rfl, hp2, hb2⟩
  simp only at hp2
  have hal : Below w2.heap.size w2 (w2.alloc (.cells #[.slice a2 L.length c2, .int .i64 (at' : Int), .int .i64 (E : Int)] 41)) := (Below.refl _ _).alloc (Nat.le_refl _) _
  have hbx := heap_alloc_new w2 (.cells #[.slice a2 L.length c2, .int .i64 (at' : Int), .int .i64 (E : Int)] 41)
  have HP2 := Lib.hid (And.intro ((HP1.out.on hb2).on hal) (hp2.on hal))
  have HB2 := Lib.hid (HB1.out.trans ((hb2.trans (hal.mono hb2.size)).mono HB1.out.size))
  have HBX := Lib.hid hbx
  clear hp2 hb2 hal hbx HP1 HB1 HR
  go_upto_region 4 with fail
  obtain ⟨X, eX⟩ : ∃ X, w2.heap.size = X := ⟨_, rfl⟩
  rw [eX] at HBX ⊢
  clear eX
  generalize World.alloc w2 _ = V at HP2 HB2 HBX ⊢
  go_wp2_with fail
  refine (alive7_any V).mono ?_
  rintro e w3 ⟨rfl, hb3⟩
  have x0 : w3.heap[X]? = _ := (hb3.block X (Array.getElem?_eq_some_iff.1 HBX.out).1).trans HBX.out
  have b0 : w3.cell? ⟨X, 0, none⟩ = some (.slice a2 L.length c2) := by rw [cell_of_row _ _ _ _ _ _ x0]; rfl
  have b1 : w3.cell? ⟨X, 1, none⟩ = some (.int .i64 (at' : Int)) := by rw [cell_of_row _ _ _ _ _ _ x0]; rfl
  have b2 : w3.cell? ⟨X, 2, none⟩ = some (.int .i64 (E : Int)) := by rw [cell_of_row _ _ _ _ _ _ x0]; rfl
  have hsm := Same_any a a2 c c2 L L HL.out w3 (HP2.out.1.on hb3) (HP2.out.2.on hb3)
  rw [sameL_refl] at hsm
  have HSM := Lib.hid hsm; have HB3 := Lib.hid (HB2.out.trans (hb3.mono HB2.out.size))
  clear hsm hb3 x0 HBX HB2 HP2
  go_wp2_with fail
  refine HSM.out.mono ?_
  rintro e w4 ⟨rfl, hb4⟩
  have HB4 := Lib.hid (HB3.out.trans (hb4.mono HB3.out.size))
  clear hb4 HSM HB3 b0 b1 b2
  go_wp2_with fail
  go_ret
  exact ⟨rfl, HB4.out⟩
end Go.Proofs.Ytkpmemigdikplaa
