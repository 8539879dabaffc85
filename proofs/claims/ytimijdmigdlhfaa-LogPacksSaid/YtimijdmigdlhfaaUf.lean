/- The package's Write. -/
import Derived.Test.YtimijdmigdlhfaaUd
import Derived.Test.YtimijdmigdlhfaaUe
import Derived.Test.YtimijdmigdlhfaaSb
namespace Go.Proofs.Ytimijdmigdlhfaa
open Go.RowKit
set_option maxRecDepth 100000
theorem recL_le (C : Ck) (s : ByteArray) (h : s.size ≤ 1024) : (recL C s).length ≤ 1037 := by
  have := txB_le s h
  unfold recL
  rw [List.length_append, C.four]; omega
theorem not_long {m : Nat} {l : List ByteArray} (h : longS m l = false) (s : ByteArray) (hs : s ∈ l) : s.size ≤ m := by
  rcases Nat.lt_or_ge m s.size with h1 | h1
  · have : longS m l = true := List.any_eq_true.2 ⟨s, hs, by simpa using h1⟩
    rw [h] at this; cases this
  · exact h1
theorem logL_le (C : Ck) (l : List ByteArray) (h : longS 1024 l = false) : (logL C l).length ≤ 1037 * l.length := by
  induction l with
  | nil => simp [logL_nil]
  | cons s l ih =>
    have h1 := h
    rw [longS_cons, Bool.or_eq_false_iff] at h
    have := ih h.2
    have := recL_le C s (not_long h1 s (by simp))
    rw [logL_cons, List.length_append, List.length_cons]; omega
theorem getD_mem' (l : List ByteArray) (k : Nat) (h : k < l.length) : l.getD k ⟨#[]⟩ ∈ l := by
  have e : l.getD k ⟨#[]⟩ = l[k] := by simp [List.getD, h]
  rw [e]; exact List.getElem_mem h
/-- texts of whatever bytes that can be -/
def Fit (l : List ByteArray) : Prop := ∀ s ∈ l, s.size ≤ maxLen
theorem Fit.take {l : List ByteArray} (h : Fit l) (k : Nat) : Fit (l.take k) := fun s hs => h s (List.mem_of_mem_take hs)
def WrRel (w : World) (l : List ByteArray) (i : Value) (wr : World) : Prop :=
  ∃ k : Nat, k ≤ l.length ∧ i = .int .i64 (k : Int) ∧ Bld w.heap.size w.heap.size (logL ckP (l.take k)) wr ∧ longS 1024 (l.take k) = false ∧ Below w.heap.size w wr
set_option maxHeartbeats 2000000 in
theorem Write_any (a : Option Addr) (c : Nat) (l : List ByteArray) (hl : l.length ≤ 1000) (hok : Fit l) (w : World) (hp : SSl w a l) :
    Calls Try.prog 10 #[.slice a l.length c] w fun e w' => e = .returned (.tuple #[.string (wrS ckP l), .int .i64 (wrE l : Int)]) ∧ Below w.heap.size w w' := by
  have hfr := Bld.fresh w
  have hB0 : Below w.heap.size w (w.alloc (.cells #[.pointer none, .slice none 0 0] 55)) := (Below.refl _ _).alloc (Nat.le_refl _) _
  have HF := Lib.hid (And.intro hfr hB0)
  have HP := Lib.hid hp; have HOK := Lib.hid hok; have HL := Lib.hid hl
  clear hp hok hl hfr hB0
  go_enter Try.func10, Try.ntmps10
  go_wp2_with fail
  go_loopw [11] (WrRel w l) (fun i _ => l.length - (intOf i).toNat)
  case atStart => exact ⟨0, Nat.zero_le _, rfl, by simpa [logL_nil] using HF.out.1, rfl, HF.out.2⟩
  case round =>
    clear HF
    obtain ⟨k, hk, rfl, hO, hf, hB⟩ := hrel
    have hsz := hB.size
    by_cases hlt : k < l.length
    · have h1 : (k : Int) < (l.length : Int) := by omega
      have h1k : (k : Int) < 1000 := by have := HL.out; omega
      obtain ⟨b, off, rfl, hbl, hc⟩ := HP.out (by omega)
      have hcell : wr.cell? ⟨b, off + k, none⟩ = some (.string (l.getD k ⟨#[]⟩)) := by rw [hB.cell (p := ⟨b, off + k, none⟩) hbl]; exact hc k hlt
      have hst := take_next l k hlt
      have hfit := HOK.out _ (getD_mem' l k hlt)
      have hmem := getD_mem' l k hlt
      obtain ⟨x, ex⟩ : ∃ x, l.getD k ⟨#[]⟩ = x := ⟨_, rfl⟩
      rw [ex] at hcell hst hfit hmem
      have HR := Lib.hid (Record_any x hfit wr)
      have HO := Lib.hid hO; have HB := Lib.hid hB; have HST := Lib.hid hst; have HM := Lib.hid hmem
      clear hO hB hst hc ex hfit hmem
      go_wp2_with fail
      refine HR.out.mono ?_
      rintro e w1 ⟨rfl, hb1⟩
      have HO1 := Lib.hid (HO.out.on hb1)
      have HB1 := Lib.hid (HB.out.trans (hb1.mono hsz))
      have HS1 := Lib.hid (Nat.le_trans hsz hb1.size)
      clear hb1 HO HB hcell HR
      by_cases hx : x.size ≤ 1024
      · obtain ⟨e1, e2⟩ := wr_one ckP x hx
        rw [e1, e2]
        have hfl : longS 1024 (l.take (k + 1)) = false := by
          rw [HST.out, longS_append, hf]
          unfold longS; simp; omega
        have hlen := logL_le ckP (l.take k) hf
        have hle : (logL ckP (l.take k)).length + (strL (recL ckP x)).size ≤ 140737488355328 := by
          rw [strL_size]
          have := recL_le ckP x hx
          rw [List.length_take] at hlen
          have := HL.out
          omega
        have hnx : logL ckP (l.take (k + 1)) = logL ckP (l.take k) ++ bl (strL (recL ckP x)) := by rw [HST.out, logL_append, logL_one, bl_strL]
        have HNX := Lib.hid hnx; have HLE := Lib.hid (And.intro hle hfl)
        clear e1 e2 hfl hlen hle hnx hx hf
        generalize strL (recL ckP x) = r at HNX HLE ⊢
        go_wp2_with fail
        refine (writeString_any w.heap.size w.heap.size _ r w1 HO1.out HLE.out.1 HS1.out).mono ?_
        rintro e w2 ⟨rfl, hO2, hB2⟩
        rw [← HNX.out] at hO2
        have HO2 := Lib.hid hO2; have HB2 := Lib.hid (HB1.out.trans hB2)
        clear hO2 hB2 HO1 HB1 hsz
        go_wp2_with fail
        exact ⟨⟨k + 1, by omega, by simp, HO2.out, HLE.out.2, HB2.out⟩, by simp [intOf]; omega⟩
      · obtain ⟨e1, e2⟩ := wr_long ckP [x] (long_one x hx)
        have hl2 : longS 1024 l = true := List.any_eq_true.2 ⟨x, HM.out, by simp; omega⟩
        obtain ⟨e3, e4⟩ := wr_long ckP l hl2
        rw [e1, e2]
        have E := Lib.hid (And.intro e3 e4)
        clear e1 e2 e3 e4 hl2 hx hf
        go_wp2_with fail
        go_ret2
        rw [E.out.1, E.out.2]
        exact ⟨rfl, HB1.out⟩
    · obtain rfl : k = l.length := by omega
      have hn : ¬ (l.length : Int) < (l.length : Int) := by omega
      rw [List.take_of_length_le (Nat.le_refl _)] at hO hf
      have E := Lib.hid (wr_fits ckP l hf)
      have HT := Lib.hid (builder_text w.heap.size w.heap.size _ wr hO hsz); have HB := Lib.hid hB
      clear hO hB hf
      generalize strL (logL ckP l) = r at HT E
      go_wp2_with fail
      refine HT.out.mono ?_
      rintro e w2 ⟨rfl, hB2⟩
      have HB2 := Lib.hid (HB.out.trans hB2)
      clear hB2 HB HT
      go_wp2_with fail
      go_ret2
      rw [E.out.1, E.out.2]
      exact ⟨rfl, HB2.out⟩
end Go.Proofs.Ytimijdmigdlhfaa