/- The package's Pack. -/
import Derived.Test.YtimijdmigdlhfaaUn
namespace Go.Proofs.Ytimijdmigdlhfaa
open Go.RowKit
set_option maxRecDepth 100000
def maxCut : Nat := 140737488355328
/-- texts that a mark can be put ahead of -/
def Cut9 (l : List ByteArray) : Prop := ∀ s ∈ l, s.size ≤ maxCut
theorem cat_s (s : ByteArray) (h : s.size ≤ maxCut) (W : World) : (Op.stringOp .add ⟨#[115]⟩ s).run Try.prog W = .ok (.string (sT s)) W := by
  unfold maxCut at h
  rw [run_string_add_sum W _ _ (by show 1 + _ ≤ _; omega)]
  rfl
theorem cat_c (s : ByteArray) (h : s.size ≤ maxCut) (W : World) : (Op.stringOp .add ⟨#[99]⟩ s).run Try.prog W = .ok (.string (cT s)) W := by
  unfold maxCut at h
  rw [run_string_add_sum W _ _ (by show 1 + _ ≤ _; omega)]
  rfl
def PkRel (w : World) (st : ByteArray) (l : List ByteArray) (v i : Value) (wr : World) : Prop :=
  ∃ k : Nat, k ≤ l.length ∧ i = .int .i64 (k : Int) ∧ OwnS wr w.heap.size v (packT st (l.take k)) ∧ Below w.heap.size w wr ∧ w.heap.size ≤ wr.heap.size
theorem packT_step (st : ByteArray) (l : List ByteArray) (k : Nat) (h : k < l.length) : packT st (l.take (k + 1)) = packT st (l.take k) ++ [cT (l.getD k ⟨#[]⟩)] := by
  unfold packT
  rw [take_next l k h, List.map_append]
  rfl
theorem packT_len (st : ByteArray) (l : List ByteArray) : (packT st l).length = l.length + 1 := by unfold packT; simp
theorem fit_pack (st : ByteArray) (l : List ByteArray) (hs : st.size ≤ maxCut) (hl : Cut9 l) : Fit (packT st l) := by
  intro x hx
  unfold packT at hx
  unfold maxCut at hs
  rcases List.mem_cons.1 hx with rfl | hx
  · rw [size_sT]; unfold maxLen; omega
  · obtain ⟨y, hy, rfl⟩ := List.mem_map.1 hx
    have := hl y hy
    unfold maxCut at this
    rw [size_cT]; unfold maxLen; omega
set_option maxHeartbeats 4000000 in
theorem Pack_log (st : ByteArray) (hst : st.size ≤ maxCut) (a : Option Addr) (c : Nat) (l : List ByteArray) (hl : l.length ≤ 100) (hcl : Cut9 l) (w : World) (hp : SSl w a l) :
    Calls Try.prog 22 #[.string st, .slice a l.length c] w fun e w' => e = .returned (.tuple #[.string (wrS ckP (packT st l)), .int .i64 (wrE (packT st l) : Int)]) ∧ Below w.heap.size w w' := by
  have hcat := cat_s st hst
  have hns : (9223372036854775807 < (⟨#[115]⟩ : ByteArray).size + st.size) = False := by
    unfold maxCut at hst; show (9223372036854775807 < 1 + st.size) = False; simp; omega
  have hns2 : (9223372036854775807 < 1 + st.size) = False := by unfold maxCut at hst; simp; omega
  have HFT := Lib.hid (fit_pack st l hst hcl)
  have ho0 : OwnS (w.alloc (.cells #[.string (sT st)] 9)) w.heap.size (.slice (some ⟨w.heap.size, 0, none⟩) 1 1) (packT st []) := World.ownsRow_lit w #[.string (sT st)] 1 (Nat.le_refl _) (by decide) rfl
  have hb0 : Below w.heap.size w (w.alloc (.cells #[.string (sT st)] 9)) := (Below.refl _ _).alloc (Nat.le_refl _) _
  have H0 := Lib.hid (And.intro ho0 hb0); have HP := Lib.hid hp; have HL := Lib.hid (And.intro hl hcl)
  clear ho0 hb0 hp hl hcl hst
  go_enter Try.func22, Try.ntmps22
  go_wp2_with fail
  clear hcat hns hns2
  go_loopw [6, 14] (PkRel w st l) (fun _ i _ => l.length - (intOf i).toNat)
  case atStart => exact ⟨0, Nat.zero_le _, rfl, H0.out.1, H0.out.2, H0.out.2.size⟩
  case round =>
    clear H0
    obtain ⟨k, hk, rfl, ho, hB, hsz⟩ := hrel
    by_cases hlt : k < l.length
    · have h1 : (k : Int) < (l.length : Int) := by omega
      have h1k : (k : Int) < 100 := by have := HL.out.1; omega
      obtain ⟨b, off, rfl, hbl, hc⟩ := HP.out (by omega)
      have hcell : wr.cell? ⟨b, off + k, none⟩ = some (.string (l.getD k ⟨#[]⟩)) := by rw [hB.cell (p := ⟨b, off + k, none⟩) hbl]; exact hc k hlt
      have hxs := HL.out.2 _ (getD_mem' l k hlt)
      have hstep := packT_step st l k hlt
      obtain ⟨x, ex⟩ : ∃ x, l.getD k ⟨#[]⟩ = x := ⟨_, rfl⟩
      rw [ex] at hcell hxs hstep
      have hcat := cat_c x hxs
      have hns : (9223372036854775807 < (⟨#[99]⟩ : ByteArray).size + x.size) = False := by
        unfold maxCut at hxs; show (9223372036854775807 < 1 + x.size) = False; simp; omega
      have hns2 : (9223372036854775807 < 1 + x.size) = False := by unfold maxCut at hxs; simp; omega
      have hlen : (packT st (l.take k)).length ≤ 1000 := by rw [packT_len, List.length_take]; have := HL.out.1; omega
      have hbv : Below wr.heap.size wr (wr.alloc (.cells #[.string (cT x)] 9)) := (Below.refl _ wr).alloc (Nat.le_refl _) _
      have hcv : (wr.alloc (.cells #[.string (cT x)] 9)).cell? ⟨wr.heap.size, 0, none⟩ = some (.string (cT x)) := by rw [cell_of_row _ _ _ _ _ _ (heap_alloc_new _ _)]; rfl
      have HO := Lib.hid (ho.on hbv); have HB := Lib.hid (hB.trans (hbv.mono hsz)); have HS := Lib.hid (Nat.le_trans hsz hbv.size); have HST := Lib.hid (And.intro hstep hlen)
      have HCV := Lib.hid hcv
      clear ho hB hsz hc hbl hbv hstep hlen ex hxs hcv
      go_wp2_with (at_builtin; refine append_s rfl _ _ rfl w.heap.size _ _ (cT x) wr.heap.size rfl HO.out rfl HCV.out HST.out.2 HS.out ?_; intro g cap w3 ho3 hg3; have HO3 := Lib.hid ho3; have HB3 := Lib.hid (HB.out.grown hg3 HS.out (fun i hi => (World.ownsRow.lt HO.out i hi).1)); have HS3 := Lib.hid (Nat.le_trans HS.out hg3.size); clear ho3 hg3)
      have ho4 := HO3.out
      have hlen4 : (packT st (l.take k)).length + 1 = (packT st (l.take (k + 1))).length := by rw [HST.out.1]; simp
      rw [← HST.out.1] at ho4
      exact ⟨⟨k + 1, by omega, by simp, ho4, HB3.out, HS3.out⟩, by simp [intOf]; omega⟩
    · obtain rfl : k = l.length := by omega
      have hn : ¬ (l.length : Int) < (l.length : Int) := by omega
      rw [List.take_of_length_le (Nat.le_refl _)] at ho
      obtain ⟨a', c', rfl, -, hss⟩ := ho.read
      have hw := Write_any a' c' (packT st l) (by rw [packT_len]; have := HL.out.1; omega) HFT.out wr hss
      have HW := Lib.hid hw; have HB := Lib.hid hB; have HS := Lib.hid hsz
      clear ho hB hsz hss hw
      go_wp2_with fail
      refine HW.out.mono ?_
      rintro e w2 ⟨rfl, hb2⟩
      have HB2 := Lib.hid (HB.out.trans (hb2.mono HS.out))
      clear hb2 HB HW
      go_wp2_with fail
      go_ret2
      exact ⟨rfl, HB2.out⟩
end Go.Proofs.Ytimijdmigdlhfaa