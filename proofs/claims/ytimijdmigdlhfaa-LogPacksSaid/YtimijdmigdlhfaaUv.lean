/- The reference's Long, Write, Pack. -/
import Derived.Test.YtimijdmigdlhfaaUp
import Derived.Test.YtimijdmigdlhfaaUd
namespace Go.Proofs.Ytimijdmigdlhfaa
open Go.RowKit
set_option maxRecDepth 100000

def Lg9Rel (w : World) (l : List ByteArray) (most : Nat) (i : Value) (wr : World) : Prop :=
  ∃ k : Nat, k ≤ l.length ∧ i = .int .i64 (k : Int) ∧ longS most (l.take k) = false ∧ Below w.heap.size w wr
set_option maxHeartbeats 1000000 in
theorem rLong9_any (a : Option Addr) (c : Nat) (l : List ByteArray) (hl : l.length ≤ 1000) (most : Nat) (w : World) (hp : SSl w a l) :
    Calls Try.prog 15 #[.slice a l.length c, .int .i64 (most : Int)] w fun e w' => e = .returned (.bool (longS most l)) ∧ Below w.heap.size w w' := by
  have HP := Lib.hid hp; have HL := Lib.hid hl
  clear hp hl
  go_enter Try.func15, Try.ntmps15
  go_wp2_with fail
  go_loopw [9] (Lg9Rel w l most) (fun i _ => l.length - (intOf i).toNat)
  case atStart => exact ⟨0, Nat.zero_le _, rfl, rfl, Below.refl _ _⟩
  case round =>
    obtain ⟨k, hk, rfl, hf, hB⟩ := hrel
    by_cases hlt : k < l.length
    · have h1 : (k : Int) < (l.length : Int) := by omega
      have h1k : (k : Int) < 1000 := by have := HL.out; omega
      obtain ⟨b, off, rfl, hbl, hc⟩ := HP.out (by omega)
      have hcell : wr.cell? ⟨b, off + k, none⟩ = some (.string (l.getD k ⟨#[]⟩)) := by rw [hB.cell (p := ⟨b, off + k, none⟩) hbl]; exact hc k hlt
      have hst := take_next l k hlt
      have hmem := getD_mem' l k hlt
      obtain ⟨x, ex⟩ : ∃ x, l.getD k ⟨#[]⟩ = x := ⟨_, rfl⟩
      rw [ex] at hcell hst hmem
      have HB := Lib.hid hB; have HST := Lib.hid (And.intro hst (And.intro hmem hf))
      clear hB hst hc ex hmem hf hbl
      by_cases hx : most < x.size
      · have hx1 : (most : Int) < (x.size : Int) := by omega
        have hl2 : longS most l = true := List.any_eq_true.2 ⟨x, HST.out.2.1, by simpa using hx⟩
        have HE := Lib.hid hl2
        clear hl2 hx HST
        go_wp2_with fail
        go_ret
        rw [HE.out]
        exact ⟨rfl, HB.out⟩
      · have hx1 : ¬ (most : Int) < (x.size : Int) := by omega
        have hfl : longS most (l.take (k + 1)) = false := by
          rw [HST.out.1, longS_append, HST.out.2.2]
          unfold longS; simp; omega
        have HF := Lib.hid hfl
        clear hfl hx HST
        go_wp2_with fail
        exact ⟨⟨k + 1, by omega, by simp, HF.out, HB.out⟩, by simp [intOf]; omega⟩
    · obtain rfl : k = l.length := by omega
      have hn : ¬ (l.length : Int) < (l.length : Int) := by omega
      rw [List.take_of_length_le (Nat.le_refl _)] at hf
      have HB := Lib.hid hB; have HE := Lib.hid hf
      clear hB hf
      go_wp2_with fail
      go_ret
      rw [HE.out]
      exact ⟨rfl, HB.out⟩
def RwRel (w : World) (l : List ByteArray) (out i : Value) (wr : World) : Prop :=
  ∃ k : Nat, k ≤ l.length ∧ i = .int .i64 (k : Int) ∧ out = .string (strL (logL ckR (l.take k))) ∧ Below w.heap.size w wr
set_option maxHeartbeats 1000000 in
theorem rWrite_any (a : Option Addr) (c : Nat) (l : List ByteArray) (hl : l.length ≤ 100) (hok : longS 1024 l = false) (w : World) (hp : SSl w a l) :
    Calls Try.prog 16 #[.slice a l.length c] w fun e w' => e = .returned (.string (strL (logL ckR l))) ∧ Below w.heap.size w w' := by
  have HP := Lib.hid hp; have HL := Lib.hid (And.intro hl hok)
  clear hp hl hok
  go_enter Try.func16, Try.ntmps16
  go_wp2_with fail
  go_loopw [3, 8] (RwRel w l) (fun _ i _ => l.length - (intOf i).toNat)
  case atStart => exact ⟨0, Nat.zero_le _, rfl, by simp [logL_nil, strL], Below.refl _ _⟩
  case round =>
    obtain ⟨k, hk, rfl, rfl, hB⟩ := hrel
    by_cases hlt : k < l.length
    · have h1 : (k : Int) < (l.length : Int) := by omega
      have h1k : (k : Int) < 100 := by have := HL.out.1; omega
      obtain ⟨b, off, rfl, hbl, hc⟩ := HP.out (by omega)
      have hcell : wr.cell? ⟨b, off + k, none⟩ = some (.string (l.getD k ⟨#[]⟩)) := by rw [hB.cell (p := ⟨b, off + k, none⟩) hbl]; exact hc k hlt
      have hst := take_next l k hlt
      have hxs := not_long HL.out.2 _ (getD_mem' l k hlt)
      have hle := logL_le ckR (l.take (k + 1)) (longS_take HL.out.2 (k + 1))
      rw [List.length_take] at hle
      obtain ⟨x, ex⟩ : ∃ x, l.getD k ⟨#[]⟩ = x := ⟨_, rfl⟩
      rw [ex] at hcell hst hxs
      have hcat0 : strL (logL ckR (l.take k)) ++ strL (recL ckR x) = strL (logL ckR (l.take (k + 1))) := by rw [hst, logL_append, logL_one]; exact strL_append _ _
      have hz : (strL (logL ckR (l.take k))).size + (strL (recL ckR x)).size ≤ 1037 * 101 := by
        have h2 := congrArg ByteArray.size hcat0
        have h3 : (strL (logL ckR (l.take k)) ++ strL (recL ckR x)).size = (strL (logL ckR (l.take k))).size + (strL (recL ckR x)).size := ByteArray.size_append
        rw [h3, strL_size (logL ckR (l.take (k + 1)))] at h2
        omega
      have HR := Lib.hid (fun W => rRecord_any x hxs W)
      have HB := Lib.hid hB
      clear hB hst hc ex hxs hle hbl
      obtain ⟨q, hq⟩ : ∃ q, strL (logL ckR (l.take (k + 1))) = q := ⟨_, rfl⟩
      rw [hq] at hcat0
      have HQ := Lib.hid hq
      clear hq
      generalize strL (logL ckR (l.take k)) = p at hcat0 hz ⊢
      generalize strL (recL ckR x) = r at HR hcat0 hz
      have hcat : ∀ W : World, (Op.stringOp .add p r).run Try.prog W = .ok (.string q) W := fun W => by
        rw [run_string_add_sum W _ _ (by omega), hcat0]
      have hns : (9223372036854775807 < p.size + r.size) = False := by simp; omega
      clear hz hcat0
      go_wp2_with fail
      refine (HR.out wr).mono ?_
      rintro e w1 ⟨rfl, hb1⟩
      have HB1 := Lib.hid (HB.out.trans (hb1.mono HB.out.size))
      clear hb1 HB HR hcell
      go_wp2_with fail
      exact ⟨⟨k + 1, by omega, by simp, by rw [HQ.out], HB1.out⟩, by simp [intOf]; omega⟩
    · obtain rfl : k = l.length := by omega
      have hn : ¬ (l.length : Int) < (l.length : Int) := by omega
      rw [List.take_of_length_le (Nat.le_refl _)]
      obtain ⟨q, hq⟩ : ∃ q, strL (logL ckR l) = q := ⟨_, rfl⟩
      rw [hq]
      have HB := Lib.hid hB; have HQ := Lib.hid hq
      clear hB hq
      go_wp2_with fail
      go_ret
      rw [HQ.out]
      exact ⟨rfl, HB.out⟩
set_option maxHeartbeats 4000000 in
theorem rPk9_any (st : ByteArray) (hst : st.size ≤ maxCut) (a : Option Addr) (c : Nat) (l : List ByteArray) (hl : l.length ≤ 50) (hcl : Cut9 l) (hok : longS 1024 (packT st l) = false) (w : World) (hp : SSl w a l) :
    Calls Try.prog 23 #[.string st, .slice a l.length c] w fun e w' => e = .returned (.string (strL (logL ckR (packT st l)))) ∧ Below w.heap.size w w' := by
  have hcat := cat_s st hst
  have hns : (9223372036854775807 < (⟨#[115]⟩ : ByteArray).size + st.size) = False := by
    unfold maxCut at hst; show (9223372036854775807 < 1 + st.size) = False; simp; omega
  have hns2 : (9223372036854775807 < 1 + st.size) = False := by unfold maxCut at hst; simp; omega
  have HFT := Lib.hid hok
  clear hok
  have ho0 : OwnS (w.alloc (.cells #[.string (sT st)] 9)) w.heap.size (.slice (some ⟨w.heap.size, 0, none⟩) 1 1) (packT st []) := World.ownsRow_lit w #[.string (sT st)] 1 (Nat.le_refl _) (by decide) rfl
  have hb0 : Below w.heap.size w (w.alloc (.cells #[.string (sT st)] 9)) := (Below.refl _ _).alloc (Nat.le_refl _) _
  have H0 := Lib.hid (And.intro ho0 hb0); have HP := Lib.hid hp; have HL := Lib.hid (And.intro hl hcl)
  clear ho0 hb0 hp hl hcl hst
  go_enter Try.func23, Try.ntmps23
  go_wp2_with fail
  clear hcat hns hns2
  go_loopw [5, 13] (PkRel w st l) (fun _ i _ => l.length - (intOf i).toNat)
  case atStart => exact ⟨0, Nat.zero_le _, rfl, H0.out.1, H0.out.2, H0.out.2.size⟩
  case round =>
    clear H0
    obtain ⟨k, hk, rfl, ho, hB, hsz⟩ := hrel
    by_cases hlt : k < l.length
    · have h1 : (k : Int) < (l.length : Int) := by omega
      have h1k : (k : Int) < 100 := by have := HL.out.1; omega
      obtain ⟨b, off, rfl, hbl, hc⟩ := HP.out (by omega)
      have hcell : wr.cell? ⟨b, off + k, none⟩ = some (.string (l.getD k ⟨#[]⟩)) := by rw [hB.cell (p := ⟨b, off + k, none⟩) hbl]; exact hc k hlt
      have hxs := HL.out.2 _ (getD_mem' l k hlt)
      have hstep := packT_step st l k hlt
      obtain ⟨x, ex⟩ : ∃ x, l.getD k ⟨#[]⟩ = x := ⟨_, rfl⟩
      rw [ex] at hcell hxs hstep
      have hcat := cat_c x hxs
      have hns : (9223372036854775807 < (⟨#[99]⟩ : ByteArray).size + x.size) = False := by
        unfold maxCut at hxs; show (9223372036854775807 < 1 + x.size) = False; simp; omega
      have hns2 : (9223372036854775807 < 1 + x.size) = False := by unfold maxCut at hxs; simp; omega
      have hlen : (packT st (l.take k)).length ≤ 1000 := by rw [packT_len, List.length_take]; have := HL.out.1; omega
      have hbv : Below wr.heap.size wr (wr.alloc (.cells #[.string (cT x)] 9)) := (Below.refl _ wr).alloc (Nat.le_refl _) _
      have hcv : (wr.alloc (.cells #[.string (cT x)] 9)).cell? ⟨wr.heap.size, 0, none⟩ = some (.string (cT x)) := by rw [cell_of_row _ _ _ _ _ _ (heap_alloc_new _ _)]; rfl
      have HO := Lib.hid (ho.on hbv); have HB := Lib.hid (hB.trans (hbv.mono hsz)); have HS := Lib.hid (Nat.le_trans hsz hbv.size); have HST := Lib.hid (And.intro hstep hlen)
      have HCV := Lib.hid hcv
      clear ho hB hsz hc hbl hbv hstep hlen ex hxs hcv
      go_wp2_with (at_builtin; refine append_s rfl _ _ rfl w.heap.size _ _ (cT x) wr.heap.size rfl HO.out rfl HCV.out HST.out.2 HS.out ?_; intro g cap w3 ho3 hg3; have HO3 := Lib.hid ho3; have HB3 := Lib.hid (HB.out.grown hg3 HS.out (fun i hi => (World.ownsRow.lt HO.out i hi).1)); have HS3 := Lib.hid (Nat.le_trans HS.out hg3.size); clear ho3 hg3)
      have ho4 := HO3.out
      have hlen4 : (packT st (l.take k)).length + 1 = (packT st (l.take (k + 1))).length := by rw [HST.out.1]; simp
      rw [← HST.out.1] at ho4
      exact ⟨⟨k + 1, by omega, by simp, ho4, HB3.out, HS3.out⟩, by simp [intOf]; omega⟩
    · obtain rfl : k = l.length := by omega
      have hn : ¬ (l.length : Int) < (l.length : Int) := by omega
      rw [List.take_of_length_le (Nat.le_refl _)] at ho
      obtain ⟨a', c', rfl, -, hss⟩ := ho.read
      have hw := rWrite_any a' c' (packT st l) (by rw [packT_len]; have := HL.out.1; omega) HFT.out wr hss
      have HW := Lib.hid hw; have HB := Lib.hid hB; have HS := Lib.hid hsz
      clear ho hB hsz hss hw
      go_wp2_with fail
      refine HW.out.mono ?_
      rintro e w2 ⟨rfl, hb2⟩
      have HB2 := Lib.hid (HB.out.trans (hb2.mono HS.out))
      clear hb2 HB HW
      go_wp2_with fail
      go_ret
      exact ⟨rfl, HB2.out⟩
end Go.Proofs.Ytimijdmigdlhfaa
