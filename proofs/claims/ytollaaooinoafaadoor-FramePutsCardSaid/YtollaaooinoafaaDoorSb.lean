/- Frames in memory; the reference's text, keys, Right. -/
import Derived.Test.YtollaaooinoafaaDoorSz
import Derived.Test.YtollaaooinoafaaDoorPg
namespace Go.Proofs.YtollaaooinoafaaDoor
open Go.RowKit Go.Sort
set_option maxRecDepth 100000
/-- a slice of texts, nil or not, that reads as l -/
def SSl (w : World) (a : Option Addr) (l : List ByteArray) : Prop :=
  0 < l.length → ∃ b off : Nat, a = some ⟨b, off, none⟩ ∧ b < w.heap.size ∧ ∀ i, i < l.length → w.cell? ⟨b, off + i, none⟩ = some (.string (l.getD i ⟨#[]⟩))
theorem SSl.on {w w' : World} {a : Option Addr} {l : List ByteArray} (h : SSl w a l) (hb : Below w.heap.size w w') : SSl w' a l := by
  intro h0
  obtain ⟨b, off, ha, hlt, hc⟩ := h h0
  exact ⟨b, off, ha, Nat.lt_of_lt_of_le hlt hb.size, fun i hi => by rw [hb.cell (p := ⟨b, off + i, none⟩) hlt]; exact hc i hi⟩
def frC (f : Fr) (a : Option Addr) (c : Nat) : Array Value := #[.int .i64 f.kind, .int .u64 (f.frm : Int), .int .u64 (f.dst : Int), .int .u64 (f.id : Int), .string f.ident, .string f.base, .int .u64 (f.signed : Int), .int .u64 (f.once : Int), .string f.ratchet, .int .u64 (f.prev : Int), .int .u64 (f.num : Int), .string f.body, .slice a f.keys.length c]
def frV (f : Fr) (a : Option Addr) (c : Nat) : Value := .agg (frC f a c)
set_option maxHeartbeats 400000 in
theorem r8text_any (s : ByteArray) (hs : s.size ≤ 1024) (w : World) :
    Calls Tryd.prog 26 #[.string s] w fun e w' => e = .returned (.string (strL (partB (tp s)))) ∧ Below w.heap.size w w' := by
  have h : Calls Tryd.prog 38 #[.agg #[.bool true, .int .u64 0, .string s]] w fun e w' => e = .returned (.string (strL (partB (tp s)))) ∧ Below w.heap.size w w' :=
    rOne_any (tp s) ⟨by show 0 < _; omega, by show s.size ≤ maxLen; unfold maxLen; omega⟩ (by show (true && decide (1024 < s.size)) = false; rw [decide_eq_false (by omega)]; rfl) w
  have H := Lib.hid h
  clear h hs
  go_enter Tryd.func26, Tryd.ntmps26
  go_wp2_with fail
  refine H.out.mono ?_
  rintro e w1 ⟨rfl, hb⟩
  go_wp2_with fail
  go_ret
  exact ⟨rfl, hb⟩
def KeysRel (W : World) (l : List ByteArray) (i : Value) (wr : World) : Prop :=
  ∃ k : Nat, k ≤ l.length ∧ i = .int .i64 (k : Int) ∧ (l.take k).all (fun x => decide (x.size = 32)) = true ∧ wr = W
theorem all_step (l : List ByteArray) (k : Nat) (h : k < l.length) (p : ByteArray → Bool) (hk : (l.take k).all p = true) : (l.take (k + 1)).all p = p (l.getD k ⟨#[]⟩) := by
  rw [List.take_succ_eq_append_getElem h, List.all_append, hk, Bool.true_and]
  simp [List.getD, h]
theorem all_stop (l : List ByteArray) (k : Nat) (h : k < l.length) (p : ByteArray → Bool) (hp : p (l.getD k ⟨#[]⟩) = false) : l.all p = false := by
  rw [Bool.eq_false_iff]
  intro ha
  rw [List.all_eq_true] at ha
  have e : l.getD k ⟨#[]⟩ = l[k] := by simp [List.getD, h]
  have := ha _ (List.getElem_mem h)
  rw [← e, hp] at this
  exact absurd this (by simp)
set_option maxHeartbeats 1000000 in
theorem r8keys_any (a : Option Addr) (c : Nat) (l : List ByteArray) (hl : l.length ≤ maxLen) (w : World) (hp : SSl w a l) :
    Calls Tryd.prog 24 #[.slice a l.length c] w fun e w' => e = .returned (.bool ((l.all fun x => decide (x.size = 32)) && decide (l.length ≤ 32))) ∧ w = w' := by
  have HP := Lib.hid hp; have HL := Lib.hid hl
  clear hp hl
  go_enter Tryd.func24, Tryd.ntmps24
  go_wp2_with fail
  go_loopw [7] (KeysRel w l) (fun i _ => l.length - (intOf i).toNat)
  case atStart => exact ⟨0, Nat.zero_le _, rfl, rfl, rfl⟩
  case round =>
    obtain ⟨k, hk, rfl, hall, rfl⟩ := hrel
    by_cases hlt : k < l.length
    · have h1 : (k : Int) < (l.length : Int) := by omega
      have h1k : (k : Int) < 9223372036854775807 := by have := HL.out; unfold maxLen at this; omega
      obtain ⟨b, off, rfl, hbl, hc⟩ := HP.out (by omega)
      have hcell := hc k hlt
      have hst := all_step l k hlt _ hall
      have hstop := all_stop l k hlt (fun x => decide (x.size = 32))
      obtain ⟨x, ex⟩ : ∃ x, l.getD k ⟨#[]⟩ = x := ⟨_, rfl⟩
      rw [ex] at hcell hst hstop
      by_cases hx : x.size = 32
      · have hne : ((x.size : Int) != 32) = false := by rw [hx]; rfl
        rw [decide_eq_true hx] at hst
        have HST := Lib.hid hst
        clear hc hst hstop ex hall hx
        go_wp2_with fail
        exact ⟨⟨k + 1, by omega, by simp, HST.out, rfl⟩, by simp [intOf]; omega⟩
      · have hne : ((x.size : Int) != 32) = true := by rw [bne, Bool.not_eq_true', beq_eq_false_iff_ne]; omega
        have HST := Lib.hid (hstop (decide_eq_false hx))
        clear hc hst hstop ex hall hx
        go_wp2_with fail
        go_ret
        rw [HST.out]
        exact ⟨rfl, rfl⟩
    · obtain rfl : k = l.length := by omega
      rw [List.take_of_length_le (Nat.le_refl _)] at hall
      have HA := Lib.hid hall
      have hn : ¬ (l.length : Int) < (l.length : Int) := by omega
      clear hall
      go_wp2_with fail
      go_ret
      rw [HA.out, Bool.true_and]
      exact ⟨ret_bool (by by_cases h : l.length ≤ 32; · rw [decide_eq_true h]; simp; omega
                          · rw [decide_eq_false h]; simp; omega), rfl⟩
theorem str_nil (x : ByteArray) : (x.toList == []) = decide (x.size = 0) := by
  rw [str_lit x (bl x) [] rfl]
  by_cases h : x.size = 0
  · rw [decide_eq_true h, decide_eq_true]; exact List.eq_nil_of_length_eq_zero h
  · rw [decide_eq_false h, decide_eq_false]; intro e; exact h (by rw [← bl_length, e]; rfl)
theorem size_nil (x : ByteArray) : x.size = 0 ↔ x = ByteArray.empty := by
  constructor
  · intro h; exact ByteArray.ext (Array.eq_empty_of_size_eq_zero h)
  · rintro rfl; rfl
theorem frBox (w : World) (f : Fr) (a : Option Addr) (c : Nat) (t : TypeId) : (w.alloc (.cells (frC f a c) t)).heap[w.heap.size]? = some (.cells (frC f a c) t) := heap_alloc_new _ _
set_option maxHeartbeats 8000000 in
theorem r8Right_any (f : Fr) (a : Option Addr) (c : Nat) (hl : f.keys.length ≤ maxLen) (w : World) (hp : SSl w a f.keys) :
    Calls Tryd.prog 10 #[frV f a c] w fun e w' => e = .returned (.bool (rightF f)) ∧ Below w.heap.size w w' := by
  have hB0 : Below w.heap.size w (w.alloc (.cells (frC f a c) 25)) := (Below.refl _ _).alloc (Nat.le_refl _) _
  have hx := frBox w f a c 25
  have hk := fun W h => r8keys_any a c f.keys hl W h
  obtain ⟨kd, fm, dt, fid, idt, bs, sg, oc, rt, pv, nm, bd, ks⟩ := f
  unfold frV
  simp only [frC] at hB0 hx hk ⊢
  have HB := Lib.hid hB0; have HX := Lib.hid hx; have HK := Lib.hid hk; have HP := Lib.hid hp
  clear hB0 hx hk hp hl
  go_enter Tryd.func10, Tryd.ntmps10
  go_upto_region 1 with fail
  have HPV := Lib.hid (HP.out.on HB.out)
  obtain ⟨B, eB⟩ : ∃ B, w.heap.size = B := ⟨_, rfl⟩
  rw [eB] at HX ⊢
  clear eB HP
  generalize World.alloc w _ = V at HB HX HPV ⊢
  have d0 : V.cell? ⟨B, 0, none⟩ = some (.int .i64 kd) := by rw [cell_of_row _ _ _ _ _ _ HX.out]; rfl
  have d4 : V.cell? ⟨B, 4, none⟩ = some (.string idt) := by rw [cell_of_row _ _ _ _ _ _ HX.out]; rfl
  have d5 : V.cell? ⟨B, 5, none⟩ = some (.string bs) := by rw [cell_of_row _ _ _ _ _ _ HX.out]; rfl
  have d6 : V.cell? ⟨B, 6, none⟩ = some (.int .u64 (sg : Int)) := by rw [cell_of_row _ _ _ _ _ _ HX.out]; rfl
  have d7 : V.cell? ⟨B, 7, none⟩ = some (.int .u64 (oc : Int)) := by rw [cell_of_row _ _ _ _ _ _ HX.out]; rfl
  have d8 : V.cell? ⟨B, 8, none⟩ = some (.string rt) := by rw [cell_of_row _ _ _ _ _ _ HX.out]; rfl
  have d9 : V.cell? ⟨B, 9, none⟩ = some (.int .u64 (pv : Int)) := by rw [cell_of_row _ _ _ _ _ _ HX.out]; rfl
  have d10 : V.cell? ⟨B, 10, none⟩ = some (.int .u64 (nm : Int)) := by rw [cell_of_row _ _ _ _ _ _ HX.out]; rfl
  have d11 : V.cell? ⟨B, 11, none⟩ = some (.string bd) := by rw [cell_of_row _ _ _ _ _ _ HX.out]; rfl
  have d12 : V.cell? ⟨B, 12, none⟩ = some (.slice a ks.length c) := by rw [cell_of_row _ _ _ _ _ _ HX.out]; rfl
  by_cases k0 : kd = 0
  · subst k0
    clear HX HK HPV
    go_wp2_with fail
    all_goals
      go_ret
      refine ⟨ret_bool ?_, HB.out⟩
      rw [Bool.eq_iff_iff]
      simp only [rightF, if_true, Bool.and_eq_true, decide_eq_true_eq, beq_iff_eq, Bool.false_eq_true, false_iff]
      first | omega | (constructor <;> intro h <;> omega)
  · have s1 := str_nil idt
    have s2 := str_nil bs
    have s3 := str_nil rt
    have s4 := str_nil bd
    clear HX
    go_wp2_with (go_at_call 24; refine (HK.out V HPV.out).mono ?_; rintro e w1 ⟨rfl, rfl⟩)
    all_goals
      have z1 := size_nil idt
      have z2 := size_nil bs
      have z3 := size_nil rt
      have z4 := size_nil bd
      go_ret
      refine ⟨ret_bool ?_, HB.out⟩
      clear d0 d4 d5 d6 d7 d8 d9 d10 d11 d12 HK HPV s1 s2 s3 s4
      have l0 : ((ks.length : Int) == 0) = decide (ks.length = 0) := nat_eq ks.length 0
      have e0 : ByteArray.empty.size = 0 := rfl
      unfold rightF
      simp only
      grind
end Go.Proofs.YtollaaooinoafaaDoor