/- The package frame's wireKinds; strings.HasPrefix. -/
import Derived.Test.YtollaaooinoafaaDoorTf
import Derived.Test.YtollaaooinoafaaDoorPp
namespace Go.Proofs.YtollaaooinoafaaDoor
open Go.RowKit Go.Sort
set_option maxRecDepth 100000
theorem cut_to (x b : ByteArray) (n : Nat) (hn : n ≤ x.size) (hb : x.extract 0 n = b) (W : World) : (Instr.slice 9 (.string x) none (some (.int .i64 (n : Int))) none).run Tryd.prog W = .ok (.string b) W := by
  have h1 : (n : Int) ≤ (x.size : Int) := by omega
  subst hb
  go_simp
def preS (s t : ByteArray) : Bool := decide (t.size ≤ s.size) && decide ((bl s).take t.size = bl t)
theorem preS_num (s : ByteArray) (k : Nat) : preS s (strL (numB k)) = preB (bl s) k := by
  unfold preS preB
  rw [strL_size, bl_strL, bl_length]
set_option maxHeartbeats 1000000 in
theorem hasPrefixB_any (s t : ByteArray) (w : World) :
    Calls Tryd.prog 39 #[.string s, .string t] w fun e w' => e = .returned (.bool (preS s t)) ∧ w = w' := by
  by_cases h : t.size ≤ s.size
  · have h1 : (t.size : Int) ≤ (s.size : Int) := by omega
    obtain ⟨p, hp⟩ : ∃ p, s.extract 0 t.size = p := ⟨_, rfl⟩
    have hsl := cut_to s p t.size h hp
    have hb : bl p = (bl s).take t.size := by rw [← hp, bl_extract, List.drop_zero]
    have he : preS s t = (p.toList == t.toList) := by
      unfold preS
      rw [decide_eq_true h, Bool.true_and, str_eq, ← hb]
      by_cases hpt : p = t
      · subst hpt; simp
      · rw [decide_eq_false hpt, decide_eq_false]
        exact fun e => hpt (bl_inj e)
    rw [he]
    clear he hb hp h
    go_enter Tryd.func39, Tryd.ntmps39
    go_wp2_with fail
    go_ret
    exact ⟨rfl, rfl⟩
  · have h1 : ¬ (t.size : Int) ≤ (s.size : Int) := by omega
    have he : preS s t = false := by unfold preS; rw [decide_eq_false h, Bool.false_and]
    rw [he]
    clear he h
    go_enter Tryd.func39, Tryd.ntmps39
    go_wp2_with fail
    go_ret
    exact ⟨rfl, rfl⟩
set_option maxHeartbeats 1000000 in
theorem hasPrefix_any (s t : ByteArray) (w : World) :
    Calls Tryd.prog 28 #[.string s, .string t] w fun e w' => e = .returned (.bool (preS s t)) ∧ w = w' := by
  have H := Lib.hid (hasPrefixB_any s t w)
  go_enter Tryd.func28, Tryd.ntmps28
  go_wp2_with fail
  refine H.out.mono ?_
  rintro e w1 ⟨rfl, rfl⟩
  go_wp2_with fail
  go_ret
  exact ⟨rfl, rfl⟩
def WkRel (w : World) (ws : List Nat) (o i : Value) (wr : World) : Prop :=
  ∃ k : Nat, k ≤ ws.length ∧ i = .int .i64 (k : Int) ∧ Own wr w.heap.size o ((ws.take k).map wkW) ∧ Below w.heap.size w wr
theorem wk_step (ws : List Nat) (k : Nat) (h : k < ws.length) : (ws.take (k + 1)).map wkW = (ws.take k).map wkW ++ [wkW (ws.getD k 0)] := by
  have e : ws.getD k 0 = ws[k] := by simp [List.getD, h]
  rw [e, List.take_succ_eq_append_getElem h, List.map_append]
  rfl
set_option maxHeartbeats 4000000 in
theorem wireKinds_any (kn : Nat) (hkn3 : kn < 3) (w : World) (hF : FmtAt w) :
    Calls Tryd.prog 42 #[.int .i64 (kn : Int)] w fun e w' => e = .returned (.string (strL (fmK kn))) ∧ Below w.heap.size w w' := by
  obtain ⟨fb, fo, fcap, hf0, hf2⟩ := hF kn hkn3
  have hf3 := fmt_get kn
  have hws := fmt_len kn
  have hfk := fmK_map kn hkn3
  obtain ⟨K, eK⟩ : ∃ K, strL (fmK kn) = K := ⟨_, rfl⟩
  rw [eK]
  have hk3 : (kn : Int) < 3 := by omega
  obtain ⟨ws, ews⟩ : ∃ ws, fmtL kn = ws := ⟨_, rfl⟩
  rw [ews] at hf0 hf2 hf3 hws hfk
  rw [← hfk] at eK
  have HW := Lib.hid (And.intro hf2 (And.intro hf3 hws)); have HK := Lib.hid eK
  clear hf2 hf3 hws hfk eK ews hkn3 hF
  go_enter Tryd.func42, Tryd.ntmps42
  go_upto_region 3 with fail
  clear hf0 hk3
  go_loopw [3, 10] (WkRel w ws) (fun _ i _ => ws.length - (intOf i).toNat)
  case atStart => exact ⟨0, Nat.zero_le _, rfl, Own.nil _ _, Below.refl _ _⟩
  case round =>
    obtain ⟨k, hk, rfl, hO, hB⟩ := hrel
    obtain ⟨hf2, hf3, hws⟩ := HW.out
    by_cases hlt : k < ws.length
    · have h1 : (k : Int) < (ws.length : Int) := by omega
      have h1k : (k : Int) < 100 := by omega
      obtain ⟨q, eq⟩ : ∃ q, ws.getD k 0 = q := ⟨_, rfl⟩
      have hq := hf3 k hlt
      have hcell : wr.cell? ⟨fb, fo + k, none⟩ = _ := (hB.cell (p := ⟨fb, fo + k, none⟩) (World.block_lt_of_cell? w _ (hf2 k hlt))).trans (hf2 k hlt)
      have hst := wk_step ws k hlt
      rw [eq] at hq hcell hst
      have hwk := fun W => wireKind_any q hq W
      obtain ⟨y, ey⟩ : ∃ y, wkW q = y := ⟨_, rfl⟩
      rw [ey] at hst hwk
      obtain ⟨acc, eacc⟩ : ∃ acc, (ws.take k).map wkW = acc := ⟨_, rfl⟩
      have hkl : acc.length ≤ 12 := by rw [← eacc, List.length_map, List.length_take]; omega
      rw [eacc] at hO hst
      have hsz := hB.size
      have hv : Below wr.heap.size wr (wr.alloc (.cells #[.int .u8 (y.toNat : Int)] 5)) := (Below.refl _ _).alloc (Nat.le_refl _) _
      have hO2 := hO.onB hv
      have hB2 := hB.trans (hv.mono hsz)
      have hy : ∀ j b, [y][j]? = some b → (wr.alloc (.cells #[.int .u8 (y.toNat : Int)] 5)).cell? ⟨wr.heap.size, j, none⟩ = some (.int .u8 (b.toNat : Int)) := by
        intro j b hb
        rcases j with _ | j
        · simp at hb; subst hb
          rw [cell_of_row _ _ _ _ _ _ (heap_alloc_new _ _)]; rfl
        · simp at hb
      have hs2 : w.heap.size ≤ (wr.alloc (.cells #[.int .u8 (y.toNat : Int)] 5)).heap.size := hB2.size
      have HO := Lib.hid hO2; have HB := Lib.hid hB2; have HY := Lib.hid hy; have HWK := Lib.hid hwk; have HST := Lib.hid hst; have HS2 := Lib.hid (And.intro hs2 hkl)
      clear hO hB hO2 hB2 hy hwk hst hs2 hkl hv hsz eacc ey eq hf2 hf3 hws HW hk
      go_wp2_with fail
      refine (HWK.out _).mono ?_
      rintro e w5 ⟨rfl, rfl⟩
      go_wp2_with (at_builtin; refine append_bytes rfl _ _ rfl w.heap.size _ _ [y] wr.heap.size rfl HO.out 1 rfl rfl (by omega) HY.out (by have := HS2.out.2; omega) HS2.out.1 ?_)
      intro g' cap' w6 hO3 hg
      have hB3 := HB.out.grown hg HS2.out.1 (fun i hi => (World.ownsRow.lt HO.out i hi).1)
      have hl : acc.length + 1 = (acc ++ [y]).length := by simp
      rw [← HST.out] at hO3 hl
      have HO3 := Lib.hid hO3; have HB3 := Lib.hid hB3
      clear hO3 hB3 hg HO HB HY HST HS2 hcell
      go_wp2_with fail
      exact ⟨⟨k + 1, by omega, by simp, HO3.out, HB3.out⟩, by simp [intOf]; omega⟩
    · obtain rfl : k = ws.length := by omega
      have hn : ¬ (ws.length : Int) < (ws.length : Int) := by omega
      rw [List.take_length] at hO
      obtain ⟨al, eal⟩ : ∃ al, ws.map wkW = al := ⟨_, rfl⟩
      have hK9 := HK.out
      rw [eal] at hO hK9
      have hal : 5 ≤ al.length := by rw [← eal, List.length_map]; omega
      obtain ⟨g, cap, rfl, -, -⟩ := World.ownsRow.form hO (by omega)
      have htx := hO.text rfl
      rw [show (⟨al.toArray⟩ : ByteArray) = K from hK9] at htx
      have HB := Lib.hid hB
      clear hO hB hf2 hf3 hws HW hk hK9 eal hal
      go_wp2_with fail
      go_ret
      exact ⟨rfl, HB.out⟩
end Go.Proofs.YtollaaooinoafaaDoor