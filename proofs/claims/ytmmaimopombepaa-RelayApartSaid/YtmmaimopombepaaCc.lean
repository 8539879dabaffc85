/- relay: mailMayBe, hasBytes. -/
import Derived.Test.YtmmaimopombepaaCb
namespace Go.Proofs.Ytmmaimopombepaa
open Go.RowKit
set_option maxRecDepth 100000

set_option maxHeartbeats 2000000 in
theorem mailMayBe_any (a : Option Addr) (n c : Nat) (now next : Nat) (hn : now < 18446744073709551616) (m : Ml) (w : World) :
    Calls Try.prog 99 #[.agg #[.slice a n c, .int .u64 (now : Int), .int .u64 (next : Int)], .agg #[.int .u64 (m.id : Int), .string m.b, .int .u64 (m.born : Int)]] w fun e w' => e = .returned (.bool (decide (okMl now next m))) ∧ Below w.heap.size w w' := by
  have hB : Below w.heap.size w ((w.alloc (.cells #[.slice a n c, .int .u64 (now : Int), .int .u64 (next : Int)] 56)).alloc (.cells #[.int .u64 (m.id : Int), .string m.b, .int .u64 (m.born : Int)] 82)) := ((Below.refl _ w).alloc (Nat.le_refl _) _).alloc (by simp) _
  have HY := Lib.hid (isYoung_any m now ((w.alloc (.cells #[.slice a n c, .int .u64 (now : Int), .int .u64 (next : Int)] 56)).alloc (.cells #[.int .u64 (m.id : Int), .string m.b, .int .u64 (m.born : Int)] 82)))
  have HB := Lib.hid hB
  clear hB
  by_cases c1 : m.b.size ≤ 1400
  · have d1 : (m.b.size : Int) ≤ 1400 := by omega
    by_cases c2 : m.id < next
    · have d2 : (m.id : Int) < (next : Int) := by omega
      by_cases c3 : m.born ≤ now
      · have d3 : (m.born : Int) ≤ (now : Int) := by omega
        have hy := young_of c3 hn
        obtain ⟨r, er⟩ : ∃ r, decide (now - m.born ≤ 50) = r := ⟨_, rfl⟩
        have e : decide (okMl now next m) = r := by
          rw [← er]
          by_cases c4 : now - m.born ≤ 50
          · rw [decide_eq_true c4, decide_eq_true (show okMl now next m from ⟨c1, c2, c3, c4⟩)]
          · rw [decide_eq_false c4, decide_eq_false (show ¬ okMl now next m from fun h => c4 h.2.2.2)]
        rw [hy, er] at HY
        rw [e]
        clear e er hy c1 c2 c3 hn
        go_enter Try.func99, Try.ntmps99
        go_wp2_with (go_at_call 106; refine HY.out.mono ?_; rintro e w2 ⟨rfl, hb2⟩)
        go_ret
        exact ⟨rfl, HB.out.trans (hb2.mono HB.out.size)⟩
      · have d3 : ¬ (m.born : Int) ≤ (now : Int) := by omega
        rw [decide_eq_false (show ¬ okMl now next m from fun h => c3 h.2.2.1)]
        clear c1 c2 c3 hn HY
        go_enter Try.func99, Try.ntmps99
        go_wp2_with fail
        go_ret
        exact ⟨rfl, HB.out⟩
    · have d2 : ¬ (m.id : Int) < (next : Int) := by omega
      rw [decide_eq_false (show ¬ okMl now next m from fun h => c2 h.2.1)]
      clear c1 c2 hn HY
      go_enter Try.func99, Try.ntmps99
      go_wp2_with fail
      go_ret
      exact ⟨rfl, HB.out⟩
  · have d1 : ¬ (m.b.size : Int) ≤ 1400 := by omega
    rw [decide_eq_false (show ¬ okMl now next m from fun h => c1 h.1)]
    clear c1 hn HY
    go_enter Try.func99, Try.ntmps99
    go_wp2_with fail
    go_ret
    exact ⟨rfl, HB.out⟩
/-- have mails these bytes? -/
def hasB (l : List Ml) (s : ByteArray) : Bool := l.any fun m => decide (m.b = s)
theorem hasB_true {l : List Ml} {s : ByteArray} : hasB l s = true ↔ ∃ m ∈ l, m.b = s := by
  unfold hasB
  rw [List.any_eq_true]
  constructor
  · rintro ⟨m, h1, h2⟩; exact ⟨m, h1, of_decide_eq_true h2⟩
  · rintro ⟨m, h1, h2⟩; exact ⟨m, h1, decide_eq_true h2⟩
theorem hasB_false {l : List Ml} {s : ByteArray} : hasB l s = false ↔ ∀ m ∈ l, m.b ≠ s := by
  constructor
  · intro h m hm e
    have := hasB_true.2 ⟨m, hm, e⟩
    rw [h] at this
    cases this
  · intro h
    cases e : hasB l s with
    | false => rfl
    | true =>
      obtain ⟨m, h1, h2⟩ := hasB_true.1 e
      exact absurd h2 (h m h1)
theorem has1_any (m : Ml) (s : ByteArray) (B : Nat) (w : World) (h : w.cell? ⟨B, 0, none⟩ = some (.string s)) :
    Calls Try.prog 94 #[.agg #[.int .u64 (m.id : Int), .string m.b, .int .u64 (m.born : Int)], .pointer (some ⟨B, 0, none⟩)] w fun e w' => e = .returned (.bool (decide (m.b = s))) ∧ Below w.heap.size w w' := by
  have hB : Below w.heap.size w (w.alloc (.cells #[.int .u64 (m.id : Int), .string m.b, .int .u64 (m.born : Int)] 82)) := (Below.refl _ w).alloc (Nat.le_refl _) _
  have h2 := (hB.cell (p := ⟨B, 0, none⟩) (block_lt_of_cell h)).trans h
  have q := str_eqC m.b s
  go_enter Try.func94, Try.ntmps94
  go_wp2_with fail
  go_ret
  exact ⟨rfl, hB⟩
def IxM (w : World) (l : List Ml) (s : ByteArray) (i : Value) (wr : World) : Prop := ∃ (k : Nat) (W : World), W = wr ∧ i = .int .i64 (k : Int) ∧ k ≤ l.length ∧ Below w.heap.size w wr ∧ hasB (l.take k) s = false
set_option maxHeartbeats 2000000 in
theorem indexM_any (a : Option Addr) (c : Nat) (l : List Ml) (hl : l.length ≤ 1000) (s : ByteArray) (B : Nat) (w : World) (h : PM w a c l) (hs : w.cell? ⟨B, 0, none⟩ = some (.string s)) :
    Calls Try.prog 115 #[.slice a l.length c, .func (.func 94) #[] #[.pointer (some ⟨B, 0, none⟩)]] w fun e w' => ∃ z : Int, e = .returned (.int .i64 z) ∧ (0 ≤ z ∧ hasB l s = true ∨ z < 0 ∧ hasB l s = false) ∧ Below w.heap.size w w' := by
  have H := Lib.hid (And.intro h hs)
  have q : (l.length : Int) ≤ 1000 := by omega
  clear h hs
  go_enter Try.func115, Try.ntmps115
  go_wp2_with fail
  go_loopw [8] (IxM w l s) (fun i _ => l.length - (Lib.intOf i).toNat)
  case atStart => exact ⟨0, _, rfl, rfl, Nat.zero_le _, Below.refl _ _, rfl⟩
  case round =>
    obtain ⟨k, wr, rfl, rfl, h1, h2, h3⟩ := hrel
    by_cases hk : k < l.length
    · have hkz : (k : Int) < (l.length : Int) := by omega
      obtain ⟨b, off, rfl, hlt, hall⟩ := (H.out.1.on h2).get k hk
      obtain ⟨c0, c1, c2⟩ := hall k hk
      obtain ⟨m, em⟩ : ∃ m, l[k] = m := ⟨_, rfl⟩
      rw [em] at c0 c1 c2
      have HO := Lib.hid (has1_any m s B wr ((h2.cell (p := ⟨B, 0, none⟩) (block_lt_of_cell H.out.2)).trans H.out.2))
      have Hk := Lib.hid (And.intro h2 (And.intro h3 em))
      have hp1 : l.take (k + 1) = l.take k ++ [m] := by rw [← em]; exact List.take_succ_eq_append_getElem hk
      have HE := Lib.hid hp1
      clear h2 h3 em hp1 hall
      by_cases hm : m.b = s
      · rw [decide_eq_true hm] at HO
        have HM := Lib.hid hm
        clear hm
        go_wp2_with (go_at_call 94; refine HO.out.mono ?_; rintro e w2 ⟨rfl, hb2⟩)
        go_ret
        refine ⟨(k : Int), rfl, Or.inl ⟨by omega, hasB_true.2 ⟨m, by rw [← Hk.out.2.2]; exact List.getElem_mem hk, HM.out⟩⟩, (Hk.out.1).trans (hb2.mono Hk.out.1.size)⟩
      · rw [decide_eq_false hm] at HO
        have HM := Lib.hid hm
        clear hm
        go_wp2_with (go_at_call 94; refine HO.out.mono ?_; rintro e w2 ⟨rfl, hb2⟩)
        refine ⟨⟨k + 1, _, rfl, by go_num, by omega, (Hk.out.1).trans (hb2.mono Hk.out.1.size), ?_⟩, by simp [Lib.intOf]; omega⟩
        rw [HE.out]
        refine hasB_false.2 fun x hx => ?_
        rcases List.mem_append.1 hx with hx | hx
        · exact hasB_false.1 Hk.out.2.1 x hx
        · rw [List.mem_singleton.1 hx]; exact HM.out
    · have hkz : ¬ (k : Int) < (l.length : Int) := by omega
      have hkn : k = l.length := by omega
      go_wp2_with fail
      go_ret
      rw [hkn, List.take_length] at h3
      exact ⟨-1, rfl, Or.inr ⟨by omega, h3⟩, h2⟩
theorem containsM_any (a : Option Addr) (c : Nat) (l : List Ml) (hl : l.length ≤ 1000) (s : ByteArray) (B : Nat) (w : World) (h : PM w a c l) (hs : w.cell? ⟨B, 0, none⟩ = some (.string s)) :
    Calls Try.prog 93 #[.slice a l.length c, .func (.func 94) #[] #[.pointer (some ⟨B, 0, none⟩)]] w fun e w' => e = .returned (.bool (hasB l s)) ∧ Below w.heap.size w w' := by
  have H := Lib.hid (indexM_any a c l hl s B w h hs)
  clear h hs
  go_enter Try.func93, Try.ntmps93
  go_wp2_with (go_at_call 115; refine H.out.mono ?_; rintro e w2 ⟨z, rfl, hz, hb⟩)
  go_ret
  refine ⟨?_, hb⟩
  rcases hz with ⟨h1, h2⟩ | ⟨h1, h2⟩
  · rw [h2, show decide (0 ≤ z) = true from decide_eq_true h1]
    rfl
  · rw [h2, show decide (0 ≤ z) = false from decide_eq_false (by omega)]
    rfl
theorem hasBytes_any (a : Option Addr) (c : Nat) (l : List Ml) (hl : l.length ≤ 1000) (s : ByteArray) (w : World) (h : PM w a c l) :
    Calls Try.prog 69 #[.slice a l.length c, .string s] w fun e w' => e = .returned (.bool (hasB l s)) ∧ Below w.heap.size w w' := by
  have hB : Below w.heap.size w (w.alloc (.cells #[.string s] 9)) := (Below.refl _ w).alloc (Nat.le_refl _) _
  have hc : (w.alloc (.cells #[.string s] 9)).cell? ⟨w.heap.size, 0, none⟩ = some (.string s) := by rw [cell_of_row _ _ _ _ _ _ (heap_alloc_new w _)]; rfl
  have H := Lib.hid (containsM_any a c l hl s w.heap.size _ (h.on hB) hc)
  have HB := Lib.hid hB
  clear h hB hc
  go_enter Try.func69, Try.ntmps69
  go_wp2_with (go_at_call 93; refine H.out.mono ?_; rintro e w2 ⟨rfl, hb⟩)
  go_ret
  exact ⟨rfl, HB.out.trans (hb.mono HB.out.size)⟩
end Go.Proofs.Ytmmaimopombepaa
