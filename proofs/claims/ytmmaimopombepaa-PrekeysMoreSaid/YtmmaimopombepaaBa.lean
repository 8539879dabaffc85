/- prekeys: areOnce. -/
import Derived.Test.YtmmaimopombepaaRows
import Derived.Test.YtmmaimopombepaaAb
import Derived.Test.YtmmaimopombepaaKa
import Derived.BigQuiet
namespace Go.Proofs.Ytmmaimopombepaa
open Go.RowKit
set_option maxRecDepth 100000
/-- points that can be read -/
structure PP (w : World) (a : Option Addr) (c : Nat) (l : List Pn) : Prop where
  at_ : Sl ePn w a l
  cap : l.length ≤ c
  nil : a = none → c = 0 ∧ l = []
theorem PP.on {w w' : World} {a : Option Addr} {c : Nat} {l : List Pn} (h : PP w a c l) (hb : Below w.heap.size w w') : PP w' a c l := ⟨h.at_.on hb, h.cap, h.nil⟩
theorem PtsAt.pp {w : World} {m : ShM} (h : PtsAt w m) : PP w m.a m.c m.s.once := ⟨h.at_, h.cap, h.none⟩
theorem PP.take {w : World} {a : Option Addr} {c : Nat} {l : List Pn} (h : PP w a c l) (k : Nat) : PP w a c (l.take k) :=
  ⟨h.at_.take k, by rw [List.length_take]; have := h.cap; omega, fun e => by obtain ⟨h1, h2⟩ := h.nil e; exact ⟨h1, by rw [h2]; simp⟩⟩
/-- a point's cells, for a walk -/
theorem PP.get {w : World} {a : Option Addr} {c : Nat} {l : List Pn} (h : PP w a c l) (i : Nat) (hi : i < l.length) : ∃ b off : Nat, a = some ⟨b, off, none⟩ ∧ b < w.heap.size ∧ w.cell? ⟨b, off + i * 2, none⟩ = some (.int .u64 (l[i].id : Int)) ∧ w.cell? ⟨b, off + i * 2 + 1, none⟩ = some (.string l[i].pt) := by
  obtain ⟨b, off, e, hlt, -⟩ := h.at_ (by omega)
  subst e
  exact ⟨b, off, rfl, hlt, h.at_.pn i hi⟩
def badP (p : Pn) : Bool := decide (p.id = 0 ∨ p.pt.size ≠ 32)
theorem once1_any (p : Pn) (w : World) :
    Calls Try.prog 92 #[.agg #[.int .u64 (p.id : Int), .string p.pt]] w fun e w' => e = .returned (.bool (badP p)) ∧ Below w.heap.size w w' := by
  obtain ⟨i, s⟩ := p
  have hB : Below w.heap.size w (w.alloc (.cells #[.int .u64 (i : Int), .string s] 25)) := (Below.refl _ w).alloc (Nat.le_refl _) _
  by_cases h0 : i = 0
  · have hz : ((i : Int) == 0) = true := by rw [h0]; rfl
    have hz2 : (i : Int) = 0 := by omega
    have e : badP ⟨i, s⟩ = true := decide_eq_true (Or.inl h0)
    rw [e]
    clear e
    go_enter Try.func92, Try.ntmps92
    go_wp2_with fail
    go_ret
    exact ⟨rfl, (Below.refl _ w).alloc (Nat.le_refl _) _⟩
  · have hz : ((i : Int) == 0) = false := by simp; omega
    have hz2 : ¬ (i : Int) = 0 := by omega
    obtain ⟨b, hb⟩ : ∃ b, ((s.size : Int) != 32) = b := ⟨_, rfl⟩
    have e : badP ⟨i, s⟩ = b := by
      unfold badP
      rw [← hb]
      by_cases h2 : s.size = 32
      · rw [decide_eq_false (by simp only [not_or]; exact ⟨h0, fun h => h h2⟩)]
        simp; omega
      · rw [decide_eq_true (Or.inr h2)]
        symm
        simp; omega
    rw [e]
    clear e
    go_enter Try.func92, Try.ntmps92
    go_wp2_with fail
    go_ret
    exact ⟨rfl, hB⟩
def IxRel (w : World) (l : List Pn) (i : Value) (wr : World) : Prop := ∃ (k : Nat) (W : World), W = wr ∧ i = .int .i64 (k : Int) ∧ k ≤ l.length ∧ Below w.heap.size w wr ∧ okPs (l.take k)
theorem indexF_any (a : Option Addr) (c : Nat) (l : List Pn) (hl : l.length ≤ 1000) (w : World) (h : PP w a c l) :
    Calls Try.prog 114 #[.slice a l.length c, .func (.func 92) #[] #[]] w fun e w' => ∃ z : Int, e = .returned (.int .i64 z) ∧ (0 ≤ z ∧ ¬ okPs l ∨ z < 0 ∧ okPs l) ∧ Below w.heap.size w w' := by
  have H := Lib.hid h
  have q : (l.length : Int) ≤ 1000 := by omega
  clear h
  go_enter Try.func114, Try.ntmps114
  go_wp2_with fail
  go_loopw [8] (IxRel w l) (fun i _ => l.length - (Lib.intOf i).toNat)
  case atStart => exact ⟨0, _, rfl, rfl, Nat.zero_le _, Below.refl _ _, fun p hp => by simp at hp⟩
  case round =>
    obtain ⟨k, wr, rfl, rfl, h1, h2, h3⟩ := hrel
    by_cases hk : k < l.length
    · have hkz : (k : Int) < (l.length : Int) := by omega
      obtain ⟨b, off, rfl, hlt, c0, c1⟩ := (H.out.on h2).get k hk
      obtain ⟨p, ep⟩ : ∃ p, l[k] = p := ⟨_, rfl⟩
      rw [ep] at c0 c1
      have HO := Lib.hid (once1_any p wr)
      have Hk := Lib.hid (And.intro h2 (And.intro h3 ep))
      clear h2 h3 ep
      have hp1 : l.take (k + 1) = l.take k ++ [p] := by rw [← Hk.out.2.2]; exact List.take_succ_eq_append_getElem hk
      obtain ⟨bb, ebb⟩ : ∃ bb, badP p = bb := ⟨_, rfl⟩
      rw [ebb] at HO
      have HE := Lib.hid (And.intro hp1 ebb)
      clear hp1 ebb
      cases bb
      · go_wp2_with (go_at_call 92; refine HO.out.mono ?_; rintro e w2 ⟨rfl, hb2⟩)
        refine ⟨⟨k + 1, _, rfl, by go_num, by omega, (Hk.out.1).trans (hb2.mono Hk.out.1.size), ?_⟩, by simp [Lib.intOf]; omega⟩
        rw [HE.out.1]
        intro x hx
        rcases List.mem_append.1 hx with hx | hx
        · exact Hk.out.2.1 x hx
        · rw [List.mem_singleton.1 hx]
          have := of_decide_eq_false HE.out.2
          simp only [not_or] at this
          exact ⟨this.1, Decidable.not_not.1 this.2⟩
      · go_wp2_with (go_at_call 92; refine HO.out.mono ?_; rintro e w2 ⟨rfl, hb2⟩)
        go_ret
        refine ⟨(k : Int), rfl, Or.inl ⟨by omega, fun hall => ?_⟩, (Hk.out.1).trans (hb2.mono Hk.out.1.size)⟩
        have hm : p ∈ l := by rw [← Hk.out.2.2]; exact List.getElem_mem hk
        have := of_decide_eq_true HE.out.2
        have := hall p hm
        omega
    · have hkz : ¬ (k : Int) < (l.length : Int) := by omega
      have hkn : k = l.length := by omega
      go_wp2_with fail
      go_ret
      rw [hkn, List.take_length] at h3
      exact ⟨-1, rfl, Or.inr ⟨by omega, h3⟩, h2⟩
theorem containsF_any (a : Option Addr) (c : Nat) (l : List Pn) (hl : l.length ≤ 1000) (w : World) (h : PP w a c l) :
    Calls Try.prog 91 #[.slice a l.length c, .func (.func 92) #[] #[]] w fun e w' => e = .returned (.bool (decide (¬ okPs l))) ∧ Below w.heap.size w w' := by
  have H := Lib.hid (indexF_any a c l hl w h)
  clear h
  go_enter Try.func91, Try.ntmps91
  go_wp2_with (go_at_call 114; refine H.out.mono ?_; rintro e w2 ⟨z, rfl, hz, hb⟩)
  go_ret
  refine ⟨?_, hb⟩
  rcases hz with ⟨h1, h2⟩ | ⟨h1, h2⟩
  · rw [show decide (¬ okPs l) = true from decide_eq_true h2, show decide (0 ≤ z) = true from decide_eq_true h1]
    rfl
  · rw [show decide (¬ okPs l) = false from decide_eq_false (fun h => h h2), show decide (0 ≤ z) = false from decide_eq_false (by omega)]
    rfl
theorem areOnce_any (a : Option Addr) (c : Nat) (l : List Pn) (hl : l.length ≤ 1000) (w : World) (h : PP w a c l) :
    Calls Try.prog 67 #[.slice a l.length c] w fun e w' => e = .returned (.bool (decide (okPs l))) ∧ Below w.heap.size w w' := by
  have H := Lib.hid (containsF_any a c l hl w h)
  clear h
  obtain ⟨b, hb⟩ : ∃ b, decide (¬ okPs l) = b := ⟨_, rfl⟩
  rw [hb] at H
  have e : decide (okPs l) = !b := by rw [← hb]; by_cases h : okPs l <;> simp [h]
  rw [e]
  clear e hb
  go_enter Try.func67, Try.ntmps67
  go_wp2_with (go_at_call 91; refine H.out.mono ?_; rintro e w2 ⟨rfl, hb⟩)
  go_ret
  exact ⟨rfl, hb⟩
end Go.Proofs.Ytmmaimopombepaa