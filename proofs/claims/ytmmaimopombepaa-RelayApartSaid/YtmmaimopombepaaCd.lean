/- relay: filters and chains of them. -/
import Derived.Test.YtmmaimopombepaaCc
namespace Go.Proofs.Ytmmaimopombepaa
open Go.RowKit
set_option maxRecDepth 100000

/-- a filter: its function, what it holds, and by what a mail stays -/
structure Flt where
  N : Nat
  B : Nat
  p : Nat → Ml → Bool
def flV (x : Flt) : Value := .func (.func x.N) #[] #[.pointer (some ⟨x.B, 0, none⟩)]
def eFl : Enc Flt where
  enc x := [flV x]
  z := 1
  len _ := rfl
  one x v hv := by
    rw [List.mem_singleton] at hv
    subst hv
    rfl
  pos := by decide
/-- it tells so in whatever world comes -/
def IsF (w : World) (x : Flt) : Prop :=
  (∀ (a b c : Value) (W : World), (callFunc x.N #[a, b, c]).run Try.prog W = .ok (.enter x.N #[a, b, c]) W) ∧
  ∀ W, Below w.heap.size w W → ∀ (u : Nat) (m : Ml), Calls Try.prog x.N #[.int .u64 (u : Int), .agg #[.int .u64 (m.id : Int), .string m.b, .int .u64 (m.born : Int)], .pointer (some ⟨x.B, 0, none⟩)] W fun e w' => e = .returned (.bool (x.p u m)) ∧ Below W.heap.size W w'
theorem IsF.on {w w' : World} {x : Flt} (h : IsF w x) (hb : Below w.heap.size w w') : IsF w' x := ⟨h.1, fun W hW => h.2 W (hb.trans (hW.mono hb.size))⟩
/-- a chain of filters -/
structure FS (w : World) (a : Option Addr) (c : Nat) (L : List Flt) : Prop where
  row : Sl eFl w a L
  ok : ∀ x ∈ L, IsF w x
  cap : L.length ≤ c
  short : L.length ≤ 1000
theorem FS.on {w w' : World} {a : Option Addr} {c : Nat} {L : List Flt} (h : FS w a c L) (hb : Below w.heap.size w w') : FS w' a c L := ⟨h.row.on hb, fun x hx => (h.ok x hx).on hb, h.cap, h.short⟩
theorem FS.get {w : World} {a : Option Addr} {c : Nat} {L : List Flt} (h : FS w a c L) (i : Nat) (hi : i < L.length) : ∃ b off : Nat, a = some ⟨b, off, none⟩ ∧ b < w.heap.size ∧ w.cell? ⟨b, off + i, none⟩ = some (flV L[i]) := by
  obtain ⟨b, off, e, hlt, -⟩ := h.row (by omega)
  subst e
  refine ⟨b, off, rfl, hlt, ?_⟩
  have := h.row.cellE i hi 0 _ rfl
  rw [show off + i * eFl.z + 0 = off + i by show off + i * 1 + 0 = off + i; omega] at this
  exact this
/-- all of them -/
def allP (L : List Flt) (u : Nat) (m : Ml) : Bool := L.all fun x => x.p u m
theorem allP_step (L : List Flt) (u : Nat) (m : Ml) (i : Nat) (h : i < L.length) : allP (L.take (i + 1)) u m = (allP (L.take i) u m && L[i].p u m) := by
  unfold allP
  rw [List.take_succ_eq_append_getElem h, List.all_append, List.all_cons, List.all_nil, Bool.and_true]
theorem allP_not {L : List Flt} {u : Nat} {m : Ml} {i : Nat} (h : i < L.length) (hf : L[i].p u m = false) : allP L u m = false := by
  cases e : allP L u m with
  | false => rfl
  | true =>
    have := List.all_eq_true.1 e _ (List.getElem_mem h)
    rw [hf] at this
    cases this
def mlV (m : Ml) : Value := .agg #[.int .u64 (m.id : Int), .string m.b, .int .u64 (m.born : Int)]
/-- what a chain's closure holds: a user's number, and a mail -/
structure Held2 (w : World) (B1 B2 u : Nat) (m : Ml) : Prop where
  c : w.cell? ⟨B1, 0, none⟩ = some (.int .u64 (u : Int))
  d0 : w.cell? ⟨B2, 0, none⟩ = some (.int .u64 (m.id : Int))
  d1 : w.cell? ⟨B2, 1, none⟩ = some (.string m.b)
  d2 : w.cell? ⟨B2, 2, none⟩ = some (.int .u64 (m.born : Int))
theorem Held2.on {w w' : World} {B1 B2 u : Nat} {m : Ml} (h : Held2 w B1 B2 u m) (hb : Below w.heap.size w w') : Held2 w' B1 B2 u m :=
  ⟨(hb.cell (p := ⟨B1, 0, none⟩) (block_lt_of_cell h.c)).trans h.c, (hb.cell (p := ⟨B2, 0, none⟩) (block_lt_of_cell h.d0)).trans h.d0, (hb.cell (p := ⟨B2, 1, none⟩) (block_lt_of_cell h.d1)).trans h.d1, (hb.cell (p := ⟨B2, 2, none⟩) (block_lt_of_cell h.d2)).trans h.d2⟩
theorem all11_any (x : Flt) (B1 B2 u : Nat) (m : Ml) (w : World) (hx : IsF w x) (h : Held2 w B1 B2 u m) :
    Calls Try.prog 118 #[.func (.func x.N) #[] #[.pointer (some ⟨x.B, 0, none⟩)], .pointer (some ⟨B1, 0, none⟩), .pointer (some ⟨B2, 0, none⟩)] w fun e w' => e = .returned (.bool (!x.p u m)) ∧ Below w.heap.size w w' := by
  have hcf := hx.1
  have HC := Lib.hid (hx.2 w (Below.refl _ _) u m)
  obtain ⟨r, er⟩ : ∃ r, x.p u m = r := ⟨_, rfl⟩
  rw [er] at HC ⊢
  obtain ⟨c0, d0, d1, d2⟩ := h
  clear hx er
  go_enter Try.func118, Try.ntmps118
  go_wp2_with fail
  refine HC.out.mono ?_
  rintro e w2 ⟨rfl, hb⟩
  go_wp2_with fail
  go_ret
  exact ⟨rfl, hb⟩
def IxF (w : World) (L : List Flt) (u : Nat) (m : Ml) (i : Value) (wr : World) : Prop := ∃ (k : Nat) (W : World), W = wr ∧ i = .int .i64 (k : Int) ∧ k ≤ L.length ∧ Below w.heap.size w wr ∧ allP (L.take k) u m = true
set_option maxHeartbeats 2000000 in
theorem indexFl_any (a : Option Addr) (c : Nat) (L : List Flt) (B1 B2 u : Nat) (m : Ml) (w : World) (h : FS w a c L) (hd : Held2 w B1 B2 u m) :
    Calls Try.prog 132 #[.slice a L.length c, .func (.func 118) #[] #[.pointer (some ⟨B1, 0, none⟩), .pointer (some ⟨B2, 0, none⟩)]] w fun e w' => ∃ z : Int, e = .returned (.int .i64 z) ∧ (0 ≤ z ∧ allP L u m = false ∨ z < 0 ∧ allP L u m = true) ∧ Below w.heap.size w w' := by
  have H := Lib.hid (And.intro h hd)
  have q : (L.length : Int) ≤ 1000 := by have := h.short; omega
  clear h hd
  go_enter Try.func132, Try.ntmps132
  go_wp2_with fail
  go_loopw [8] (IxF w L u m) (fun i _ => L.length - (Lib.intOf i).toNat)
  case atStart => exact ⟨0, _, rfl, rfl, Nat.zero_le _, Below.refl _ _, rfl⟩
  case round =>
    obtain ⟨k, wr, rfl, rfl, h1, h2, h3⟩ := hrel
    by_cases hk : k < L.length
    · have hkz : (k : Int) < (L.length : Int) := by omega
      obtain ⟨b, off, rfl, hlt, c0⟩ := (H.out.1.on h2).get k hk
      have hst := allP_step L u m k hk
      have hxf := (H.out.1.on h2).ok _ (List.getElem_mem hk)
      have hno := fun hf => allP_not (L := L) (u := u) (m := m) hk hf
      obtain ⟨x, ex⟩ : ∃ x, L[k] = x := ⟨_, rfl⟩
      rw [ex] at c0 hst hxf hno
      have HO := Lib.hid (all11_any x B1 B2 u m wr hxf (H.out.2.on h2))
      have Hk := Lib.hid (And.intro h2 (And.intro h3 (And.intro hst hno)))
      obtain ⟨r, er⟩ : ∃ r, x.p u m = r := ⟨_, rfl⟩
      rw [er] at HO
      have HE := Lib.hid er
      unfold flV at c0
      clear h2 h3 ex hst hxf hno er
      cases r
      · go_wp2_with (go_at_call 118; refine HO.out.mono ?_; rintro e w2 ⟨rfl, hb2⟩)
        go_ret
        exact ⟨(k : Int), rfl, Or.inl ⟨by omega, Hk.out.2.2.2 HE.out⟩, (Hk.out.1).trans (hb2.mono Hk.out.1.size)⟩
      · go_wp2_with (go_at_call 118; refine HO.out.mono ?_; rintro e w2 ⟨rfl, hb2⟩)
        refine ⟨⟨k + 1, _, rfl, by go_num, by omega, (Hk.out.1).trans (hb2.mono Hk.out.1.size), ?_⟩, by simp [Lib.intOf]; omega⟩
        rw [Hk.out.2.2.1, Hk.out.2.1, HE.out]
        rfl
    · have hkz : ¬ (k : Int) < (L.length : Int) := by omega
      have hkn : k = L.length := by omega
      go_wp2_with fail
      go_ret
      rw [hkn, List.take_length] at h3
      exact ⟨-1, rfl, Or.inr ⟨by omega, h3⟩, h2⟩
theorem containsFl_any (a : Option Addr) (c : Nat) (L : List Flt) (B1 B2 u : Nat) (m : Ml) (w : World) (h : FS w a c L) (hd : Held2 w B1 B2 u m) :
    Calls Try.prog 117 #[.slice a L.length c, .func (.func 118) #[] #[.pointer (some ⟨B1, 0, none⟩), .pointer (some ⟨B2, 0, none⟩)]] w fun e w' => e = .returned (.bool (!allP L u m)) ∧ Below w.heap.size w w' := by
  have H := Lib.hid (indexFl_any a c L B1 B2 u m w h hd)
  clear h hd
  go_enter Try.func117, Try.ntmps117
  go_wp2_with (go_at_call 132; refine H.out.mono ?_; rintro e w2 ⟨z, rfl, hz, hb⟩)
  go_ret
  refine ⟨?_, hb⟩
  rcases hz with ⟨h1, h2⟩ | ⟨h1, h2⟩
  · rw [h2, show decide (0 ≤ z) = true from decide_eq_true h1]
    rfl
  · rw [h2, show decide (0 ≤ z) = false from decide_eq_false (by omega)]
    rfl
set_option maxHeartbeats 2000000 in
theorem all1_any (a : Option Addr) (c : Nat) (L : List Flt) (B u : Nat) (m : Ml) (w : World) (h : FS w a c L) (hB : w.cell? ⟨B, 0, none⟩ = some (.slice a L.length c)) :
    Calls Try.prog 116 #[.int .u64 (u : Int), .agg #[.int .u64 (m.id : Int), .string m.b, .int .u64 (m.born : Int)], .pointer (some ⟨B, 0, none⟩)] w fun e w' => e = .returned (.bool (allP L u m)) ∧ Below w.heap.size w w' := by
  obtain ⟨W0, eW0⟩ : ∃ W0, (w.alloc (.cells #[.int .u64 (u : Int)] 23)).alloc (.cells #[.int .u64 (m.id : Int), .string m.b, .int .u64 (m.born : Int)] 82) = W0 := ⟨_, rfl⟩
  have b0 : Below w.heap.size w W0 := by rw [← eW0]; exact ((Below.refl _ w).alloc (Nat.le_refl _) _).alloc (by simp) _
  obtain ⟨R, eR⟩ : ∃ R, w.heap.size = R := ⟨_, rfl⟩
  have k1 : BlkV W0 R 23 [.int .u64 (u : Int)] := by rw [← eW0, ← eR]; exact (BlkV.fresh w _ _ _ rfl _ rfl).alloc _
  have k2 : BlkV W0 (R + 1) 82 [.int .u64 (m.id : Int), .string m.b, .int .u64 (m.born : Int)] := by rw [← eW0, ← eR]; exact BlkV.fresh _ _ _ _ rfl _ (by simp)
  have c0 := (b0.cell (p := ⟨B, 0, none⟩) (block_lt_of_cell hB)).trans hB
  have HC := Lib.hid (containsFl_any a c L R (R + 1) u m W0 (h.on b0) ⟨k1.cell 0 _ rfl, k2.cell 0 _ rfl, k2.cell 1 _ rfl, k2.cell 2 _ rfl⟩)
  obtain ⟨r, er⟩ : ∃ r, allP L u m = r := ⟨_, rfl⟩
  rw [er] at HC ⊢
  have HB := Lib.hid b0
  clear h hB b0 k1 k2 er
  go_enter Try.func116, Try.ntmps116
  go_upto_region 1 with fail
  clear eW0
  go_wp2_with (go_at_call 117; refine HC.out.mono ?_; rintro e w2 ⟨rfl, hb⟩)
  go_ret
  exact ⟨by simp, HB.out.trans (hb.mono HB.out.size)⟩
theorem cf_all1 (a b c : Value) (W : World) : (callFunc 116 #[a, b, c]).run Try.prog W = .ok (.enter 116 #[a, b, c]) W := by kernel_rfl
theorem cf_but1 (a b c : Value) (W : World) : (callFunc 104 #[a, b, c]).run Try.prog W = .ok (.enter 104 #[a, b, c]) W := by kernel_rfl
theorem cf_of1 (a b c : Value) (W : World) : (callFunc 102 #[a, b, c]).run Try.prog W = .ok (.enter 102 #[a, b, c]) W := by kernel_rfl
theorem cf_below1 (a b c : Value) (W : World) : (callFunc 97 #[a, b, c]).run Try.prog W = .ok (.enter 97 #[a, b, c]) W := by kernel_rfl
theorem cf_above1 (a b c : Value) (W : World) : (callFunc 98 #[a, b, c]).run Try.prog W = .ok (.enter 98 #[a, b, c]) W := by kernel_rfl
theorem cf_num1 (a b c : Value) (W : World) : (callFunc 103 #[a, b, c]).run Try.prog W = .ok (.enter 103 #[a, b, c]) W := by kernel_rfl
theorem cf_young1 (a b c : Value) (W : World) : (callFunc 105 #[a, b, c]).run Try.prog W = .ok (.enter 105 #[a, b, c]) W := by kernel_rfl
theorem all_any (a : Option Addr) (c : Nat) (L : List Flt) (w : World) (h : FS w a c L) :
    Calls Try.prog 96 #[.slice a L.length c] w fun e w' => ∃ B : Nat, e = .returned (.func (.func 116) #[] #[.pointer (some ⟨B, 0, none⟩)]) ∧ IsF w' ⟨116, B, allP L⟩ ∧ Below w.heap.size w w' := by
  have hB : Below w.heap.size w (w.alloc (.cells #[.slice a L.length c] 128)) := (Below.refl _ w).alloc (Nat.le_refl _) _
  have hc : (w.alloc (.cells #[.slice a L.length c] 128)).cell? ⟨w.heap.size, 0, none⟩ = some (.slice a L.length c) := by rw [cell_of_row _ _ _ _ _ _ (heap_alloc_new w _)]; rfl
  have HZ := Lib.hid (And.intro (h.on hB) (And.intro hc hB))
  clear h hc hB
  go_enter Try.func96, Try.ntmps96
  go_wp2_with fail
  go_ret
  refine ⟨w.heap.size, rfl, ⟨cf_all1, fun W hW u m => all1_any a c L w.heap.size u m W (HZ.out.1.on hW) ?_⟩, HZ.out.2.2⟩
  exact (hW.cell (p := ⟨w.heap.size, 0, none⟩) (block_lt_of_cell HZ.out.2.1)).trans HZ.out.2.1
end Go.Proofs.Ytmmaimopombepaa
