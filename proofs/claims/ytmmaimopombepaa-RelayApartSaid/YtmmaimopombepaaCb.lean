/- Relays in memory: mails (three cells), boxes (two cells) with their rows of mails. -/
import Derived.Test.YtmmaimopombepaaRows
import Derived.Test.YtmmaimopombepaaCa
import Derived.Test.YtmmaimopombepaaAg
import Derived.Test.YtmmaimopombepaaAc
import Derived.Test.YtmmaimopombepaaKa
import Derived.BigQuiet
import Derived.Lib.QuietBelow
namespace Go.Proofs.Ytmmaimopombepaa
open Go.RowKit
set_option maxRecDepth 100000

def eMl : Enc Ml where
  enc m := [.int .u64 (m.id : Int), .string m.b, .int .u64 (m.born : Int)]
  z := 3
  len _ := rfl
  one m v hv := by
    simp only [List.mem_cons, List.not_mem_nil, or_false] at hv
    rcases hv with rfl | rfl | rfl <;> rfl
  pos := by decide
/-- a box, and where its mails lie -/
structure BxM where
  s : Bx
  a : Option Addr
  c : Nat
deriving DecidableEq
instance : Inhabited BxM := ⟨⟨bx0, none, 0⟩⟩
def bxL (m : BxM) : List Value := [.int .u64 (m.s.user : Int), .slice m.a m.s.ml.length m.c]
theorem bxL_one (m : BxM) : ∀ v ∈ bxL m, v.oneCell' = true := by
  intro v hv
  simp only [bxL, List.mem_cons, List.not_mem_nil, or_false] at hv
  rcases hv with rfl | rfl <;> rfl
def eBx : Enc BxM where
  enc := bxL
  z := 2
  len _ := rfl
  one := bxL_one
  pos := by decide
/-- mails that can be read -/
structure PM (w : World) (a : Option Addr) (c : Nat) (l : List Ml) : Prop where
  at_ : Sl eMl w a l
  cap : l.length ≤ c
  nil : a = none → c = 0 ∧ l = []
theorem PM.on {w w' : World} {a : Option Addr} {c : Nat} {l : List Ml} (h : PM w a c l) (hb : Below w.heap.size w w') : PM w' a c l := ⟨h.at_.on hb, h.cap, h.nil⟩
theorem PM.dr {w : World} {a : Option Addr} {c : Nat} {l : List Ml} (h : PM w a c l) : PM w.drew a c l := h.on (Below.refl _ w).drew
theorem PM.empty (w : World) : PM w none 0 [] := ⟨Sl.nil _ _ _, Nat.le_refl _, fun _ => ⟨rfl, rfl⟩⟩
theorem PM.take {w : World} {a : Option Addr} {c : Nat} {l : List Ml} (h : PM w a c l) (k : Nat) : PM w a c (l.take k) :=
  ⟨h.at_.take k, by rw [List.length_take]; have := h.cap; omega, fun e => by obtain ⟨h1, h2⟩ := h.nil e; exact ⟨h1, by rw [h2]; simp⟩⟩
/-- mails' cells, for a walk -/
theorem PM.get {w : World} {a : Option Addr} {c : Nat} {l : List Ml} (h : PM w a c l) (i : Nat) (hi : i < l.length) : ∃ b off : Nat, a = some ⟨b, off, none⟩ ∧ b < w.heap.size ∧ ∀ j, (hj : j < l.length) → w.cell? ⟨b, off + j * 3, none⟩ = some (.int .u64 (l[j].id : Int)) ∧ w.cell? ⟨b, off + j * 3 + 1, none⟩ = some (.string l[j].b) ∧ w.cell? ⟨b, off + j * 3 + 2, none⟩ = some (.int .u64 (l[j].born : Int)) := by
  obtain ⟨b, off, e, hlt, -⟩ := h.at_ (by omega)
  subst e
  exact ⟨b, off, rfl, hlt, fun j hj => ⟨h.at_.cellE j hj 0 _ rfl, h.at_.cellE j hj 1 _ rfl, h.at_.cellE j hj 2 _ rfl⟩⟩
/-- boxes that can be read -/
structure SB (w : World) (a : Option Addr) (c : Nat) (L : List BxM) : Prop where
  row : Sl eBx w a L
  mls : ∀ m ∈ L, PM w m.a m.c m.s.ml
  cap : L.length ≤ c
  nil : a = none → c = 0 ∧ L = []
theorem SB.on {w w' : World} {a : Option Addr} {c : Nat} {L : List BxM} (h : SB w a c L) (hb : Below w.heap.size w w') : SB w' a c L := ⟨h.row.on hb, fun m hm => (h.mls m hm).on hb, h.cap, h.nil⟩
theorem SB.dr {w : World} {a : Option Addr} {c : Nat} {L : List BxM} (h : SB w a c L) : SB w.drew a c L := h.on (Below.refl _ w).drew
theorem SB.empty (w : World) : SB w none 0 [] := ⟨Sl.nil _ _ _, fun m hm => (by cases hm), Nat.le_refl _, fun _ => ⟨rfl, rfl⟩⟩
theorem SB.take {w : World} {a : Option Addr} {c : Nat} {L : List BxM} (h : SB w a c L) (k : Nat) : SB w a c (L.take k) :=
  ⟨h.row.take k, fun m hm => h.mls m (List.mem_of_mem_take hm), by rw [List.length_take]; have := h.cap; omega, fun e => by obtain ⟨h1, h2⟩ := h.nil e; exact ⟨h1, by rw [h2]; simp⟩⟩
theorem SB.get {w : World} {a : Option Addr} {c : Nat} {L : List BxM} (h : SB w a c L) (i : Nat) (hi : i < L.length) : ∃ b off : Nat, a = some ⟨b, off, none⟩ ∧ b < w.heap.size ∧ ∀ j, (hj : j < L.length) → w.cell? ⟨b, off + j * 2, none⟩ = some (.int .u64 (L[j].s.user : Int)) ∧ w.cell? ⟨b, off + j * 2 + 1, none⟩ = some (.slice L[j].a L[j].s.ml.length L[j].c) := by
  obtain ⟨b, off, e, hlt, -⟩ := h.row (by omega)
  subst e
  exact ⟨b, off, rfl, hlt, fun j hj => ⟨h.row.cellE j hj 0 _ rfl, h.row.cellE j hj 1 _ rfl⟩⟩
/-- the boxes that they are -/
def bxs (L : List BxM) : List Bx := L.map (·.s)
theorem bxs_length (L : List BxM) : (bxs L).length = L.length := by unfold bxs; rw [List.length_map]
theorem bxs_append (K L : List BxM) : bxs (K ++ L) = bxs K ++ bxs L := by unfold bxs; rw [List.map_append]
theorem bxs_get (L : List BxM) (i : Nat) (h : i < L.length) : (bxs L)[i]'(by rw [bxs_length]; exact h) = L[i].s := by unfold bxs; rw [List.getElem_map]
theorem bxs_take (L : List BxM) (k : Nat) : bxs (L.take k) = (bxs L).take k := by unfold bxs; rw [List.map_take]
theorem bxs_mem {L : List BxM} {m : BxM} (h : m ∈ L) : m.s ∈ bxs L := List.mem_map.2 ⟨m, h, rfl⟩
/-- a relay's value -/
def rlV (a : Option Addr) (c : Nat) (L : List BxM) (now next : Nat) : Value := .agg #[.slice a L.length c, .int .u64 (now : Int), .int .u64 (next : Int)]
/-- rows of mails are short -/
def FewB (L : List BxM) : Prop := L.length ≤ 1000 ∧ ∀ m ∈ L, m.s.ml.length ≤ 1000
theorem nat_eqC (m n : Nat) : ((m : Int) == (n : Int)) = decide (m = n) := by
  by_cases h : m = n
  · subst h; simp
  · rw [decide_eq_false h]; simp; omega
theorem bytes_injC {s r : ByteArray} (h : s.data.toList = r.data.toList) : s = r := by
  obtain ⟨⟨a⟩⟩ := s
  obtain ⟨⟨b⟩⟩ := r
  simp only at h
  rw [h]
theorem str_eqC (s t : ByteArray) : (s.toList == t.toList) = decide (s = t) := by
  rw [Lib.toList_data, Lib.toList_data]
  by_cases h : s = t
  · subst h; simp
  · rw [decide_eq_false h, beq_eq_false_iff_ne]
    exact fun e => h (bytes_injC e)
theorem str_runC {P : Program} (s t : ByteArray) (T : TypeId) (W : World) : (binOp .eql T (.string s) (.string t)).run P W = .ok (.bool (decide (s = t))) W := by
  have := str_eqC s t
  simp [go_sem, this]
theorem infoMl : (Try.prog.info? 82).map (fun i => (i.zero, i.size, i.bytes)) = some (some (.agg #[.int .u64 0, .string ⟨#[]⟩, .int .u64 0]), 3, 32) := by kernel_rfl
theorem infoBx : (Try.prog.info? 101).map (fun i => (i.zero, i.size, i.bytes)) = some (some (.agg #[.int .u64 0, .slice none 0 0]), 2, 32) := by kernel_rfl
theorem one_bx (w : World) (m : BxM) (n : Nat) (hn : n = w.heap.size) : Sl eBx (w.alloc (.cells #[.int .u64 (m.s.user : Int), .slice m.a m.s.ml.length m.c] 101)) (some ⟨n, 0, none⟩) [m] := by
  subst hn
  exact Sl.one (E := eBx) (w := w) 101 m
theorem one_ml (w : World) (m : Ml) (n : Nat) (hn : n = w.heap.size) : Sl eMl (w.alloc (.cells #[.int .u64 (m.id : Int), .string m.b, .int .u64 (m.born : Int)] 82)) (some ⟨n, 0, none⟩) [m] := by
  subst hn
  exact Sl.one (E := eMl) (w := w) 82 m
/-- a mail may still wait, as the code reckons it -/
def youngB (now : Nat) (m : Ml) : Bool := decide (IntKind.u64.wrap ((now : Int) - (m.born : Int)) ≤ 50)
theorem young_of {now : Nat} {m : Ml} (h : m.born ≤ now) (hn : now < 18446744073709551616) : youngB now m = decide (now - m.born ≤ 50) := by
  unfold youngB
  have e : IntKind.u64.wrap ((now : Int) - (m.born : Int)) = ((now - m.born : Nat) : Int) := by
    rw [show ((now : Int) - (m.born : Int)) = ((now - m.born : Nat) : Int) by omega]
    show ((now - m.born : Nat) : Int) % 18446744073709551616 = _
    omega
  rw [e]
  by_cases h2 : now - m.born ≤ 50
  · rw [decide_eq_true h2, decide_eq_true (by omega)]
  · rw [decide_eq_false h2, decide_eq_false (by omega)]
theorem isYoung_any (m : Ml) (now : Nat) (w : World) :
    Calls Try.prog 106 #[.agg #[.int .u64 (m.id : Int), .string m.b, .int .u64 (m.born : Int)], .int .u64 (now : Int)] w fun e w' => e = .returned (.bool (youngB now m)) ∧ Below w.heap.size w w' := by
  obtain ⟨r, er⟩ : ∃ r, IntKind.u64.wrap ((now : Int) - (m.born : Int)) = r := ⟨_, rfl⟩
  have e : youngB now m = decide (r ≤ 50) := by unfold youngB; rw [er]
  rw [e]
  go_enter Try.func106, Try.ntmps106
  go_wp2_with fail
  go_ret
  first
    | exact ⟨rfl, (Below.refl _ w).alloc (Nat.le_refl _) _⟩
    | (rw [er]; exact ⟨rfl, (Below.refl _ w).alloc (Nat.le_refl _) _⟩)
end Go.Proofs.Ytmmaimopombepaa
