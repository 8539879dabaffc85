/- Rows of texts that can be read, whoever laid them; two joined. -/
import Derived.Test.YtolobdeilfgmnaaDoorUm
namespace Go.Proofs.YtolobdeilfgmnaaDoor
open Go.RowKit
set_option maxRecDepth 100000
/-- texts that came in, or that lie in a row of the call's own: how a slice of them reads -/
structure Rd9 (w : World) (a : Option Addr) (c : Nat) (l : List ByteArray) : Prop where
  ss : SSl w a l
  cap : l.length ≤ c
  none : a = none → c = 0 ∧ l = []
theorem Rd9.on {w w' : World} {a : Option Addr} {c : Nat} {l : List ByteArray} (h : Rd9 w a c l) (hb : Below w.heap.size w w') : Rd9 w' a c l := ⟨h.ss.on hb, h.cap, h.none⟩
theorem Rd9.take {w : World} {a : Option Addr} {c : Nat} {l : List ByteArray} (h : Rd9 w a c l) (k : Nat) : Rd9 w a c (l.take k) :=
  ⟨h.ss.take k, by rw [List.length_take]; have := h.cap; omega, fun e => by obtain ⟨h1, h2⟩ := h.none e; exact ⟨h1, by rw [h2]; simp⟩⟩
theorem OwnS.rd {w : World} {base : Nat} {v : Value} {l : List ByteArray} (h : OwnS w base v l) : ∃ a c, v = .slice a l.length c ∧ Rd9 w a c l := by
  rcases h.2 with ⟨e, h0⟩ | ⟨g, cap, cur, e, -, hg, hc, -⟩
  · have h1 : l = [] := List.length_eq_zero_iff.1 h0
    subst h1
    exact ⟨none, 0, e, SSl.nil _ _, Nat.le_refl _, fun _ => ⟨rfl, rfl⟩⟩
  · subst e
    refine ⟨_, _, rfl, fun _ => ?_, hc, fun e => by cases e⟩
    obtain ⟨g', off, cap', e, hlt, hcc⟩ := h.strs rfl
    cases e
    exact ⟨_, _, rfl, hlt, hcc⟩
theorem concat_rd (a b : Option Addr) (c d : Nat) (l m : List ByteArray) (hl : l.length ≤ 100) (hm : m.length ≤ 100) (A : Nat) (w : World) (hlt : A < w.heap.size)
    (h0 : w.cell? ⟨A, 0, none⟩ = some (.slice a l.length c)) (h1 : w.cell? ⟨A, 1, none⟩ = some (.slice b m.length d)) (hp : Rd9 w a c l) (hq : Rd9 w b d m) :
    Calls Tryd.prog 16 #[.slice (some ⟨A, 0, none⟩) 2 2] w fun e w' => ∃ a' c', e = .returned (.slice a' (l ++ m).length c') ∧ Rd9 w' a' c' (l ++ m) ∧ Below w.heap.size w w' := by
  refine (concat_any a b c d l m hl hm hp.none hq.none A w hlt h0 h1 hp.ss hq.ss).mono ?_
  rintro e w' ⟨v, rfl, ho, hb⟩
  obtain ⟨a', c', rfl, hr⟩ := ho.rd
  exact ⟨a', c', rfl, hr, hb⟩
end Go.Proofs.YtolobdeilfgmnaaDoor