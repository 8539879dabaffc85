/- The reference's numbers, said by their value alone: sixteen digits that lie somewhere and tell x. -/
import Derived.Test.YtccjhlipcgpkmaaDoorRefv
import Derived.Test.YtccjhlipcgpkmaaDoorReft
namespace Go.Proofs.YtccjhlipcgpkmaaDoor
open Go.RowKit

/-- the value is a row of sixteen digits that tells x -/
def Dig (w : World) (v : Value) (x : Int) : Prop := ∃ l : List Int, l.length = 16 ∧ Small l ∧ valD l = x ∧ IntsAt w v l
theorem Dig.below {w w' : World} {v : Value} {x : Int} (h : Dig w v x) (hb : Below w.heap.size w w') : Dig w' v x := by
  obtain ⟨l, h1, h2, h3, h4⟩ := h
  exact ⟨l, h1, h2, h3, h4.below hb (Nat.le_refl _)⟩
def DigPost (x : Int) (w : World) (e : Ending) (w' : World) : Prop := ∃ v, e = .returned v ∧ Dig w' v x ∧ Below w.heap.size w w'
theorem RefPost.dig {x : Int} {w w' : World} {e : Ending} (h : RefPost x w e w') : DigPost x w e w' := by
  obtain ⟨v, out, he, l, s, hx, hI, hb⟩ := h
  exact ⟨v, he, ⟨out, l, s, hx, hI.at (by rw [l]; omega)⟩, hb⟩

theorem digDigits (s : ByteArray) (hs : s.size = 32) (w : World) : Calls Tryd.prog 16 #[.string s] w (DigPost (leNum s) w) := by
  refine (digits_any s hs w).mono ?_
  rintro e w' ⟨v, he, hI, hb⟩
  exact ⟨v, he, ⟨digs s 16, digs_length s 16, digs_small s 16, digs_val s hs, hI.at (by rw [digs_length]; omega)⟩, hb⟩
theorem digLeft {w : World} {v : Value} {x : Int} (h : Dig w v x) : Calls Tryd.prog 15 #[v] w (DigPost (x % Pr) w) := by
  obtain ⟨l, h1, h2, rfl, h4⟩ := h
  refine (left_ref_any v l h1 (fun d hd => by have := h2 d hd; omega) w h4).mono ?_
  rintro e w' ⟨v', out, he, l', s', hx, hI, hb⟩
  exact ⟨v', he, ⟨out, l', s', hx, hI.at (by rw [l']; omega)⟩, hb⟩
theorem digText {w : World} {v : Value} {x : Int} (h : Dig w v x) : Calls Tryd.prog 14 #[v] w fun e w' => e = .returned (.string (leStr x)) ∧ Below w.heap.size w w' := by
  obtain ⟨l, h1, h2, rfl, h4⟩ := h
  exact text_any v l h1 h2 w h4
theorem digAdd {w : World} {a b : Value} {x y : Int} (ha : Dig w a x) (hb : Dig w b y) : Calls Tryd.prog 19 #[a, b] w (DigPost ((x + y) % Pr) w) := by
  obtain ⟨l, h1, h2, rfl, h4⟩ := ha
  obtain ⟨l', h1', h2', rfl, h4'⟩ := hb
  exact (refAdd_any a b l l' h1 h1' h2 h2' w h4 h4').mono fun _ _ h => h.dig
theorem digSub {w : World} {a b : Value} {x y : Int} (ha : Dig w a x) (hb : Dig w b y) (hy : y < Pr) : Calls Tryd.prog 20 #[a, b] w (DigPost ((x - y) % Pr) w) := by
  obtain ⟨l, h1, h2, rfl, h4⟩ := ha
  obtain ⟨l', h1', h2', rfl, h4'⟩ := hb
  exact (refSub_any a b l l' h1 h1' h2 h2' hy w h4 h4').mono fun _ _ h => h.dig
theorem digMul {w : World} {a b : Value} {x y : Int} (ha : Dig w a x) (hb : Dig w b y) : Calls Tryd.prog 21 #[a, b] w (DigPost ((x * y) % Pr) w) := by
  obtain ⟨l, h1, h2, rfl, h4⟩ := ha
  obtain ⟨l', h1', h2', rfl, h4'⟩ := hb
  exact (refMul_any a b l l' h1 h1' h2 h2' w h4 h4').mono fun _ _ h => h.dig
theorem digInv {w : World} {a : Value} {x : Int} (ha : Dig w a x) : Calls Tryd.prog 23 #[a] w (DigPost (x ^ ExpN % Pr) w) := by
  obtain ⟨l, h1, h2, rfl, h4⟩ := ha
  exact (refInv_any a l h1 h2 w h4).mono fun _ _ h => h.dig
theorem pr_lt (x : Int) : x % Pr < Pr := Int.emod_lt_of_pos _ pr_pos
end Go.Proofs.YtccjhlipcgpkmaaDoor
