/- What a law's statement x, e := f(..) leaves: a sum on its way in a block of its own. -/
import Derived.Test.YtolobdeilfgmnaaDoorDeval
import Derived.Test.YtolobdeilfgmnaaDoorKa
import Derived.ChangeAlike
import Derived.RegionTactic
namespace Go.Proofs.YtolobdeilfgmnaaDoor
open Go.RowKit
/-- parts do not matter -/
theorem mix_parts (n : Nat) : ∀ (s : S8) (p q : List UInt8), p.length ≤ n → mixAll s (p ++ q) = mixAll (mixAll s p) (restOf p ++ q) ∧ restOf (p ++ q) = restOf (restOf p ++ q) := by
  induction n using Nat.strongRecOn with
  | _ n ih =>
    intro s p q hn
    by_cases h : p.length < 64
    · rw [mixAll_end s p h, restOf_end p h]; exact ⟨rfl, rfl⟩
    · have h64 : 64 ≤ p.length := by omega
      have h1 : (p ++ q).take 64 = p.take 64 := List.take_append_of_le_length h64
      have h2 : (p ++ q).drop 64 = p.drop 64 ++ q := List.drop_append_of_le_length h64
      have hl : 64 ≤ (p ++ q).length := by rw [List.length_append]; omega
      obtain ⟨i1, i2⟩ := ih (n - 64) (by omega) (mixS s (p.take 64)) (p.drop 64) q (by rw [List.length_drop]; omega)
      rw [mixAll_step s (p ++ q) hl, restOf_step (p ++ q) hl, h1, h2, mixAll_step s p h64, restOf_step p h64]
      exact ⟨i1, i2⟩
theorem mix_app (s : S8) (p q : List UInt8) : mixAll (mixAll s p) (restOf p ++ q) = mixAll s (p ++ q) := (mix_parts _ s p q (Nat.le_refl _)).1.symm
theorem rest_app (p q : List UInt8) : restOf (restOf p ++ q) = restOf (p ++ q) := (mix_parts _ firstS p q (Nat.le_refl _)).2.symm

/-- a sum on its way in block B -/
structure HashAt (w : World) (B D : Nat) (u : S8) (x : ByteArray) (q : Nat) : Prop where
  c0 : w.cell? ⟨B, 0, none⟩ = some (.slice (some ⟨D, 0, none⟩) 8 8)
  c1 : w.cell? ⟨B, 1, none⟩ = some (.string x)
  c2 : w.cell? ⟨B, 2, none⟩ = some (.int .u64 (q : Int))
  blk : BlkW w D 98 u.l
theorem HashAt.lt {w : World} {B D : Nat} {u : S8} {x : ByteArray} {q : Nat} (h : HashAt w B D u x q) : B < w.heap.size := World.block_lt_of_cell? w _ h.c0
theorem HashAt.on {w w' : World} {B D : Nat} {u : S8} {x : ByteArray} {q : Nat} (h : HashAt w B D u x q) (hb : Below w.heap.size w w') : HashAt w' B D u x q :=
  ⟨by rw [hb.cell (p := ⟨B, 0, none⟩) h.lt]; exact h.c0, by rw [hb.cell (p := ⟨B, 1, none⟩) h.lt]; exact h.c1, by rw [hb.cell (p := ⟨B, 2, none⟩) h.lt]; exact h.c2, h.blk.on hb⟩
/-- laid at once -/
theorem HashAt.laid {w : World} {D : Nat} {u : S8} (hD : BlkW w D 98 u.l) (x : ByteArray) (q : Nat) : HashAt (w.alloc (.cells #[.slice (some ⟨D, 0, none⟩) 8 8, .string x, .int .u64 (q : Int)] 72)) w.heap.size D u x q :=
  ⟨by simp, by simp, by simp, hD.alloc _⟩

/-- a block of zeros that the region has made: kept over a call -/
structure Zh (w : World) (B : Nat) : Prop where
  blk : w.heap[B]? = some (.cells #[.slice none 0 0, .string ⟨#[]⟩, .int .u64 0] 72)
theorem Zh.first {w w' : World} {o : Obj} (hb : Below (w.alloc o).heap.size (w.alloc o) w') (ho : o = .cells #[.slice none 0 0, .string ⟨#[]⟩, .int .u64 0] 72) : Zh w' w.heap.size := by
  subst ho
  exact ⟨by rw [hb.block _ (by simp)]; exact heap_alloc_new _ _⟩
theorem Zh.firstd {w w' : World} {o : Obj} (hb : Below (w.alloc o).drew.heap.size (w.alloc o).drew w') (ho : o = .cells #[.slice none 0 0, .string ⟨#[]⟩, .int .u64 0] 72) : Zh w' w.heap.size := by
  subst ho
  refine ⟨?_⟩
  rw [hb.block w.heap.size (by show w.heap.size < (w.alloc _).heap.size; simp)]
  exact heap_alloc_new _ _
theorem Zh.on {w w' : World} {B : Nat} (h : Zh w B) (hb : Below w.heap.size w w') : Zh w' B := ⟨by rw [hb.block _ (Array.getElem?_eq_some_iff.1 h.blk).1]; exact h.blk⟩
theorem Zh.open {w : World} {B : Nat} (h : Zh w B) : (w.cell? ⟨B, 0, none⟩ = some (.slice none 0 0) ∧ w.cell? ⟨B, 1, none⟩ = some (.string ⟨#[]⟩) ∧ w.cell? ⟨B, 2, none⟩ = some (.int .u64 0)) ∧
    (w.frozen? ⟨B, 0, none⟩ = false ∧ w.frozen? ⟨B, 1, none⟩ = false ∧ w.frozen? ⟨B, 2, none⟩ = false) ∧ B < w.heap.size :=
  ⟨⟨by rw [cell_of_row _ _ _ _ _ _ h.blk]; rfl, by rw [cell_of_row _ _ _ _ _ _ h.blk]; rfl, by rw [cell_of_row _ _ _ _ _ _ h.blk]; rfl⟩,
   ⟨frozen_of_row _ _ _ _ _ h.blk, frozen_of_row _ _ _ _ _ h.blk, frozen_of_row _ _ _ _ _ h.blk⟩, (Array.getElem?_eq_some_iff.1 h.blk).1⟩
/-- stored into it -/
theorem Zh.put {w : World} {B D : Nat} {u : S8} (z : Zh w B) (hD : BlkW w D 98 u.l) (x : ByteArray) (q : Nat) :
    HashAt (((w.setCell ⟨B, 0, none⟩ (.slice (some ⟨D, 0, none⟩) 8 8)).setCell ⟨B, 1, none⟩ (.string x)).setCell ⟨B, 2, none⟩ (.int .u64 (q : Int))) B D u x q := by
  obtain ⟨⟨d0, d1, d2⟩, -, -⟩ := z.open
  have hne : D ≠ B := by
    rintro rfl
    have h8 := hD
    unfold BlkW at h8
    rw [z.blk] at h8
    have := congrArg (fun o => match o with | some (Obj.cells cs _ _) => cs.size | _ => 0) h8
    simp [Wd, S8.l] at this
  exact ⟨setCell_far (setCell_far (World.cell?_setCell_same _ ⟨B, 0, none⟩ _ d0) (by omega)) (by omega), setCell_far (World.cell?_setCell_same _ ⟨B, 1, none⟩ _ (setCell_far d1 (by omega))) (by omega),
    World.cell?_setCell_same _ ⟨B, 2, none⟩ _ (setCell_far (setCell_far d2 (by omega)) (by omega)), ((hD.far ⟨B, 0, none⟩ hne _).far ⟨B, 1, none⟩ hne _).far ⟨B, 2, none⟩ hne _⟩

/-- where a text is parted -/
theorem part_ex (n : Nat) (hn : n ≤ 300) (i : Int) (hi : -9223372036854775808 ≤ i ∧ i ≤ 9223372036854775807) : ∃ (t : Int) (k : Nat), i.tmod ((n : Int) + 1) = t ∧ -(n : Int) ≤ t ∧ t ≤ n ∧ (t + (n : Int) + 1) % ((n : Int) + 1) = (k : Int) ∧ k ≤ n := by
  have h1 : -(n : Int) ≤ i.tmod ((n : Int) + 1) ∧ i.tmod ((n : Int) + 1) ≤ n := by
    by_cases h : 0 ≤ i
    · rw [Int.tmod_eq_emod_of_nonneg h]
      have := Int.emod_nonneg i (show ((n : Int) + 1) ≠ 0 by omega)
      have := Int.emod_lt_of_pos i (show 0 < ((n : Int) + 1) by omega)
      omega
    · have e : i.tmod ((n : Int) + 1) = -((-i) % ((n : Int) + 1)) := by
        rw [← Int.tmod_eq_emod_of_nonneg (show 0 ≤ -i by omega), Int.neg_tmod]; omega
      rw [e]
      have := Int.emod_nonneg (-i) (show ((n : Int) + 1) ≠ 0 by omega)
      have := Int.emod_lt_of_pos (-i) (show 0 < ((n : Int) + 1) by omega)
      omega
  have h2 := Int.emod_nonneg (i.tmod ((n : Int) + 1) + (n : Int) + 1) (show ((n : Int) + 1) ≠ 0 by omega)
  have h3 := Int.emod_lt_of_pos (i.tmod ((n : Int) + 1) + (n : Int) + 1) (show 0 < ((n : Int) + 1) by omega)
  exact ⟨_, ((i.tmod ((n : Int) + 1) + (n : Int) + 1) % ((n : Int) + 1)).toNat, rfl, h1.1, h1.2, by omega, by omega⟩
end Go.Proofs.YtolobdeilfgmnaaDoor