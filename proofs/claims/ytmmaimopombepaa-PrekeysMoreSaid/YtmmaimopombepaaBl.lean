/- A row of the call's own with one struct turned in its place. -/
import Derived.Test.YtmmaimopombepaaBk
namespace Go.Proofs.Ytmmaimopombepaa
open Go.RowKit
set_option maxRecDepth 100000
theorem OwnE.block {T : Type} {E : Enc T} {t : TypeId} {w : World} {base g n c : Nat} {l : List T} (h : OwnE E t w base (.slice (some ⟨g, 0, none⟩) n c) l) : ∃ cur, w.heap[g]? = some (.cells cur t (0, 0)) ∧ base ≤ g ∧ l.length ≤ c ∧ c ≤ maxLen ∧ cur.size = c * E.z ∧ cur.toList.take (l.length * E.z) = E.row l ∧ n = l.length := by
  rcases h.2 with ⟨e, -⟩ | ⟨g2, cap, cur, e, hg, hc, h1, h2, h3, h4⟩
  · cases e
  · injection e with e1 e2 e3
    injection e1 with e1
    injection e1 with e1
    subst e1
    subst e3
    exact ⟨cur, hc, hg, h1, h2, h3, h4, e2⟩
theorem OwnE.turn {T : Type} {E : Enc T} {t : TypeId} {w w' : World} {base g c : Nat} {l : List T} (h : OwnE E t w base (.slice (some ⟨g, 0, none⟩) l.length c) l) (i : Nat) (_hi : i < l.length) (x : T) (cur' : Array Value)
    (hc' : w'.heap[g]? = some (.cells cur' t (0, 0))) (hp : ∀ cur, w.heap[g]? = some (.cells cur t (0, 0)) → cur'.size = cur.size ∧ ∀ k, k < l.length * E.z → cur'[k]? = if k / E.z = i then (E.enc x)[k % E.z]? else cur[k]?) :
    OwnE E t w' base (.slice (some ⟨g, 0, none⟩) l.length c) (l.set i x) := by
  obtain ⟨cur, hc, hg, h1, h2, h3, h4, -⟩ := h.block
  obtain ⟨hs, hk⟩ := hp cur hc
  have hl : (l.set i x).length = l.length := List.length_set
  have hle : l.length * E.z ≤ c * E.z := Nat.mul_le_mul_right _ h1
  refine ⟨by rw [hl, E.row_length, hl], Or.inr ⟨g, c, cur', by rw [hl], hg, hc', by rw [hl]; exact h1, h2, by rw [hs]; exact h3, ?_⟩⟩
  rw [hl]
  have hz := E.pos
  apply List.ext_getElem?
  intro k
  by_cases hkl : k < l.length * E.z
  · have hq : k / E.z < l.length := Nat.div_lt_of_lt_mul (by rw [Nat.mul_comm]; exact hkl)
    have hd : k / E.z * E.z + k % E.z = k := by rw [Nat.mul_comm]; exact Nat.div_add_mod k E.z
    have hm : k % E.z < E.z := Nat.mod_lt _ hz
    have hg2 := E.row_get (l.set i x) (k / E.z) (by rw [hl]; exact hq) (k % E.z) hm
    have hg3 := E.row_get l (k / E.z) hq (k % E.z) hm
    rw [hd] at hg2 hg3
    rw [List.getElem?_take, if_pos hkl, Array.getElem?_toList, hk k hkl, hg2]
    by_cases e : k / E.z = i
    · rw [if_pos e]
      have : (l.set i x)[k / E.z]'(by rw [hl]; exact hq) = x := by rw [List.getElem_set, if_pos e.symm]
      rw [this]
    · rw [if_neg e]
      have e2 : (l.set i x)[k / E.z]'(by rw [hl]; exact hq) = l[k / E.z] := by rw [List.getElem_set, if_neg (fun h => e h.symm)]
      rw [e2, ← hg3, ← h4, List.getElem?_take, if_pos hkl, Array.getElem?_toList]
  · rw [List.getElem?_eq_none (Nat.le_trans (List.length_take_le _ _) (Nat.le_of_not_lt hkl)), List.getElem?_eq_none (by rw [E.row_length, hl]; exact Nat.le_of_not_lt hkl)]
/-- some cells of a block stored -/
theorem setCells_block (g : Nat) (t : TypeId) : ∀ (vs : List Value) (o : Nat) (w : World) (cur : Array Value), w.heap[g]? = some (.cells cur t (0, 0)) → o + vs.length ≤ cur.size →
    ∃ cur', (w.setCells g o vs).heap[g]? = some (.cells cur' t (0, 0)) ∧ cur'.size = cur.size ∧ ∀ k, cur'[k]? = if o ≤ k ∧ k < o + vs.length then vs[k - o]? else cur[k]?
  | [], o, w, cur, h, hs => ⟨cur, h, rfl, fun k => by rw [if_neg (by simp only [List.length_nil]; omega)]⟩
  | v :: vs, o, w, cur, h, hs => by
    have h1 := heap_setCell_same w g o cur t v h
    rw [List.length_cons] at hs
    obtain ⟨cur', e1, e2, e3⟩ := setCells_block g t vs (o + 1) (w.setCell ⟨g, o, none⟩ v) (cur.setIfInBounds o v) h1 (by rw [Array.size_setIfInBounds]; omega)
    refine ⟨cur', e1, by rw [e2, Array.size_setIfInBounds], fun k => ?_⟩
    rw [e3 k, Array.getElem?_setIfInBounds]
    rw [List.length_cons]
    by_cases ha : o + 1 ≤ k ∧ k < o + 1 + vs.length
    · rw [if_pos ha, if_pos (by omega)]
      obtain ⟨j, rfl⟩ : ∃ j, k = o + 1 + j := ⟨k - (o + 1), by omega⟩
      rw [show o + 1 + j - (o + 1) = j by omega, show o + 1 + j - o = j + 1 by omega]
      rfl
    · rw [if_neg ha]
      by_cases hb : o = k
      · subst hb
        rw [if_pos rfl, if_pos (by omega), if_pos (by omega), Nat.sub_self]
        rfl
      · rw [if_neg hb, if_neg (by omega)]
/-- one shelf put whole in its place -/
theorem OwnE.putSh {w : World} {base g c : Nat} {K : List ShM} (h : OwnE eSh 28 w base (.slice (some ⟨g, 0, none⟩) K.length c) K) (i : Nat) (hi : i < K.length) (m : ShM) :
    OwnE eSh 28 (w.setCells g (i * 5) (shL m)) base (.slice (some ⟨g, 0, none⟩) K.length c) (K.set i m) := by
  obtain ⟨cur, hc, hg, h1, h2, h3, h4, -⟩ := h.block
  have hz : eSh.z = 5 := rfl
  have hle : K.length * 5 ≤ c * 5 := Nat.mul_le_mul_right _ h1
  rw [hz] at h3
  obtain ⟨cur', e1, e2, e3⟩ := setCells_block g 28 (shL m) (i * 5) w cur hc (by show i * 5 + 5 ≤ cur.size; omega)
  refine h.turn i hi m cur' e1 fun cur2 hc2 => ?_
  rw [hc] at hc2
  injection hc2 with hc2
  injection hc2 with hc2
  subst hc2
  refine ⟨e2, fun k hk => ?_⟩
  rw [e3 k, hz]
  show (if i * 5 ≤ k ∧ k < i * 5 + 5 then (shL m)[k - i * 5]? else cur[k]?) = if k / 5 = i then (shL m)[k % 5]? else cur[k]?
  by_cases e : k / 5 = i
  · rw [if_pos (by omega), if_pos e, show k - i * 5 = k % 5 by omega]
  · rw [if_neg (by omega), if_neg e]
/-- a shelf's row of points alone put in its place -/
theorem OwnE.putOnce {w : World} {base g c : Nat} {K : List ShM} (h : OwnE eSh 28 w base (.slice (some ⟨g, 0, none⟩) K.length c) K) (i : Nat) (hi : i < K.length) (a : Option Addr) (o : List Pn) (c' : Nat) :
    OwnE eSh 28 (w.setCell ⟨g, i * 5 + 4, none⟩ (.slice a o.length c')) base (.slice (some ⟨g, 0, none⟩) K.length c) (K.set i ⟨{ K[i].s with once := o }, a, c'⟩) := by
  obtain ⟨cur, hc, hg, h1, h2, h3, h4, -⟩ := h.block
  have hz : eSh.z = 5 := rfl
  have hle : K.length * 5 ≤ c * 5 := Nat.mul_le_mul_right _ h1
  rw [hz] at h3
  refine h.turn i hi _ _ (heap_setCell_same w g (i * 5 + 4) cur _ _ hc) fun cur2 hc2 => ?_
  rw [hc] at hc2
  injection hc2 with hc2
  injection hc2 with hc2
  subst hc2
  refine ⟨Array.size_setIfInBounds, fun k hk => ?_⟩
  rw [hz] at hk
  rw [Array.getElem?_setIfInBounds, hz]
  by_cases e : k / 5 = i
  · rw [if_pos e]
    by_cases e4 : i * 5 + 4 = k
    · rw [if_pos e4, if_pos (by omega), show k % 5 = 4 by omega]
      rfl
    · rw [if_neg e4]
      have e5 : cur[k]? = (eSh.enc K[i])[k % 5]? := by
        have hg3 := eSh.row_get K i hi (k % 5) (by show k % 5 < 5; omega)
        rw [← hg3, ← h4, hz, show i * 5 + k % 5 = k by omega, List.getElem?_take, if_pos hk, Array.getElem?_toList]
      rw [e5]
      have h5 : k % 5 = 0 ∨ k % 5 = 1 ∨ k % 5 = 2 ∨ k % 5 = 3 := by omega
      rcases h5 with h5 | h5 | h5 | h5 <;> rw [h5] <;> rfl
  · rw [if_neg e, if_neg (by omega)]
/-- points of the call's own where another block turned -/
theorem PtsOwn.far {w w' : World} {n g : Nat} {m : ShM} {cur : Array Value} (h : PtsOwn w n m) (hc : w.heap[g]? = some (.cells cur 28 (0, 0))) (hk : ∀ k, k ≠ g → w'.heap[k]? = w.heap[k]?) : PtsOwn w' n m := by
  rcases h.2 with h2 | ⟨g2, cap, cur2, e, hn, hc2, hr⟩
  · exact ⟨h.1, Or.inl h2⟩
  · refine ⟨h.1, Or.inr ⟨g2, cap, cur2, e, hn, ?_, hr⟩⟩
    rw [hk g2 (fun h3 => by
      rw [h3, hc] at hc2
      injection hc2 with hc2
      injection hc2 with _ h4
      exact absurd h4 (by decide))]
    exact hc2
theorem place_of_at {l : List Sh} {u i : Nat} {f : Bool} (hr : risesS l) (h : PlaceAt l u i f) : placeS l u = if f = true then some i else none := by
  obtain ⟨h1, h2, h3, h4⟩ := h
  by_cases e : f = true
  · rw [if_pos e]
    obtain ⟨hi, hu⟩ := h4.1 e
    exact place_here hi (fun j hj => by have := h2 j (by omega) hj; omega) hu
  · rw [if_neg e]
    refine place_nowhere fun j hj hu => ?_
    rcases Nat.lt_or_ge j i with hlt | hge
    · have := h2 j hj hlt; omega
    · by_cases hj2 : j = i
      · subst hj2
        exact e (h4.2 ⟨hj, hu⟩)
      · have h5 := h3 i (by omega) (Nat.le_refl _)
        have h6 := rises_step hr i j (by omega) hj
        omega
end Go.Proofs.Ytmmaimopombepaa