/- prekeys: a row of points copied, copied, allCopied. -/
import Derived.Test.YtmmaimopombepaaBi
import Derived.Test.YtmmaimopombepaaAc
namespace Go.Proofs.Ytmmaimopombepaa
open Go.RowKit
set_option maxRecDepth 100000
theorem eqlP_nil (n c : Nat) (W : World) : (binOp .eql 26 (.slice none n c) (.slice none 0 0)).run Try.prog W = .ok (.bool true) W := by rfl
theorem eqlP_some (ad : Addr) (n c : Nat) (W : World) : (binOp .eql 26 (.slice (some ad) n c) (.slice none 0 0)).run Try.prog W = .ok (.bool false) W := by rfl
set_option maxHeartbeats 2000000 in
theorem cloneP_any (a : Option Addr) (c : Nat) (l : List Pn) (hl : l.length ≤ 1000) (w : World) (hp : PP w a c l) :
    Calls Try.prog 61 #[.slice a l.length c] w fun e w' => ∃ v, e = .returned v ∧ OwnE ePn 25 w' w.heap.size v l ∧ Below w.heap.size w w' := by
  cases a with
  | none =>
    have h := (hp.nil rfl).2
    subst h
    have q := fun W => eqlP_nil 0 c W
    clear hp hl
    go_enter Try.func61, Try.ntmps61
    go_wp2_with fail
    go_ret
    exact ⟨_, rfl, OwnE.nil _ _ _ _, Below.refl _ _⟩
  | some ad =>
    have hO := OwnE.empty ePn 25 w w.heap.size (Nat.le_refl _)
    have hB : Below w.heap.size w (w.alloc (.cells #[] 25)) := (Below.refl _ w).alloc (Nat.le_refl _) _
    have HO := Lib.hid hO; have HB := Lib.hid hB; have HK := Lib.hid (hp.on hB).at_; have HL := Lib.hid hl
    have q := fun W => eqlP_some ad l.length c W
    clear hO hB hp hl
    go_enter Try.func61, Try.ntmps61
    go_wp2_with (at_builtin; refine append_E ePn 26 25 _ 24 Try.underlying26 infoPn rfl rfl _ _ rfl w.heap.size _ [] _ _ _ l rfl rfl rfl HO.out HK.out (fun e => by cases e) (by have := HL.out; unfold maxLen; simp; omega) (by have := HL.out; simp; omega) HB.out.size ?_; intro v' w3 ho3 hg3; have HO3 := Lib.hid ho3; have HG3 := Lib.hid hg3; clear ho3 hg3)
    go_ret
    exact ⟨_, rfl, by simpa using HO3.out, OwnE.below HO.out HB.out HB.out.size HG3.out⟩
/-- a copied shelf's own points -/
def PtsOwn (w : World) (n : Nat) (m : ShM) : Prop := OwnE ePn 25 w n (.slice m.a m.s.once.length m.c) m.s.once
theorem PtsOwn.at {w : World} {n : Nat} {m : ShM} (h : PtsOwn w n m) : PtsAt w m := by
  obtain ⟨a, c, e, h1, h2, h3, -⟩ := OwnE.sl h
  injection e with e1 e2 e3
  subst e1
  subst e3
  exact ⟨h2, h1, h3⟩
theorem PtsOwn.on {w w' : World} {n : Nat} {m : ShM} (h : PtsOwn w n m) (hb : Below w.heap.size w w') : PtsOwn w' n m := OwnE.on h hb
/-- a row of shelves that grows leaves it -/
theorem PtsOwn.kept {w w' : World} {n base : Nat} {m : ShM} {v : Value} {L : List ShM} (h : PtsOwn w n m) (hv : OwnE eSh 28 w base v L) (hg : w.grownBy w' v.ownBlock) : PtsOwn w' n m := by
  refine World.ownsRow.kept h hg ?_
  rcases h.2 with ⟨e, -⟩ | ⟨g, cap, cur, e, hn, hc, -⟩
  · rw [e]
    exact Or.inl rfl
  · right
    rw [e]
    intro e2
    rcases hv.2 with ⟨rfl, -⟩ | ⟨g2, cap2, cur2, rfl, hn2, hc2, -⟩
    · cases e2
    · have e3 : g = g2 := by injection e2
      subst e3
      rw [hc] at hc2
      injection hc2 with hc2
      injection hc2 with _ h4
      exact absurd h4 (by decide)
theorem shL_oneU (u : Nat) (i : ByteArray) (si : Nat) (sp : ByteArray) (a : Option Addr) (n c : Nat) : ∀ v ∈ [Value.int .u64 (u : Int), .string i, .int .u64 (si : Int), .string sp, .slice a n c], v.oneCell' = true := by
  intro v hv
  simp only [List.mem_cons, List.not_mem_nil, or_false] at hv
  rcases hv with rfl | rfl | rfl | rfl | rfl <;> rfl
def zeroShL : List Value := [.int .u64 0, .string ⟨#[]⟩, .int .u64 0, .string ⟨#[]⟩, .slice none 0 0]
set_option maxHeartbeats 4000000 in
theorem copied_any (m : ShM) (hl : m.s.once.length ≤ 1000) (w : World) (h : PtsAt w m) :
    Calls Try.prog 54 #[.agg #[.int .u64 (m.s.user : Int), .string m.s.ident, .int .u64 (m.s.sgn.id : Int), .string m.s.sgn.pt, .slice m.a m.s.once.length m.c]] w fun e w' => ∃ m' : ShM, m'.s = m.s ∧ e = .returned (.agg #[.int .u64 (m.s.user : Int), .string m.s.ident, .int .u64 (m.s.sgn.id : Int), .string m.s.sgn.pt, .slice m'.a m.s.once.length m'.c]) ∧ PtsOwn w' w.heap.size m' ∧ Below w.heap.size w w' := by
  obtain ⟨⟨u, i, ⟨si, sp⟩, o⟩, a, c⟩ := m
  obtain ⟨W0, eW⟩ : ∃ W0, (w.alloc (.cells #[.int .u64 (u : Int), .string i, .int .u64 (si : Int), .string sp, .slice a o.length c] 28)).alloc (.cells #[.int .u64 0, .string ⟨#[]⟩, .int .u64 0, .string ⟨#[]⟩, .slice none 0 0] 28) = W0 := ⟨_, rfl⟩
  have hB : Below w.heap.size w W0 := by rw [← eW]; exact ((Below.refl _ w).alloc (Nat.le_refl _) _).alloc (by simp) _
  have HC := Lib.hid (cloneP_any a c o hl _ (h.pp.on hB))
  have HB := Lib.hid hB
  obtain ⟨B, eB⟩ : ∃ B, w.heap.size = B := ⟨_, rfl⟩
  have k1 : BlkV W0 B 28 [.int .u64 (u : Int), .string i, .int .u64 (si : Int), .string sp, .slice a o.length c] := by
    rw [← eW, ← eB]
    exact (BlkV.fresh w _ _ _ rfl _ rfl).alloc _
  have k2 : BlkV W0 (B + 1) 28 zeroShL := by
    rw [← eW, ← eB]
    exact BlkV.fresh _ _ _ _ rfl _ (by simp)
  have c4 := k1.cell 4 _ rfl
  have HK := Lib.hid (And.intro k1 (And.intro k2 eB))
  clear hl h k1 k2 hB
  go_enter Try.func54, Try.ntmps54
  go_upto_region 1 with fail
  clear eW
  go_wp2_with fail
  refine HC.out.mono ?_
  rintro e w1 ⟨v, rfl, ho, hb⟩
  have j1 := HK.out.1.on hb
  have d4 := j1.cell 4 _ rfl
  have f4 := j1.frozen 4
  obtain ⟨a', c', rfl, g1, g2, g3, -⟩ := ho.sl
  have HO := Lib.hid ho
  have HG := Lib.hid (And.intro g1 (And.intro g2 g3))
  clear ho g1 g2 g3
  go_upto_region 2 with fail
  have j2 := (HK.out.2.1.on hb).far ⟨B, 4, none⟩ (by show B + 1 ≠ B; omega) (.slice a' o.length c')
  have j3 := j1.set 4 (.slice a' o.length c')
  have hbB : Below w.heap.size w w1 := HB.out.trans (hb.mono HB.out.size)
  have hb3 := hbB.setCell (show w.heap.size ≤ (⟨B, 4, none⟩ : Addr).block by show w.heap.size ≤ B; rw [HK.out.2.2]; exact Nat.le_refl _) (.slice a' o.length c')
  have ho3 : OwnE ePn 25 (w1.setCell ⟨B, 4, none⟩ (.slice a' o.length c')) w.heap.size (.slice a' o.length c') o := by
    have h1 : OwnE ePn 25 w1 W0.heap.size (.slice a' o.length c') o := HO.out
    have h2 : B < W0.heap.size := HK.out.1.lt
    have h3 : OwnE ePn 25 (w1.setCell ⟨B, 4, none⟩ (.slice a' o.length c')) W0.heap.size (.slice a' o.length c') o := ownsRow_setCell_below h1 h2 _
    exact World.ownsRow.mono h3 (HB.out.size)
  have HF := Lib.hid (And.intro j3 (And.intro j2 (And.intro hb3 ho3)))
  clear j1 j2 j3 hb3 ho3 hb d4 f4 c4 hbB HC HB HO HG
  generalize w1.setCell _ _ = W2 at HF ⊢
  refine wp_region_lit ?_
  refine load_v rfl _ _ rfl B rfl HF.out.1 Try.underlying28 rfl (by kernel_rfl) ?_
  refine store_v rfl rfl _ _ _ rfl (B + 1) rfl (l' := [.int .u64 (u : Int), .string i, .int .u64 (si : Int), .string sp, .slice a' o.length c']) rfl HF.out.2.1 rfl (shL_oneU _ _ _ _ _ _ _) (by kernel_rfl) ?_
  have hf := HF.out.2.1.stored [.int .u64 (u : Int), .string i, .int .u64 (si : Int), .string sp, .slice a' o.length c'] rfl
  have hb9 := below_setCells (show w.heap.size ≤ B + 1 by rw [HK.out.2.2]; omega) [Value.int .u64 (u : Int), .string i, .int .u64 (si : Int), .string sp, .slice a' o.length c'] 0 _ HF.out.2.2.1
  have ho9 : PtsOwn (W2.setCells (B + 1) 0 [.int .u64 (u : Int), .string i, .int .u64 (si : Int), .string sp, .slice a' o.length c']) w.heap.size ⟨⟨u, i, ⟨si, sp⟩, o⟩, a', c'⟩ := by
    have h1 : PtsOwn W2 w.heap.size ⟨⟨u, i, ⟨si, sp⟩, o⟩, a', c'⟩ := HF.out.2.2.2
    rcases h1.2 with h2 | ⟨g, cap, cur, e, hn, hc, hr⟩
    · exact ⟨h1.1, Or.inl h2⟩
    · refine ⟨h1.1, Or.inr ⟨g, cap, cur, e, hn, ?_, hr⟩⟩
      have hgB : g ≠ B + 1 := fun h => by
        have h3 := HF.out.2.1
        unfold BlkV at h3
        rw [← h, hc] at h3
        injection h3 with h3
        injection h3 with _ h4
        exact absurd h4 (by decide)
      rw [heap_setCells_other (B + 1) g hgB]
      exact hc
  have HZ := Lib.hid (And.intro hf (And.intro hb9 ho9))
  clear hf hb9 ho9 HF
  generalize World.setCells _ _ _ _ = W9 at HZ ⊢
  refine wpList_nil ?_
  rename_i K hK
  refine hK _ _ ?_
  clear hK K
  refine wp_ret ?_
  refine bodyPost_ret (results_v (p := 2) (T := 28) (by kernel_rfl) _ _ (B + 1) rfl HZ.out.1 Try.underlying28 rfl (by kernel_rfl)) rfl ?_
  exact ⟨⟨⟨u, i, ⟨si, sp⟩, o⟩, a', c'⟩, rfl, rfl, HZ.out.2.2, HZ.out.2.1⟩
end Go.Proofs.Ytmmaimopombepaa