/- prekeys: allCopied. -/
import Derived.Test.YtmmaimopombepaaBj
namespace Go.Proofs.Ytmmaimopombepaa
open Go.RowKit
set_option maxRecDepth 100000
/-- shelves of the call's own: their rows of points too -/
structure OwnSS (w : World) (base : Nat) (v : Value) (L : List ShM) : Prop where
  row : OwnE eSh 28 w base v L
  pts : ∀ m ∈ L, PtsOwn w base m
theorem OwnSS.ss {w : World} {base : Nat} {v : Value} {L : List ShM} (h : OwnSS w base v L) : ∃ a c, v = .slice a L.length c ∧ SS w a c L := h.row.ss fun m hm => (h.pts m hm).at
theorem OwnSS.on {w w' : World} {base : Nat} {v : Value} {L : List ShM} (h : OwnSS w base v L) (hb : Below w.heap.size w w') : OwnSS w' base v L := ⟨h.row.on hb, fun m hm => (h.pts m hm).on hb⟩
theorem PtsOwn.mono {w : World} {n n' : Nat} {m : ShM} (h : PtsOwn w n m) (hn : n' ≤ n) : PtsOwn w n' m := World.ownsRow.mono h hn
def AcRel (w : World) (L : List ShM) (v i : Value) (wr : World) : Prop :=
  ∃ (k : Nat) (K : List ShM) (W : World), W = wr ∧ i = .int .i64 (k : Int) ∧ k ≤ L.length ∧ Below w.heap.size w wr ∧ OwnSS wr w.heap.size v K ∧ shs K = (shs L).take k
set_option maxHeartbeats 8000000 in
theorem allCopied_any (a : Option Addr) (c : Nat) (L : List ShM) (hl : L.length ≤ 1000) (hf : FewP L) (w : World) (h : SS w a c L) :
    Calls Try.prog 85 #[.slice a L.length c] w fun e w' => ∃ v K, e = .returned v ∧ OwnSS w' w.heap.size v K ∧ shs K = shs L ∧ Below w.heap.size w w' := by
  have H := Lib.hid (And.intro h hf)
  have hsl := shs_length L
  have q : (L.length : Int) ≤ 1000 := by omega
  clear h hf
  go_enter Try.func85, Try.ntmps85
  go_wp2_with fail
  go_loopw [3, 8] (AcRel w L) (fun _ i _ => L.length - (Lib.intOf i).toNat)
  case atStart => exact ⟨0, [], _, rfl, rfl, Nat.zero_le _, Below.refl _ _, ⟨OwnE.nil _ _ _ _, fun m hm => by cases hm⟩, rfl⟩
  case round =>
    obtain ⟨k, K, wr, rfl, rfl, h1, h2, h3, h4⟩ := hrel
    by_cases hk : k < L.length
    · have hkz : (k : Int) < (L.length : Int) := by omega
      obtain ⟨b, off, rfl, hlt, hall⟩ := (H.out.1.on h2).sl.get k hk
      have hks : k < (shs L).length := by omega
      have hat : (shs L)[k] = L[k].s := shs_get L k hk
      have hm5 := hall k hk
      have hpt := (H.out.1.on h2).sl.pts _ (List.getElem_mem hk)
      have hfl := H.out.2 _ (List.getElem_mem hk)
      obtain ⟨x, ex⟩ : ∃ x, L[k] = x := ⟨_, rfl⟩
      rw [ex] at hm5 hat hpt hfl
      obtain ⟨c0, c1, c2, c3, c4⟩ := hm5
      have htk : (shs L).take (k + 1) = (shs L).take k ++ [x.s] := by rw [List.take_succ_eq_append_getElem hks, hat]
      have hKl : K.length ≤ 1000 := by rw [← shs_length K, h4, List.length_take]; omega
      have hb0 : Below wr.heap.size wr (wr.alloc (.cells #[.int .u64 (x.s.user : Int), .string x.s.ident, .int .u64 (x.s.sgn.id : Int), .string x.s.sgn.pt, .slice x.a x.s.once.length x.c] 28)) := (Below.refl _ wr).alloc (Nat.le_refl _) _
      have HC := Lib.hid (copied_any x hfl _ (hpt.on hb0))
      have HX := Lib.hid (And.intro h2 (And.intro h3 (And.intro h4 (And.intro htk hb0))))
      have HLN := Lib.hid hKl
      clear h2 h3 h4 htk hKl hb0 hat hpt hfl hall ex
      go_wp2_with fail
      refine HC.out.mono ?_
      rintro e w2 ⟨y, hy, rfl, ho, hb⟩
      have hB2 : Below wr.heap.size wr w2 := HX.out.2.2.2.2.trans (hb.mono HX.out.2.2.2.2.size)
      have hO2 := HX.out.2.1.on hB2
      have hsz : w.heap.size ≤ w2.heap.size := Nat.le_trans HX.out.1.size hB2.size
      have hBw := HX.out.1.trans (hB2.mono HX.out.1.size)
      have hyo : y.s.once.length = x.s.once.length := by rw [hy]
      have hq := Sl.one (E := eSh) (w := w2) 28 y
      have eq1 : (eSh.enc y).toArray = #[.int .u64 (x.s.user : Int), .string x.s.ident, .int .u64 (x.s.sgn.id : Int), .string x.s.sgn.pt, .slice y.a x.s.once.length y.c] := by
        show (shL y).toArray = _
        unfold shL
        rw [hy]
      rw [eq1] at hq
      have HY := Lib.hid (And.intro ho (And.intro hO2 (And.intro hsz (And.intro hBw hy))))
      have HQ := Lib.hid hq
      clear ho hO2 hsz hBw hy hb hB2 hyo hq eq1 HC
      go_wp2_with (at_builtin; refine append_E eSh 22 28 _ 72 Try.underlying22 infoSh rfl rfl _ _ rfl w.heap.size _ _ _ _ _ [y] rfl rfl rfl (HY.out.2.1.row.alloc _) HQ.out (fun e => by cases e) (by have := HLN.out; unfold maxLen; simp only [List.length_singleton]; omega) (by have := HLN.out; simp only [List.length_singleton]; omega) (by have := HY.out.2.2.1; simp; omega) ?_; intro v' w3 ho3 hg3; have HO3 := Lib.hid ho3; have HG3 := Lib.hid hg3; clear ho3 hg3)
      refine ⟨⟨k + 1, K ++ [y], _, rfl, by go_num, by omega, ?_, ⟨HO3.out, ?_⟩, ?_⟩, by simp [Lib.intOf]; omega⟩
      · exact OwnE.below (HY.out.2.1.row.alloc _) (HY.out.2.2.2.1.alloc HY.out.2.2.1 _) (by have := HY.out.2.2.1; simp; omega) HG3.out
      · intro m hm
        have hal : ∀ m, PtsOwn w2 w.heap.size m → PtsOwn w3 w.heap.size m := fun m hm => (hm.on ((Below.refl _ w2).alloc (Nat.le_refl _) _)).kept (HY.out.2.1.row.alloc _) HG3.out
        rcases List.mem_append.1 hm with hm | hm
        · exact hal m (HY.out.2.1.pts m hm)
        · rw [List.mem_singleton.1 hm]
          exact hal y (HY.out.1.mono (by have := HX.out.1.size; simp; omega))
      · rw [shs_append, HX.out.2.2.1, HX.out.2.2.2.1, ← HY.out.2.2.2.2]
        rfl
    · have hkz : ¬ (k : Int) < (L.length : Int) := by omega
      have hkn : k = (shs L).length := by omega
      rw [hkn, List.take_length] at h4
      have HX := Lib.hid (And.intro h2 (And.intro h3 h4))
      clear h2 h3 h4
      go_wp2_with fail
      go_ret
      exact ⟨_, rfl, K, HX.out.2.1, HX.out.2.2, HX.out.1⟩
end Go.Proofs.Ytmmaimopombepaa