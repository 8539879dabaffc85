/- The contract of wire's withNumber: bytes, and a number's behind them. -/
import Derived.Test.YtimijdmigdlhfaaKb
import Derived.Test.YtimijdmigdlhfaaPa
import Derived.Test.YtimijdmigdlhfaaPb
namespace Go.Proofs.Ytimijdmigdlhfaa
open Go.RowKit
set_option maxRecDepth 100000
/-- m bytes put behind a slice of the call's own, also where it is long -/
theorem append_long {ops : Array Oper} {rest : List Oper} {o : Oper} {a : Act} {Q : Exit → Act → World → Prop} {w : World} (hgd : o.guard = none) (s x : Operand)
    (ho : o.op = .call { callee := .builtin .append, args := #[s, x], argTypes := #[53, 53] })
    (base : Nat) (v : Value) (l : List UInt8) (b : UInt8) (B : Nat) (hs : a.eval s = v) (hown : Own w base v l) (hx : a.eval x = .slice (some ⟨B, 0, none⟩) 1 1)
    (hc : w.cell? ⟨B, 0, none⟩ = some (.int .u8 (b.toNat : Int))) (hl : l.length ≤ 100000000) (hbase : base ≤ w.heap.size)
    (h : ∀ g cap w', Own w' base (.slice (some ⟨g, 0, none⟩) (l.length + 1) cap) (l ++ [b]) → w.grownBy w' v.ownBlock → wpList Try.prog ops Q rest (a.put o.dst (.slice (some ⟨g, 0, none⟩) (l.length + 1) cap)) w') :
    wpList Try.prog ops Q (o :: rest) a w := by
  obtain ⟨i0, hi, hz0, hz1, hz2⟩ := info_parts infoB
  refine wpList_append_own w hgd s x 53 ho base 5 i0 (.int .u8 0) 1 1 Try.underlying53 hi hz0 hz1 hz2 rfl (by decide) v l.length (Lib.byteCells l) hs hown ⟨B, 0, none⟩ 1 1 [.int .u8 (b.toNat : Int)] hx rfl ?_ ?_ (by unfold maxLen; omega) (by omega) hbase ?_
  · intro j u hu
    rcases j with _ | j
    · simp at hu; subst hu; simpa [Addr.add] using hc
    · simp at hu
  · intro u hu; simp at hu; subst hu; rfl
  · intro v' w' ho' hg _
    obtain ⟨g, cap, rfl, -, -⟩ := World.ownsRow.form ho' (by omega)
    refine h g cap w' ?_ hg
    unfold Own
    rw [List.length_append, Lib.byteCells_append]
    exact ho'
theorem Own.nil (w : World) (base : Nat) : Own w base (.slice none 0 0) [] := ⟨rfl, .inl ⟨rfl, rfl⟩⟩

/-- what is no row of bytes stands as it was -/
def Keeps (w w' : World) : Prop := ∀ (k : Nat) (cs : Array Value) (t : TypeId) (fr : Nat × Nat), w.heap[k]? = some (.cells cs t fr) → t ≠ 5 → w'.heap[k]? = some (.cells cs t fr)
theorem Keeps.refl (w : World) : Keeps w w := fun _ _ _ _ h _ => h
theorem Keeps.trans {w w1 w2 : World} (h : Keeps w w1) (h2 : Keeps w1 w2) : Keeps w w2 := fun k cs t fr h3 h4 => h2 k cs t fr (h k cs t fr h3 h4) h4
theorem Own.keeps {w w' : World} {base : Nat} {v : Value} {l : List UInt8} (h : Own w base v l) (hg : w.grownBy w' v.ownBlock) : Keeps w w' := by
  intro k cs t fr h1 h2
  rw [hg.block k (Array.getElem?_eq_some_iff.1 h1).1 ?_]
  · exact h1
  · intro e
    rcases h.2 with ⟨rfl, -⟩ | ⟨g, cap, cur, rfl, -, hc, -⟩
    · cases e
    · cases e
      rw [h1] at hc
      cases hc
      exact h2 rfl
theorem Keeps.alloc {w w1 : World} (h : Keeps w w1) (o : Obj) : Keeps w (w1.alloc o) := h.trans fun k cs t fr h1 _ => by
  rw [(World.grownBy_alloc w1 o none).block k (Array.getElem?_eq_some_iff.1 h1).1 (by simp)]; exact h1
def NumRel (w : World) (base : Nat) (l : List UInt8) (n M : Nat) (v i : Value) (wr : World) : Prop :=
  ∃ (k g cap : Nat), k ≤ M ∧ i = .int .i64 (k : Int) ∧ v = .slice (some ⟨g, 0, none⟩) (l.length + 1 + k) cap ∧ Own wr base v (l ++ UInt8.ofNat M :: (digL n).take k) ∧ Below base w wr ∧ Keeps w wr
theorem u8_of (M : Nat) (h : M < 256) : ((UInt8.ofNat M).toNat : Int) = (M : Int) := by rw [UInt8.toNat_ofNat']; omega
theorem take_snoc (l : List UInt8) (k : Nat) (h : k < l.length) : l.take (k + 1) = l.take k ++ [l.getD k 0] := by
  rw [List.take_succ_eq_append_getElem h]; simp [List.getD, h]
set_option maxHeartbeats 2000000 in
theorem withNumber_any (v : Value) (l : List UInt8) (base n : Nat) (hn : n < 18446744073709551616) (hl : l.length ≤ 10000000) (w : World) (hown : Own w base v l) (hbase : base ≤ w.heap.size) :
    Calls Try.prog 49 #[v, .int .u64 (n : Int)] w fun e w' => ∃ v', e = .returned v' ∧ Own w' base v' (l ++ numB n) ∧ Below base w w' ∧ Keeps w w' := by
  have hO := Lib.hid hown; have hB := Lib.hid hbase; have hL := Lib.hid hl
  clear hown hbase hl
  go_enter Try.func49, Try.ntmps49
  go_wp2_with fail
  refine (Len64_any n hn _).mono ?_
  rintro e w1 ⟨L, rfl, rfl, h1, h2, h3⟩
  have hlen := digL_len_bits n L h1 h2
  obtain ⟨M, eM⟩ : ∃ M : Nat, (L + 7) / 8 = M := ⟨_, rfl⟩
  have eMi : ((L : Int) + 7) / 8 = (M : Int) := by omega
  have hM8 : (M : Int) ≤ 8 := by omega
  rw [eM] at hlen
  have HLEN := Lib.hid hlen
  have hu8 := u8_of M (by omega)
  clear h1 h2 hlen eM
  have HU := Lib.hid hu8
  go_wp2_with (at_builtin; refine append_long rfl _ _ rfl base _ l (UInt8.ofNat M) w.heap.size rfl (Own.alloc hO.out _) rfl (by rw [HU.out]; simp) (by have := hL.out; omega) (by have := hB.out; simp; omega) ?_)
  intro g cap w1 hO1 hg1
  have hB1 := hO.out.below (Below.refl _ _) hB.out hg1
  have hK1 := ((Keeps.refl w).alloc _).trans ((hO.out.alloc _).keeps hg1)
  have HO1 := Lib.hid hO1; have HB1 := Lib.hid (And.intro hB1 hK1)
  clear hO1 hB1 hK1 hg1 hO hu8 HU
  clear eMi h3
  go_wp2_with fail
  go_loopw [0, 17] (NumRel w base l n M) (fun _ i _ => M - (intOf i).toNat)
  case atStart => exact ⟨0, g, cap, by omega, rfl, by rw [Nat.add_zero], by rw [List.take_zero]; exact HO1.out, HB1.out.1, HB1.out.2⟩
  case round =>
    clear HO1 HB1
    obtain ⟨k, g, cap, hk, rfl, rfl, hY, hBel, hKp⟩ := hrel
    have hsz := hBel.size
    have hbr : base ≤ wr.heap.size := Nat.le_trans hB.out hsz
    have HBR := Lib.hid hbr
    by_cases hlt : k < M
    · have h1 : (k : Int) < (M : Int) := by omega
      obtain ⟨d, hd⟩ : ∃ d : Nat, (M : Int) - 1 - (k : Int) = (d : Int) := ⟨M - 1 - k, by omega⟩
      obtain ⟨s, hs⟩ : ∃ s : Nat, 8 * (d : Int) = (s : Int) := ⟨8 * d, by omega⟩
      obtain ⟨b, hb⟩ : ∃ b, (digL n).getD k 0 = b := ⟨_, rfl⟩
      have hbv : (n : Int) / 2 ^ s % 256 = (b.toNat : Int) := by
        rw [← hb, digL_get n k (by rw [HLEN.out]; exact hlt), HLEN.out, ofNat_mod, show M - 1 - k = d by omega, show s = 8 * d by omega, show (256 : Nat) ^ d = 2 ^ (8 * d) by rw [show (256 : Nat) = 2 ^ 8 from rfl, ← Nat.pow_mul]]
        norm_cast
      obtain ⟨Y, eY⟩ : ∃ Y, l ++ UInt8.ofNat M :: (digL n).take k = Y := ⟨_, rfl⟩
      have hYl : Y.length = l.length + 1 + k := by rw [← eY]; simp [HLEN.out]; omega
      have hstep : l ++ UInt8.ofNat M :: (digL n).take (k + 1) = Y ++ [b] := by
        rw [take_snoc _ _ (by rw [HLEN.out]; exact hlt), hb, ← eY]; simp
      rw [eY] at hY
      have HY := Lib.hid hY; have HBe := Lib.hid hBel; have HKp := Lib.hid hKp; have HYL := Lib.hid hYl; have HST := Lib.hid hstep
      clear hY hBel hKp hsz hbr hb eY hYl hstep
      go_wp2_with (at_builtin; refine append_long rfl _ _ rfl base _ Y b wr.heap.size rfl ?c0 rfl ?c1 ?c2 ?c3 ?_)
      case c0 => exact Own.alloc HY.out _
      case c1 => simp
      case c2 => rw [HYL.out]; have := hL.out; omega
      case c3 => have := HBR.out; simp; omega
      intro g' cap' w' hO3 hg'
      have hB3 := HY.out.below HBe.out HBR.out hg'
      have hK3 := (HKp.out.alloc _).trans ((HY.out.alloc _).keeps hg')
      rw [HYL.out] at hO3 ⊢
      have HO3 := Lib.hid hO3; have HB3 := Lib.hid (And.intro hB3 hK3)
      clear hO3 hB3 hK3 hg' hd hs hbv
      go_wp2_with fail
      refine ⟨⟨k + 1, g', cap', by omega, by simp, by simp [Nat.add_assoc], ?_, HB3.out.1, HB3.out.2⟩, by simp [intOf]; omega⟩
      rw [HST.out]
      exact HO3.out
    · obtain rfl : k = M := by omega
      rw [List.take_of_length_le (by rw [HLEN.out]; exact Nat.le_refl _)] at hY
      have hN : UInt8.ofNat k :: digL n = numB n := by unfold numB; rw [HLEN.out]
      rw [hN] at hY
      have HY := Lib.hid hY; have HBe := Lib.hid (And.intro hBel hKp)
      clear hY hBel hKp hsz hbr hN
      have h1 : ¬ (k : Int) < (k : Int) := by omega
      go_wp2_with fail
      go_ret
      exact ⟨_, rfl, HY.out, HBe.out⟩
end Go.Proofs.Ytimijdmigdlhfaa