/- The texts Pb, Pc, one behind the other. -/
import Derived.Test.YtollaaooinoafaaDoorRows
import Derived.Test.YtollaaooinoafaaDoorKz
import Derived.Lib.BitFns
import Derived.Test.YtollaaooinoafaaDoorPa
/- The contract of bits.Len64: how many bits a number has. -/
namespace Go.Proofs.YtollaaooinoafaaDoor
open Go.RowKit
set_option maxRecDepth 100000
theorem len8_fin : ∀ n : Fin 256, ∃ l : Fin 9, Lib.len8 (n.val : Int) = (l.val : Int) ∧ n.val < 2 ^ l.val ∧ (l.val = 0 ∧ n.val = 0 ∨ 0 < l.val ∧ 2 ^ (l.val - 1) ≤ n.val) := by decide +kernel
theorem len8_bits (x k : Nat) (h : x / 2 ^ k < 256) (hk : k = 0 ∨ 2 ^ k ≤ x) : ∃ l : Nat, Lib.len8 ((x / 2 ^ k : Nat) : Int) = (l : Int) ∧ l ≤ 8 ∧ x < 2 ^ (l + k) ∧ (l + k = 0 ∨ 2 ^ (l + k - 1) ≤ x) := by
  obtain ⟨l, h1, h2, h3⟩ := len8_fin ⟨x / 2 ^ k, h⟩
  have hp := Nat.two_pow_pos k
  refine ⟨l.val, h1, by omega, ?_, ?_⟩
  · rw [Nat.pow_add]
    exact (Nat.div_lt_iff_lt_mul hp).1 h2
  · rcases h3 with ⟨h4, h5⟩ | ⟨h4, h5⟩
    · rcases hk with rfl | hk
      · left; omega
      · exfalso
        have : 1 ≤ x / 2 ^ k := (Nat.le_div_iff_mul_le hp).2 (by omega)
        simp only at h5
        omega
    · right
      rw [show l.val + k - 1 = l.val - 1 + k by omega, Nat.pow_add]
      exact (Nat.le_div_iff_mul_le hp).1 h5
theorem ret_i64 {a b : Int} (h : a = b) : Ending.returned (.int .i64 a) = .returned (.int .i64 b) := by rw [h]
/-- what the table tells of the byte that is left -/
theorem len_leaf (x k z : Nat) (ez : x / 2 ^ k = z) (hz : z < 256) (hk : k = 0 ∨ 2 ^ k ≤ x) (hk2 : k ≤ 56) : ∃ l : Nat,
    (∀ W : World, (Instr.index 9 (.string Lib.len8tab) (.int .u8 (z : Int))).run Tryd.prog W = .ok (.int .u8 (l : Int)) W) ∧ l ≤ 8 ∧
    wrap64 ((k : Int) + wrap64 (l : Int)) = ((l + k : Nat) : Int) ∧ x < 2 ^ (l + k) ∧ (l + k = 0 ∨ 2 ^ (l + k - 1) ≤ x) ∧ l + k ≤ 64 := by
  obtain ⟨l, h1, h2, h3, h4⟩ := len8_bits x k (by omega) hk
  rw [ez] at h1
  have e1 : wrap64 (l : Int) = l := by unfold wrap64; omega
  refine ⟨l, fun W => ?_, h2, ?_, h3, h4, by omega⟩
  · rw [Lib.run_index_len8tab (P := Tryd.prog) W 9 .u8 (z : Int) Tryd.underlying9 (by omega) (by omega), h1]
  · rw [e1]; unfold wrap64; omega
set_option maxHeartbeats 4000000 in
theorem Len64_any (x : Nat) (hx : x < 18446744073709551616) (w : World) :
    Calls Tryd.prog 45 #[.int .u64 (x : Int)] w fun e w' => ∃ L : Nat, e = .returned (.int .i64 (L : Int)) ∧ w = w' ∧ x < 2 ^ L ∧ (L = 0 ∨ 2 ^ (L - 1) ≤ x) ∧ L ≤ 64 := by
  by_cases c1 : (4294967296 : Int) ≤ (x : Int)
  · have k1 : (x : Int) / 4294967296 < 4294967296 := by omega
    by_cases c2 : (65536 : Int) ≤ (x : Int) / 4294967296
    · have k2 : (x : Int) / 4294967296 / 65536 < 65536 := by omega
      by_cases c3 : (256 : Int) ≤ (x : Int) / 4294967296 / 65536
      · have dy1 : (4294967296 : Int) ≤ (x : Int) := by omega
        obtain ⟨y1, ey1⟩ : ∃ y1 : Nat, (x : Int) / 4294967296 = (y1 : Int) := ⟨x / 4294967296, by omega⟩
        have dy2 : (65536 : Int) ≤ (y1 : Int) := by omega
        obtain ⟨y2, ey2⟩ : ∃ y2 : Nat, (y1 : Int) / 65536 = (y2 : Int) := ⟨y1 / 65536, by omega⟩
        have dy3 : (256 : Int) ≤ (y2 : Int) := by omega
        obtain ⟨y3, ey3⟩ : ∃ y3 : Nat, (y2 : Int) / 256 = (y3 : Int) := ⟨y2 / 256, by omega⟩
        have hz : (y3 : Int) < 256 := by omega
        obtain ⟨l, hix, hl, hw, h1, h2, h3⟩ := len_leaf x 56 y3 (by omega) (by omega) (by omega) (by omega)
        clear c1 c2 c3 k1 k2
        have HF := Lib.hid (And.intro hw (And.intro h1 (And.intro h2 h3)))
        clear hw h1 h2 h3
        go_enter Tryd.func45, Tryd.ntmps45
        go_upto_region 10 with fail
        generalize hT : ByteArray.mk _ = T
        obtain rfl : Lib.len8tab = T := by subst hT; kernel_rfl
        clear hT
        go_wp2_with fail
        go_ret
        obtain ⟨hw, h1, h2, h3⟩ := HF.out
        exact ⟨_, ret_i64 (by first | exact hw | omega), rfl, h1, h2, h3⟩
      · have dy1 : (4294967296 : Int) ≤ (x : Int) := by omega
        obtain ⟨y1, ey1⟩ : ∃ y1 : Nat, (x : Int) / 4294967296 = (y1 : Int) := ⟨x / 4294967296, by omega⟩
        have dy2 : (65536 : Int) ≤ (y1 : Int) := by omega
        obtain ⟨y2, ey2⟩ : ∃ y2 : Nat, (y1 : Int) / 65536 = (y2 : Int) := ⟨y1 / 65536, by omega⟩
        have dy3 : ¬ (256 : Int) ≤ (y2 : Int) := by omega
        have hz : (y2 : Int) < 256 := by omega
        obtain ⟨l, hix, hl, hw, h1, h2, h3⟩ := len_leaf x 48 y2 (by omega) (by omega) (by omega) (by omega)
        clear c1 c2 c3 k1 k2
        have HF := Lib.hid (And.intro hw (And.intro h1 (And.intro h2 h3)))
        clear hw h1 h2 h3
        go_enter Tryd.func45, Tryd.ntmps45
        go_upto_region 10 with fail
        generalize hT : ByteArray.mk _ = T
        obtain rfl : Lib.len8tab = T := by subst hT; kernel_rfl
        clear hT
        go_wp2_with fail
        go_ret
        obtain ⟨hw, h1, h2, h3⟩ := HF.out
        exact ⟨_, ret_i64 (by first | exact hw | omega), rfl, h1, h2, h3⟩
    · have k2 : (x : Int) / 4294967296 < 65536 := by omega
      by_cases c3 : (256 : Int) ≤ (x : Int) / 4294967296
      · have dy1 : (4294967296 : Int) ≤ (x : Int) := by omega
        obtain ⟨y1, ey1⟩ : ∃ y1 : Nat, (x : Int) / 4294967296 = (y1 : Int) := ⟨x / 4294967296, by omega⟩
        have dy2 : ¬ (65536 : Int) ≤ (y1 : Int) := by omega
        have dy3 : (256 : Int) ≤ (y1 : Int) := by omega
        obtain ⟨y3, ey3⟩ : ∃ y3 : Nat, (y1 : Int) / 256 = (y3 : Int) := ⟨y1 / 256, by omega⟩
        have hz : (y3 : Int) < 256 := by omega
        obtain ⟨l, hix, hl, hw, h1, h2, h3⟩ := len_leaf x 40 y3 (by omega) (by omega) (by omega) (by omega)
        clear c1 c2 c3 k1 k2
        have HF := Lib.hid (And.intro hw (And.intro h1 (And.intro h2 h3)))
        clear hw h1 h2 h3
        go_enter Tryd.func45, Tryd.ntmps45
        go_upto_region 10 with fail
        generalize hT : ByteArray.mk _ = T
        obtain rfl : Lib.len8tab = T := by subst hT; kernel_rfl
        clear hT
        go_wp2_with fail
        go_ret
        obtain ⟨hw, h1, h2, h3⟩ := HF.out
        exact ⟨_, ret_i64 (by first | exact hw | omega), rfl, h1, h2, h3⟩
      · have dy1 : (4294967296 : Int) ≤ (x : Int) := by omega
        obtain ⟨y1, ey1⟩ : ∃ y1 : Nat, (x : Int) / 4294967296 = (y1 : Int) := ⟨x / 4294967296, by omega⟩
        have dy2 : ¬ (65536 : Int) ≤ (y1 : Int) := by omega
        have dy3 : ¬ (256 : Int) ≤ (y1 : Int) := by omega
        have hz : (y1 : Int) < 256 := by omega
        obtain ⟨l, hix, hl, hw, h1, h2, h3⟩ := len_leaf x 32 y1 (by omega) (by omega) (by omega) (by omega)
        clear c1 c2 c3 k1 k2
        have HF := Lib.hid (And.intro hw (And.intro h1 (And.intro h2 h3)))
        clear hw h1 h2 h3
        go_enter Tryd.func45, Tryd.ntmps45
        go_upto_region 10 with fail
        generalize hT : ByteArray.mk _ = T
        obtain rfl : Lib.len8tab = T := by subst hT; kernel_rfl
        clear hT
        go_wp2_with fail
        go_ret
        obtain ⟨hw, h1, h2, h3⟩ := HF.out
        exact ⟨_, ret_i64 (by first | exact hw | omega), rfl, h1, h2, h3⟩
  · have k1 : (x : Int) < 4294967296 := by omega
    by_cases c2 : (65536 : Int) ≤ (x : Int)
    · have k2 : (x : Int) / 65536 < 65536 := by omega
      by_cases c3 : (256 : Int) ≤ (x : Int) / 65536
      · have dy1 : ¬ (4294967296 : Int) ≤ (x : Int) := by omega
        have dy2 : (65536 : Int) ≤ (x : Int) := by omega
        obtain ⟨y2, ey2⟩ : ∃ y2 : Nat, (x : Int) / 65536 = (y2 : Int) := ⟨x / 65536, by omega⟩
        have dy3 : (256 : Int) ≤ (y2 : Int) := by omega
        obtain ⟨y3, ey3⟩ : ∃ y3 : Nat, (y2 : Int) / 256 = (y3 : Int) := ⟨y2 / 256, by omega⟩
        have hz : (y3 : Int) < 256 := by omega
        obtain ⟨l, hix, hl, hw, h1, h2, h3⟩ := len_leaf x 24 y3 (by omega) (by omega) (by omega) (by omega)
        clear c1 c2 c3 k1 k2
        have HF := Lib.hid (And.intro hw (And.intro h1 (And.intro h2 h3)))
        clear hw h1 h2 h3
        go_enter Tryd.func45, Tryd.ntmps45
        go_upto_region 10 with fail
        generalize hT : ByteArray.mk _ = T
        obtain rfl : Lib.len8tab = T := by subst hT; kernel_rfl
        clear hT
        go_wp2_with fail
        go_ret
        obtain ⟨hw, h1, h2, h3⟩ := HF.out
        exact ⟨_, ret_i64 (by first | exact hw | omega), rfl, h1, h2, h3⟩
      · have dy1 : ¬ (4294967296 : Int) ≤ (x : Int) := by omega
        have dy2 : (65536 : Int) ≤ (x : Int) := by omega
        obtain ⟨y2, ey2⟩ : ∃ y2 : Nat, (x : Int) / 65536 = (y2 : Int) := ⟨x / 65536, by omega⟩
        have dy3 : ¬ (256 : Int) ≤ (y2 : Int) := by omega
        have hz : (y2 : Int) < 256 := by omega
        obtain ⟨l, hix, hl, hw, h1, h2, h3⟩ := len_leaf x 16 y2 (by omega) (by omega) (by omega) (by omega)
        clear c1 c2 c3 k1 k2
        have HF := Lib.hid (And.intro hw (And.intro h1 (And.intro h2 h3)))
        clear hw h1 h2 h3
        go_enter Tryd.func45, Tryd.ntmps45
        go_upto_region 10 with fail
        generalize hT : ByteArray.mk _ = T
        obtain rfl : Lib.len8tab = T := by subst hT; kernel_rfl
        clear hT
        go_wp2_with fail
        go_ret
        obtain ⟨hw, h1, h2, h3⟩ := HF.out
        exact ⟨_, ret_i64 (by first | exact hw | omega), rfl, h1, h2, h3⟩
    · have k2 : (x : Int) < 65536 := by omega
      by_cases c3 : (256 : Int) ≤ (x : Int)
      · have dy1 : ¬ (4294967296 : Int) ≤ (x : Int) := by omega
        have dy2 : ¬ (65536 : Int) ≤ (x : Int) := by omega
        have dy3 : (256 : Int) ≤ (x : Int) := by omega
        obtain ⟨y3, ey3⟩ : ∃ y3 : Nat, (x : Int) / 256 = (y3 : Int) := ⟨x / 256, by omega⟩
        have hz : (y3 : Int) < 256 := by omega
        obtain ⟨l, hix, hl, hw, h1, h2, h3⟩ := len_leaf x 8 y3 (by omega) (by omega) (by omega) (by omega)
        clear c1 c2 c3 k1 k2
        have HF := Lib.hid (And.intro hw (And.intro h1 (And.intro h2 h3)))
        clear hw h1 h2 h3
        go_enter Tryd.func45, Tryd.ntmps45
        go_upto_region 10 with fail
        generalize hT : ByteArray.mk _ = T
        obtain rfl : Lib.len8tab = T := by subst hT; kernel_rfl
        clear hT
        go_wp2_with fail
        go_ret
        obtain ⟨hw, h1, h2, h3⟩ := HF.out
        exact ⟨_, ret_i64 (by first | exact hw | omega), rfl, h1, h2, h3⟩
      · have dy1 : ¬ (4294967296 : Int) ≤ (x : Int) := by omega
        have dy2 : ¬ (65536 : Int) ≤ (x : Int) := by omega
        have dy3 : ¬ (256 : Int) ≤ (x : Int) := by omega
        have hz : (x : Int) < 256 := by omega
        obtain ⟨l, hix, hl, hw, h1, h2, h3⟩ := len_leaf x 0 x (by omega) (by omega) (by omega) (by omega)
        clear c1 c2 c3 k1 k2
        have HF := Lib.hid (And.intro hw (And.intro h1 (And.intro h2 h3)))
        clear hw h1 h2 h3
        go_enter Tryd.func45, Tryd.ntmps45
        go_upto_region 10 with fail
        generalize hT : ByteArray.mk _ = T
        obtain rfl : Lib.len8tab = T := by subst hT; kernel_rfl
        clear hT
        go_wp2_with fail
        go_ret
        obtain ⟨hw, h1, h2, h3⟩ := HF.out
        exact ⟨_, ret_i64 (by first | exact hw | omega), rfl, h1, h2, h3⟩
end Go.Proofs.YtollaaooinoafaaDoor

/- The contract of wire's withNumber: bytes, and a number's behind them. -/
namespace Go.Proofs.YtollaaooinoafaaDoor
open Go.RowKit
set_option maxRecDepth 100000
/-- m bytes put behind a slice of the call's own, also where it is long -/
theorem append_long {ops : Array Oper} {rest : List Oper} {o : Oper} {a : Act} {Q : Exit → Act → World → Prop} {w : World} (hgd : o.guard = none) (s x : Operand)
    (ho : o.op = .call { callee := .builtin .append, args := #[s, x], argTypes := #[64, 64] })
    (base : Nat) (v : Value) (l : List UInt8) (b : UInt8) (B : Nat) (hs : a.eval s = v) (hown : Own w base v l) (hx : a.eval x = .slice (some ⟨B, 0, none⟩) 1 1)
    (hc : w.cell? ⟨B, 0, none⟩ = some (.int .u8 (b.toNat : Int))) (hl : l.length ≤ 100000000) (hbase : base ≤ w.heap.size)
    (h : ∀ g cap w', Own w' base (.slice (some ⟨g, 0, none⟩) (l.length + 1) cap) (l ++ [b]) → w.grownBy w' v.ownBlock → wpList Tryd.prog ops Q rest (a.put o.dst (.slice (some ⟨g, 0, none⟩) (l.length + 1) cap)) w') :
    wpList Tryd.prog ops Q (o :: rest) a w := by
  obtain ⟨i0, hi, hz0, hz1, hz2⟩ := info_parts infoB
  refine wpList_append_own w hgd s x 64 ho base 5 i0 (.int .u8 0) 1 1 Tryd.underlying64 hi hz0 hz1 hz2 rfl (by decide) v l.length (Lib.byteCells l) hs hown ⟨B, 0, none⟩ 1 1 [.int .u8 (b.toNat : Int)] hx rfl ?_ ?_ (by unfold maxLen; omega) (by omega) hbase ?_
  · intro j u hu
    rcases j with _ | j
    · simp at hu; subst hu; simpa [Addr.add] using hc
    · simp at hu
  · intro u hu; simp at hu; subst hu; rfl
  · intro v' w' ho' hg _
    obtain ⟨g, cap, rfl, -, -⟩ := World.ownsRow.form ho' (by omega)
    refine h g cap w' ?_ hg
    unfold Own
    rw [List.length_append, Lib.byteCells_append]
    exact ho'
theorem Own.nil (w : World) (base : Nat) : Own w base (.slice none 0 0) [] := ⟨rfl, .inl ⟨rfl, rfl⟩⟩

/-- what is no row of bytes stands as it was -/
def Keeps (w w' : World) : Prop := ∀ (k : Nat) (cs : Array Value) (t : TypeId) (fr : Nat × Nat), w.heap[k]? = some (.cells cs t fr) → t ≠ 5 → w'.heap[k]? = some (.cells cs t fr)
theorem Keeps.refl (w : World) : Keeps w w := fun _ _ _ _ h _ => h
theorem Keeps.trans {w w1 w2 : World} (h : Keeps w w1) (h2 : Keeps w1 w2) : Keeps w w2 := fun k cs t fr h3 h4 => h2 k cs t fr (h k cs t fr h3 h4) h4
theorem Own.keeps {w w' : World} {base : Nat} {v : Value} {l : List UInt8} (h : Own w base v l) (hg : w.grownBy w' v.ownBlock) : Keeps w w' := by
  intro k cs t fr h1 h2
  rw [hg.block k (Array.getElem?_eq_some_iff.1 h1).1 ?_]
  · exact h1
  · intro e
    rcases h.2 with ⟨rfl, -⟩ | ⟨g, cap, cur, rfl, -, hc, -⟩
    · cases e
    · cases e
      rw [h1] at hc
      cases hc
      exact h2 rfl
theorem Keeps.alloc {w w1 : World} (h : Keeps w w1) (o : Obj) : Keeps w (w1.alloc o) := h.trans fun k cs t fr h1 _ => by
  rw [(World.grownBy_alloc w1 o none).block k (Array.getElem?_eq_some_iff.1 h1).1 (by simp)]; exact h1
def NumRel (w : World) (base : Nat) (l : List UInt8) (n M : Nat) (v i : Value) (wr : World) : Prop :=
  ∃ (k g cap : Nat), k ≤ M ∧ i = .int .i64 (k : Int) ∧ v = .slice (some ⟨g, 0, none⟩) (l.length + 1 + k) cap ∧ Own wr base v (l ++ UInt8.ofNat M :: (digL n).take k) ∧ Below base w wr ∧ Keeps w wr
theorem u8_of (M : Nat) (h : M < 256) : ((UInt8.ofNat M).toNat : Int) = (M : Int) := by rw [UInt8.toNat_ofNat']; omega
theorem take_snoc (l : List UInt8) (k : Nat) (h : k < l.length) : l.take (k + 1) = l.take k ++ [l.getD k 0] := by
  rw [List.take_succ_eq_append_getElem h]; simp [List.getD, h]
set_option maxHeartbeats 2000000 in
theorem withNumber_any (v : Value) (l : List UInt8) (base n : Nat) (hn : n < 18446744073709551616) (hl : l.length ≤ 10000000) (w : World) (hown : Own w base v l) (hbase : base ≤ w.heap.size) :
    Calls Tryd.prog 40 #[v, .int .u64 (n : Int)] w fun e w' => ∃ v', e = .returned v' ∧ Own w' base v' (l ++ numB n) ∧ Below base w w' ∧ Keeps w w' := by
  have hO := Lib.hid hown; have hB := Lib.hid hbase; have hL := Lib.hid hl
  clear hown hbase hl
  go_enter Tryd.func40, Tryd.ntmps40
  go_wp2_with fail
  refine (Len64_any n hn _).mono ?_
  rintro e w1 ⟨L, rfl, rfl, h1, h2, h3⟩
  have hlen := digL_len_bits n L h1 h2
  obtain ⟨M, eM⟩ : ∃ M : Nat, (L + 7) / 8 = M := ⟨_, rfl⟩
  have eMi : ((L : Int) + 7) / 8 = (M : Int) := by omega
  have hM8 : (M : Int) ≤ 8 := by omega
  rw [eM] at hlen
  have HLEN := Lib.hid hlen
  have hu8 := u8_of M (by omega)
  clear h1 h2 hlen eM
  have HU := Lib.hid hu8
  go_wp2_with (at_builtin; refine append_long rfl _ _ rfl base _ l (UInt8.ofNat M) w.heap.size rfl (Own.alloc hO.out _) rfl (by rw [HU.out]; simp) (by have := hL.out; omega) (by have := hB.out; simp; omega) ?_)
  intro g cap w1 hO1 hg1
  have hB1 := hO.out.below (Below.refl _ _) hB.out hg1
  have hK1 := ((Keeps.refl w).alloc _).trans ((hO.out.alloc _).keeps hg1)
  have HO1 := Lib.hid hO1; have HB1 := Lib.hid (And.intro hB1 hK1)
  clear hO1 hB1 hK1 hg1 hO hu8 HU
  clear eMi h3
  go_wp2_with fail
  go_loopw [0, 17] (NumRel w base l n M) (fun _ i _ => M - (intOf i).toNat)
  case atStart => exact ⟨0, g, cap, by omega, rfl, by rw [Nat.add_zero], by rw [List.take_zero]; exact HO1.out, HB1.out.1, HB1.out.2⟩
  case round =>
    clear HO1 HB1
    obtain ⟨k, g, cap, hk, rfl, rfl, hY, hBel, hKp⟩ := hrel
    have hsz := hBel.size
    have hbr : base ≤ wr.heap.size := Nat.le_trans hB.out hsz
    have HBR := Lib.hid hbr
    by_cases hlt : k < M
    · have h1 : (k : Int) < (M : Int) := by omega
      obtain ⟨d, hd⟩ : ∃ d : Nat, (M : Int) - 1 - (k : Int) = (d : Int) := ⟨M - 1 - k, by omega⟩
      obtain ⟨s, hs⟩ : ∃ s : Nat, 8 * (d : Int) = (s : Int) := ⟨8 * d, by omega⟩
      obtain ⟨b, hb⟩ : ∃ b, (digL n).getD k 0 = b := ⟨_, rfl⟩
      have hbv : (n : Int) / 2 ^ s % 256 = (b.toNat : Int) := by
        rw [← hb, digL_get n k (by rw [HLEN.out]; exact hlt), HLEN.out, ofNat_mod, show M - 1 - k = d by omega, show s = 8 * d by omega, show (256 : Nat) ^ d = 2 ^ (8 * d) by rw [show (256 : Nat) = 2 ^ 8 from rfl, ← Nat.pow_mul]]
        norm_cast
      obtain ⟨Y, eY⟩ : ∃ Y, l ++ UInt8.ofNat M :: (digL n).take k = Y := ⟨_, rfl⟩
      have hYl : Y.length = l.length + 1 + k := by rw [← eY]; simp [HLEN.out]; omega
      have hstep : l ++ UInt8.ofNat M :: (digL n).take (k + 1) = Y ++ [b] := by
        rw [take_snoc _ _ (by rw [HLEN.out]; exact hlt), hb, ← eY]; simp
      rw [eY] at hY
      have HY := Lib.hid hY; have HBe := Lib.hid hBel; have HKp := Lib.hid hKp; have HYL := Lib.hid hYl; have HST := Lib.hid hstep
      clear hY hBel hKp hsz hbr hb eY hYl hstep
      go_wp2_with (at_builtin; refine append_long rfl _ _ rfl base _ Y b wr.heap.size rfl ?c0 rfl ?c1 ?c2 ?c3 ?_)
      case c0 => exact Own.alloc HY.out _
      case c1 => simp
      case c2 => rw [HYL.out]; have := hL.out; omega
      case c3 => have := HBR.out; simp; omega
      intro g' cap' w' hO3 hg'
      have hB3 := HY.out.below HBe.out HBR.out hg'
      have hK3 := (HKp.out.alloc _).trans ((HY.out.alloc _).keeps hg')
      rw [HYL.out] at hO3 ⊢
      have HO3 := Lib.hid hO3; have HB3 := Lib.hid (And.intro hB3 hK3)
      clear hO3 hB3 hK3 hg' hd hs hbv
      go_wp2_with fail
      refine ⟨⟨k + 1, g', cap', by omega, by simp, by simp [Nat.add_assoc], ?_, HB3.out.1, HB3.out.2⟩, by simp [intOf]; omega⟩
      rw [HST.out]
      exact HO3.out
    · obtain rfl : k = M := by omega
      rw [List.take_of_length_le (by rw [HLEN.out]; exact Nat.le_refl _)] at hY
      have hN : UInt8.ofNat k :: digL n = numB n := by unfold numB; rw [HLEN.out]
      rw [hN] at hY
      have HY := Lib.hid hY; have HBe := Lib.hid (And.intro hBel hKp)
      clear hY hBel hKp hsz hbr hN
      have h1 : ¬ (k : Int) < (k : Int) := by omega
      go_wp2_with fail
      go_ret
      exact ⟨_, rfl, HY.out, HBe.out⟩
end Go.Proofs.YtollaaooinoafaaDoor
