/- The laws' few, what is the same, slices.Concat of two. -/
import Derived.Test.YtolobdeilfgmnaaDoorKs
import Derived.Lib.AppendZeros
import Derived.Laws.AppendOwnNone
import Derived.BigQuiet
namespace Go.Proofs.YtolobdeilfgmnaaDoor
open Go.RowKit
set_option maxRecDepth 100000
theorem SSl.take {w : World} {a : Option Addr} {l : List ByteArray} (h : SSl w a l) (k : Nat) : SSl w a (l.take k) := by
  intro h0
  obtain ⟨b, off, ha, hlt, hc⟩ := h (by rw [List.length_take] at h0; omega)
  refine ⟨b, off, ha, hlt, fun i hi => ?_⟩
  rw [List.length_take] at hi
  rw [hc i (by omega)]
  simp [List.getD, show i < k by omega]
theorem SSl.nil (w : World) (a : Option Addr) : SSl w a [] := fun h => absurd h (Nat.lt_irrefl 0)
/-- texts of a row of the call's own can be read -/
theorem OwnS.read {w : World} {base : Nat} {v : Value} {l : List ByteArray} (h : OwnS w base v l) : ∃ a c, v = .slice a l.length c ∧ l.length ≤ c ∧ SSl w a l := by
  rcases h.2 with ⟨e, h0⟩ | ⟨g, cap, cur, e, -, hg, hc, -⟩
  · have h1 : l = [] := List.length_eq_zero_iff.1 h0
    subst h1
    exact ⟨none, 0, e, Nat.le_refl _, SSl.nil _ _⟩
  · subst e
    refine ⟨_, _, rfl, hc, fun _ => ?_⟩
    obtain ⟨g', off, cap', e, hlt, hcc⟩ := h.strs rfl
    cases e
    exact ⟨_, _, rfl, hlt, hcc⟩
def TxRel (w : World) (i : Value) (n : Nat) (wr : World) : Prop := ∃ k : Nat, k ≤ n ∧ i = .int .i64 (k : Int) ∧ Below w.heap.size w wr
theorem below_dn' {B : Nat} {a w : World} (h : Below B a w) (n : Nat) : Below B a (w.drewN n) := ⟨h.os, h.tape, h.output, h.size, h.block⟩
set_option maxHeartbeats 2000000 in
theorem texts_eq (a b : Option Addr) (c d : Nat) (l : List ByteArray) (hl : l.length ≤ 1000) (w : World) (hp : SSl w a l) (hq : SSl w b l) :
    Calls Tryd.prog 15 #[.slice a l.length c, .slice b l.length d] w fun e w' => e = .returned (.bool true) ∧ Below w.heap.size w w' := by
  have HP := Lib.hid hp; have HQ := Lib.hid hq; have HL := Lib.hid hl
  clear hp hq hl
  go_enter Tryd.func15, Tryd.ntmps15
  go_wp2_with fail
  go_loopw [13] (fun i wr => TxRel w i l.length wr) (fun i _ => l.length - (intOf i).toNat)
  case atStart => exact ⟨0, Nat.zero_le _, rfl, Below.refl _ _⟩
  case round =>
    obtain ⟨k, hk, rfl, hB⟩ := hrel
    by_cases hlt : k < l.length
    · have h1 : (k : Int) < (l.length : Int) := by omega
      have h1k : (k : Int) < 1000 := by have := HL.out; omega
      obtain ⟨g, off, rfl, hbl, hc⟩ := HP.out (by omega)
      obtain ⟨g', off', rfl, hbl', hc'⟩ := HQ.out (by omega)
      have r1 : wr.cell? ⟨g, off + k, none⟩ = some (.string (l.getD k ⟨#[]⟩)) := by rw [hB.cell (p := ⟨g, off + k, none⟩) hbl]; exact hc k hlt
      have r2 : wr.cell? ⟨g', off' + k, none⟩ = some (.string (l.getD k ⟨#[]⟩)) := by rw [hB.cell (p := ⟨g', off' + k, none⟩) hbl']; exact hc' k hlt
      generalize l.getD k ⟨#[]⟩ = x at r1 r2
      have HB := Lib.hid hB
      clear hB hc hc' hbl hbl'
      go_upto_region 6 with fail
      go_quiet (fail)
      go_wp2_with fail
      exact ⟨⟨k + 1, by omega, by simp, below_dn' HB.out _⟩, by simp [intOf]; omega⟩
    · obtain rfl : k = l.length := by omega
      have hn : ¬ (l.length : Int) < (l.length : Int) := by omega
      have HB := Lib.hid hB
      clear hB
      go_wp2_with fail
      go_ret
      exact ⟨rfl, HB.out⟩
/-- slices.Grow of nothing -/
theorem grow_any (n : Nat) (hn : n ≤ 1000) (w : World) :
    Calls Tryd.prog 24 #[.slice none 0 0, .int .i64 (n : Int)] w fun e w' => ∃ v, e = .returned v ∧ OwnS w' w.heap.size v [] ∧ Below w.heap.size w w' := by
  by_cases h0 : n = 0
  · subst h0
    go_enter Tryd.func24, Tryd.ntmps24
    go_wp2_with fail
    go_ret
    exact ⟨_, rfl, ⟨rfl, .inl ⟨rfl, rfl⟩⟩, Below.refl _ _⟩
  · obtain ⟨i0, hi, hz0, hz1, hz2⟩ := info_parts infoS
    have hrun := fun ty => Lib.run_append_nil_zeros (P := Tryd.prog) w 37 3 ty 9 i0 (.string ⟨#[]⟩) .i64 .i64 Tryd.underlying37 Tryd.underlying3 hi hz0 n (by omega) (by omega) (by omega) (by rw [hz2]; omega)
    obtain ⟨C, eC⟩ : ∃ C, grownCap w n 0 9 = C := ⟨_, rfl⟩
    have hCn : n ≤ C := by rw [← eC]; exact grownCap_ge _ _ _ _
    have hCm : C ≤ maxLen := by rw [← eC]; exact grownCap_le_maxLen _ _ _ _ (by unfold maxLen; omega)
    rw [eC] at hrun
    obtain ⟨Z, eZ⟩ : ∃ Z : Array Value, Builtin.zeroCells (Value.string ⟨#[]⟩).cells n ++ Builtin.zeroCells (Value.string ⟨#[]⟩).cells (C - n) = Z := ⟨_, rfl⟩
    have hZ : Z.size = C := by
      rw [← eZ, Array.size_append, size_zeroCells, size_zeroCells]
      show n * 1 + (C - n) * 1 = C
      omega
    rw [eZ] at hrun
    have h1 : (0 : Int) < (n : Int) := by omega
    have h2 : ¬ (n : Int) < 0 := by omega
    have HR := Lib.hid hrun
    have HZ := Lib.hid (And.intro hZ (And.intro hCn hCm))
    clear hi hz0 hz1 hz2 eC hCn hCm eZ hZ hrun
    go_enter Tryd.func24, Tryd.ntmps24
    go_wp2_with (at_builtin; refine Lib.wpList_append_run _ rfl _ _ 37 3 rfl _ _ rfl rfl _ _ (HR.out _) ?_)
    go_ret
    refine ⟨_, rfl, ⟨rfl, .inr ⟨w.heap.size, C, Z, rfl, Nat.le_refl _, heap_alloc_new w _, Nat.zero_le _, HZ.out.2.2, by rw [HZ.out.1, Nat.mul_one], rfl⟩⟩, ?_⟩
    exact ((Below.refl _ w).alloc (Nat.le_refl _) _).drew
/-- several texts put behind a slice of the call's own -/
theorem append_ss {ops : Array Oper} {rest : List Oper} {o : Oper} {a : Act} {Q : Exit → Act → World → Prop} {w : World} (hgd : o.guard = none) (s x : Operand)
    (ho : o.op = .call { callee := .builtin .append, args := #[s, x], argTypes := #[37, 37] })
    (base : Nat) (v : Value) (l news : List ByteArray) (ad : Option Addr) (c : Nat) (hs : a.eval s = v) (hown : OwnS w base v l) (hx : a.eval x = .slice ad news.length c) (hc0 : ad = none → c = 0 ∧ news = [])
    (hv : SSl w ad news) (hl : l.length + news.length ≤ 1000) (hbase : base ≤ w.heap.size)
    (h : ∀ v' w', OwnS w' base v' (l ++ news) → w.grownBy w' v.ownBlock → wpList Tryd.prog ops Q rest (a.put o.dst v') w') :
    wpList Tryd.prog ops Q (o :: rest) a w := by
  obtain ⟨i0, hi, hz0, hz1, hz2⟩ := info_parts infoS
  cases ad with
  | none =>
    obtain ⟨rfl, rfl⟩ := hc0 rfl
    refine wpList_append_own_none hgd s x 37 ho base 9 i0 1 Tryd.underlying37 hi v l.length (Sv l) hs hown hx ?_
    exact h v w (by rw [List.append_nil]; exact hown) (World.grownBy.refl w _)
  | some ad =>
    refine wpList_append_own w hgd s x 37 ho base 9 i0 (.string ⟨#[]⟩) 1 16 Tryd.underlying37 hi hz0 hz1 hz2 rfl (by decide) v l.length (Sv l) hs hown ad news.length c (Sv news) hx (by simp [Sv]) ?_ ?_ (by unfold maxLen; omega) (by omega) hbase ?_
    · intro j u hu
      have hj : j < news.length := by
        have := (List.getElem?_eq_some_iff.1 hu).1
        simpa [Sv] using this
      obtain ⟨b, off, e, -, hc⟩ := hv (by omega)
      cases e
      rw [Addr.add_mid, hc j hj, ← hu]
      simp [Sv, List.getD, hj]
    · intro u hu
      simp only [Sv, List.mem_map] at hu
      obtain ⟨y, -, rfl⟩ := hu
      rfl
    · intro v' w' ho' hg _
      refine h v' w' ?_ hg
      unfold OwnS
      rw [List.length_append]
      simpa [Sv] using ho'
def catN (l m : List ByteArray) : Nat → List ByteArray
  | 0 => []
  | 1 => l
  | _ => l ++ m
def sumN (l m : List ByteArray) : Nat → Nat
  | 0 => 0
  | 1 => l.length
  | _ => l.length + m.length
def C1Rel (W : World) (l m : List ByteArray) (z i : Value) (wr : World) : Prop := ∃ k : Nat, k ≤ 2 ∧ i = .int .i64 (k : Int) ∧ z = .int .i64 (sumN l m k : Int) ∧ W = wr
def C2Rel (n0 base : Nat) (w : World) (l m : List ByteArray) (z i : Value) (wr : World) : Prop := ∃ k : Nat, k ≤ 2 ∧ i = .int .i64 (k : Int) ∧ OwnS wr base z (catN l m k) ∧ Below n0 w wr ∧ base ≤ wr.heap.size
set_option maxHeartbeats 4000000 in
theorem concat_any (a b : Option Addr) (c d : Nat) (l m : List ByteArray) (hl : l.length ≤ 100) (hm : m.length ≤ 100) (ha : a = none → c = 0 ∧ l = []) (hb : b = none → d = 0 ∧ m = []) (A : Nat) (w : World) (hlt : A < w.heap.size)
    (h0 : w.cell? ⟨A, 0, none⟩ = some (.slice a l.length c)) (h1 : w.cell? ⟨A, 1, none⟩ = some (.slice b m.length d)) (hp : SSl w a l) (hq : SSl w b m) :
    Calls Tryd.prog 16 #[.slice (some ⟨A, 0, none⟩) 2 2] w fun e w' => ∃ v, e = .returned v ∧ OwnS w' w.heap.size v (l ++ m) ∧ Below w.heap.size w w' := by
  have HA := Lib.hid (And.intro hlt (And.intro ha hb)); have HP := Lib.hid hp; have HQ := Lib.hid hq
  have HL := Lib.hid (And.intro hl hm)
  have HG := Lib.hid (fun W => grow_any (l.length + m.length) (by omega) W)
  clear hlt ha hb hp hq hl hm
  go_enter Tryd.func16, Tryd.ntmps16
  go_wp2_with fail
  go_loopw [3, 11] (C1Rel w l m) (fun _ i _ => 2 - (intOf i).toNat)
  case atStart => exact ⟨0, by omega, rfl, rfl, rfl⟩
  case round =>
    obtain ⟨k, hk, rfl, rfl, rfl⟩ := hrel
    rcases k with _ | _ | _ | k
    · have hb1 : (l.length : Int) ≤ 100 := by have := HL.out.1; omega
      have hb2 : ¬ (l.length : Int) < 0 := by omega
      simp only [sumN]
      go_wp2_with fail
      exact ⟨⟨1, by omega, rfl, rfl, rfl⟩, by simp [intOf]⟩
    · have hb1 : (l.length : Int) + (m.length : Int) ≤ 200 := by have := HL.out; omega
      have hb2 : ¬ (l.length : Int) + (m.length : Int) < 0 := by omega
      simp only [sumN]
      go_wp2_with fail
      exact ⟨⟨2, by omega, rfl, by simp [sumN], rfl⟩, by simp [intOf]⟩
    · obtain ⟨n, en⟩ : ∃ n, l.length + m.length = n := ⟨_, rfl⟩
      simp only [sumN]
      rw [en] at HG ⊢
      go_wp2_with fail
      refine (HG.out w).mono ?_
      rintro e w1 ⟨v, rfl, ho, hbw⟩
      have HO := Lib.hid ho; have HB := Lib.hid hbw; have H0 := Lib.hid h0; have H1 := Lib.hid h1
      clear ho hbw HG h0 h1
      go_wp2_with fail
      go_loopw [6, 27] (C2Rel w.heap.size w.heap.size w l m) (fun _ i _ => 2 - (intOf i).toNat)
      case atStart => exact ⟨0, by omega, rfl, HO.out, HB.out, HB.out.size⟩
      case round =>
        clear HO HB
        obtain ⟨k, hk, rfl, ho, hB, hsz⟩ := hrel
        rcases k with _ | _ | _ | k
        · have g0 : wr.cell? ⟨A, 0, none⟩ = some (.slice a l.length c) := by rw [hB.cell (p := ⟨A, 0, none⟩) HA.out.1]; exact H0.out
          have hps := HP.out.on hB
          have HO := Lib.hid ho; have HB := Lib.hid hB; have HS := Lib.hid hsz; have HPS := Lib.hid hps
          clear ho hB hsz hps
          go_wp2_with (at_builtin; refine append_ss rfl _ _ rfl w.heap.size _ _ l a c rfl HO.out rfl HA.out.2.1 HPS.out (by have := HL.out; show 0 + _ ≤ 1000; omega) HS.out ?_; intro v' w3 ho3 hg3; have HO3 := Lib.hid ho3; have HB3 := Lib.hid (HB.out.grown hg3 HS.out (fun i hi => (World.ownsRow.lt HO.out i hi).1)); have HS3 := Lib.hid (Nat.le_trans HS.out hg3.size); clear ho3 hg3)
          exact ⟨⟨1, by omega, rfl, HO3.out, HB3.out, HS3.out⟩, by simp [intOf]⟩
        · have g1 : wr.cell? ⟨A, 1, none⟩ = some (.slice b m.length d) := by rw [hB.cell (p := ⟨A, 1, none⟩) HA.out.1]; exact H1.out
          have hps := HQ.out.on hB
          have HO := Lib.hid ho; have HB := Lib.hid hB; have HS := Lib.hid hsz; have HPS := Lib.hid hps
          clear ho hB hsz hps
          go_wp2_with (at_builtin; refine append_ss rfl _ _ rfl w.heap.size _ _ m b d rfl HO.out rfl HA.out.2.2 HPS.out (by have := HL.out; show l.length + _ ≤ 1000; omega) HS.out ?_; intro v' w3 ho3 hg3; have HO3 := Lib.hid ho3; have HB3 := Lib.hid (HB.out.grown hg3 HS.out (fun i hi => (World.ownsRow.lt HO.out i hi).1)); have HS3 := Lib.hid (Nat.le_trans HS.out hg3.size); clear ho3 hg3)
          exact ⟨⟨2, by omega, rfl, HO3.out, HB3.out, HS3.out⟩, by simp [intOf]⟩
        · have HO := Lib.hid ho; have HB := Lib.hid hB
          clear ho hB hsz
          go_wp2_with fail
          go_ret
          exact ⟨_, rfl, HO.out, HB.out⟩
        · omega
    · omega
end Go.Proofs.YtolobdeilfgmnaaDoor