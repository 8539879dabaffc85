/- The texts Um, Uy, Uo, Va, Xa, Xb, Xc, Xd, one behind the other. -/
import Derived.Test.YtdnjieffbgmagaaDoorBg9
import Derived.Lib.AppendZeros
import Derived.Laws.AppendOwnNone
import Derived.BigQuiet
import Derived.Deep.Strs
import Derived.SizedLaws
import Derived.WideShapes
import Derived.ChangeShapes
import Derived.Test.YtdnjieffbgmagaaDoorBg1
import Derived.Test.YtdnjieffbgmagaaDoorRows
import Derived.Deep.Onto
/- The laws' few, what is the same, slices.Concat of two. -/
namespace Go.Proofs.YtdnjieffbgmagaaDoor
open Go.RowKit
set_option maxRecDepth 100000
theorem SSl.nil (w : World) (a : Option Addr) : SSl w a [] := fun h => absurd h (Nat.lt_irrefl 0)
/-- texts of a row of the call's own can be read -/
theorem OwnS.read {w : World} {base : Nat} {v : Value} {l : List ByteArray} (h : OwnS w base v l) : ∃ a c, v = .slice a l.length c ∧ l.length ≤ c ∧ SSl w a l := by
  rcases h.2 with ⟨e, h0⟩ | ⟨g, cap, cur, e, -, hg, hc, -⟩
  · have h1 : l = [] := List.length_eq_zero_iff.1 h0
    subst h1
    exact ⟨none, 0, e, Nat.le_refl _, SSl.nil _ _⟩
  · subst e
    refine ⟨_, _, rfl, hc, fun _ => ?_⟩
    obtain ⟨g', off, cap', e, hlt, hcc⟩ := h.strs rfl
    cases e
    exact ⟨_, _, rfl, hlt, hcc⟩
def TxRel (w : World) (i : Value) (n : Nat) (wr : World) : Prop := ∃ k : Nat, k ≤ n ∧ i = .int .i64 (k : Int) ∧ Below w.heap.size w wr
theorem below_dn' {B : Nat} {a w : World} (h : Below B a w) (n : Nat) : Below B a (w.drewN n) := ⟨h.os, h.tape, h.output, h.size, h.block⟩
set_option maxHeartbeats 2000000 in
theorem texts_eq (a b : Option Addr) (c d : Nat) (l : List ByteArray) (hl : l.length ≤ 1000) (w : World) (hp : SSl w a l) (hq : SSl w b l) :
    Calls Tryd.prog 13 #[.slice a l.length c, .slice b l.length d] w fun e w' => e = .returned (.bool true) ∧ Below w.heap.size w w' := by
  have HP := Lib.hid hp; have HQ := Lib.hid hq; have HL := Lib.hid hl
  clear hp hq hl
  go_enter Tryd.func13, Tryd.ntmps13
  go_wp2_with fail
  go_loopw [13] (fun i wr => TxRel w i l.length wr) (fun i _ => l.length - (intOf i).toNat)
  case atStart => exact ⟨0, Nat.zero_le _, rfl, Below.refl _ _⟩
  case round =>
    obtain ⟨k, hk, rfl, hB⟩ := hrel
    by_cases hlt : k < l.length
    · have h1 : (k : Int) < (l.length : Int) := by omega
      have h1k : (k : Int) < 1000 := by have := HL.out; omega
      obtain ⟨g, off, rfl, hbl, hc⟩ := HP.out (by omega)
      obtain ⟨g', off', rfl, hbl', hc'⟩ := HQ.out (by omega)
      have r1 : wr.cell? ⟨g, off + k, none⟩ = some (.string (l.getD k ⟨#[]⟩)) := by rw [hB.cell (p := ⟨g, off + k, none⟩) hbl]; exact hc k hlt
      have r2 : wr.cell? ⟨g', off' + k, none⟩ = some (.string (l.getD k ⟨#[]⟩)) := by rw [hB.cell (p := ⟨g', off' + k, none⟩) hbl']; exact hc' k hlt
      generalize l.getD k ⟨#[]⟩ = x at r1 r2
      have HB := Lib.hid hB
      clear hB hc hc' hbl hbl'
      go_upto_region 6 with fail
      go_quiet (fail)
      go_wp2_with fail
      exact ⟨⟨k + 1, by omega, by simp, below_dn' HB.out _⟩, by simp [intOf]; omega⟩
    · obtain rfl : k = l.length := by omega
      have hn : ¬ (l.length : Int) < (l.length : Int) := by omega
      have HB := Lib.hid hB
      clear hB
      go_wp2_with fail
      go_ret
      exact ⟨rfl, HB.out⟩
/-- slices.Grow of nothing -/
theorem grow_any (n : Nat) (hn : n ≤ 1000) (w : World) :
    Calls Tryd.prog 29 #[.slice none 0 0, .int .i64 (n : Int)] w fun e w' => ∃ v, e = .returned v ∧ OwnS w' w.heap.size v [] ∧ Below w.heap.size w w' := by
  by_cases h0 : n = 0
  · subst h0
    go_enter Tryd.func29, Tryd.ntmps29
    go_wp2_with fail
    go_ret
    exact ⟨_, rfl, ⟨rfl, .inl ⟨rfl, rfl⟩⟩, Below.refl _ _⟩
  · obtain ⟨i0, hi, hz0, hz1, hz2⟩ := info_parts infoS
    have hrun := fun ty => Lib.run_append_nil_zeros (P := Tryd.prog) w 24 3 ty 9 i0 (.string ⟨#[]⟩) .i64 .i64 Tryd.underlying24 Tryd.underlying3 hi hz0 n (by omega) (by omega) (by omega) (by rw [hz2]; omega)
    obtain ⟨C, eC⟩ : ∃ C, grownCap w n 0 9 = C := ⟨_, rfl⟩
    have hCn : n ≤ C := by rw [← eC]; exact grownCap_ge _ _ _ _
    have hCm : C ≤ maxLen := by rw [← eC]; exact grownCap_le_maxLen _ _ _ _ (by unfold maxLen; omega)
    rw [eC] at hrun
    obtain ⟨Z, eZ⟩ : ∃ Z : Array Value, Builtin.zeroCells (Value.string ⟨#[]⟩).cells n ++ Builtin.zeroCells (Value.string ⟨#[]⟩).cells (C - n) = Z := ⟨_, rfl⟩
    have hZ : Z.size = C := by
      rw [← eZ, Array.size_append, size_zeroCells, size_zeroCells]
      show n * 1 + (C - n) * 1 = C
      omega
    rw [eZ] at hrun
    have h1 : (0 : Int) < (n : Int) := by omega
    have h2 : ¬ (n : Int) < 0 := by omega
    have HR := Lib.hid hrun
    have HZ := Lib.hid (And.intro hZ (And.intro hCn hCm))
    clear hi hz0 hz1 hz2 eC hCn hCm eZ hZ hrun
    go_enter Tryd.func29, Tryd.ntmps29
    go_wp2_with (at_builtin; refine Lib.wpList_append_run _ rfl _ _ 24 3 rfl _ _ rfl rfl _ _ (HR.out _) ?_)
    go_ret
    refine ⟨_, rfl, ⟨rfl, .inr ⟨w.heap.size, C, Z, rfl, Nat.le_refl _, heap_alloc_new w _, Nat.zero_le _, HZ.out.2.2, by rw [HZ.out.1, Nat.mul_one], rfl⟩⟩, ?_⟩
    exact ((Below.refl _ w).alloc (Nat.le_refl _) _).drew
/-- several texts put behind a slice of the call's own -/
theorem append_ss {ops : Array Oper} {rest : List Oper} {o : Oper} {a : Act} {Q : Exit → Act → World → Prop} {w : World} (hgd : o.guard = none) (s x : Operand)
    (ho : o.op = .call { callee := .builtin .append, args := #[s, x], argTypes := #[24, 24] })
    (base : Nat) (v : Value) (l news : List ByteArray) (ad : Option Addr) (c : Nat) (hs : a.eval s = v) (hown : OwnS w base v l) (hx : a.eval x = .slice ad news.length c) (hc0 : ad = none → c = 0 ∧ news = [])
    (hv : SSl w ad news) (hl : l.length + news.length ≤ 1000) (hbase : base ≤ w.heap.size)
    (h : ∀ v' w', OwnS w' base v' (l ++ news) → w.grownBy w' v.ownBlock → wpList Tryd.prog ops Q rest (a.put o.dst v') w') :
    wpList Tryd.prog ops Q (o :: rest) a w := by
  obtain ⟨i0, hi, hz0, hz1, hz2⟩ := info_parts infoS
  cases ad with
  | none =>
    obtain ⟨rfl, rfl⟩ := hc0 rfl
    refine wpList_append_own_none hgd s x 24 ho base 9 i0 1 Tryd.underlying24 hi v l.length (Sv l) hs hown hx ?_
    exact h v w (by rw [List.append_nil]; exact hown) (World.grownBy.refl w _)
  | some ad =>
    refine wpList_append_own w hgd s x 24 ho base 9 i0 (.string ⟨#[]⟩) 1 16 Tryd.underlying24 hi hz0 hz1 hz2 rfl (by decide) v l.length (Sv l) hs hown ad news.length c (Sv news) hx (by simp [Sv]) ?_ ?_ (by unfold maxLen; omega) (by omega) hbase ?_
    · intro j u hu
      have hj : j < news.length := by
        have := (List.getElem?_eq_some_iff.1 hu).1
        simpa [Sv] using this
      obtain ⟨b, off, e, -, hc⟩ := hv (by omega)
      cases e
      rw [Addr.add_mid, hc j hj, ← hu]
      simp [Sv, List.getD, hj]
    · intro u hu
      simp only [Sv, List.mem_map] at hu
      obtain ⟨y, -, rfl⟩ := hu
      rfl
    · intro v' w' ho' hg _
      refine h v' w' ?_ hg
      unfold OwnS
      rw [List.length_append]
      simpa [Sv] using ho'
def catN (l m : List ByteArray) : Nat → List ByteArray
  | 0 => []
  | 1 => l
  | _ => l ++ m
def sumN (l m : List ByteArray) : Nat → Nat
  | 0 => 0
  | 1 => l.length
  | _ => l.length + m.length
def C1Rel (W : World) (l m : List ByteArray) (z i : Value) (wr : World) : Prop := ∃ k : Nat, k ≤ 2 ∧ i = .int .i64 (k : Int) ∧ z = .int .i64 (sumN l m k : Int) ∧ W = wr
def C2Rel (n0 base : Nat) (w : World) (l m : List ByteArray) (z i : Value) (wr : World) : Prop := ∃ k : Nat, k ≤ 2 ∧ i = .int .i64 (k : Int) ∧ OwnS wr base z (catN l m k) ∧ Below n0 w wr ∧ base ≤ wr.heap.size
set_option maxHeartbeats 4000000 in
theorem concat_any (a b : Option Addr) (c d : Nat) (l m : List ByteArray) (hl : l.length ≤ 100) (hm : m.length ≤ 100) (ha : a = none → c = 0 ∧ l = []) (hb : b = none → d = 0 ∧ m = []) (A : Nat) (w : World) (hlt : A < w.heap.size)
    (h0 : w.cell? ⟨A, 0, none⟩ = some (.slice a l.length c)) (h1 : w.cell? ⟨A, 1, none⟩ = some (.slice b m.length d)) (hp : SSl w a l) (hq : SSl w b m) :
    Calls Tryd.prog 14 #[.slice (some ⟨A, 0, none⟩) 2 2] w fun e w' => ∃ v, e = .returned v ∧ OwnS w' w.heap.size v (l ++ m) ∧ Below w.heap.size w w' := by
  have HA := Lib.hid (And.intro hlt (And.intro ha hb)); have HP := Lib.hid hp; have HQ := Lib.hid hq
  have HL := Lib.hid (And.intro hl hm)
  have HG := Lib.hid (fun W => grow_any (l.length + m.length) (by omega) W)
  clear hlt ha hb hp hq hl hm
  go_enter Tryd.func14, Tryd.ntmps14
  go_wp2_with fail
  go_loopw [3, 11] (C1Rel w l m) (fun _ i _ => 2 - (intOf i).toNat)
  case atStart => exact ⟨0, by omega, rfl, rfl, rfl⟩
  case round =>
    obtain ⟨k, hk, rfl, rfl, rfl⟩ := hrel
    rcases k with _ | _ | _ | k
    · have hb1 : (l.length : Int) ≤ 100 := by have := HL.out.1; omega
      have hb2 : ¬ (l.length : Int) < 0 := by omega
      simp only [sumN]
      go_wp2_with fail
      exact ⟨⟨1, by omega, rfl, rfl, rfl⟩, by simp [intOf]⟩
    · have hb1 : (l.length : Int) + (m.length : Int) ≤ 200 := by have := HL.out; omega
      have hb2 : ¬ (l.length : Int) + (m.length : Int) < 0 := by omega
      simp only [sumN]
      go_wp2_with fail
      exact ⟨⟨2, by omega, rfl, by simp [sumN], rfl⟩, by simp [intOf]⟩
    · obtain ⟨n, en⟩ : ∃ n, l.length + m.length = n := ⟨_, rfl⟩
      simp only [sumN]
      rw [en] at HG ⊢
      go_wp2_with fail
      refine (HG.out w).mono ?_
      rintro e w1 ⟨v, rfl, ho, hbw⟩
      have HO := Lib.hid ho; have HB := Lib.hid hbw; have H0 := Lib.hid h0; have H1 := Lib.hid h1
      clear ho hbw HG h0 h1
      go_wp2_with fail
      go_loopw [6, 27] (C2Rel w.heap.size w.heap.size w l m) (fun _ i _ => 2 - (intOf i).toNat)
      case atStart => exact ⟨0, by omega, rfl, HO.out, HB.out, HB.out.size⟩
      case round =>
        clear HO HB
        obtain ⟨k, hk, rfl, ho, hB, hsz⟩ := hrel
        rcases k with _ | _ | _ | k
        · have g0 : wr.cell? ⟨A, 0, none⟩ = some (.slice a l.length c) := by rw [hB.cell (p := ⟨A, 0, none⟩) HA.out.1]; exact H0.out
          have hps := HP.out.on hB
          have HO := Lib.hid ho; have HB := Lib.hid hB; have HS := Lib.hid hsz; have HPS := Lib.hid hps
          clear ho hB hsz hps
          go_wp2_with (at_builtin; refine append_ss rfl _ _ rfl w.heap.size _ _ l a c rfl HO.out rfl HA.out.2.1 HPS.out (by have := HL.out; show 0 + _ ≤ 1000; omega) HS.out ?_; intro v' w3 ho3 hg3; have HO3 := Lib.hid ho3; have HB3 := Lib.hid (HB.out.grown hg3 HS.out (fun i hi => (World.ownsRow.lt HO.out i hi).1)); have HS3 := Lib.hid (Nat.le_trans HS.out hg3.size); clear ho3 hg3)
          exact ⟨⟨1, by omega, rfl, HO3.out, HB3.out, HS3.out⟩, by simp [intOf]⟩
        · have g1 : wr.cell? ⟨A, 1, none⟩ = some (.slice b m.length d) := by rw [hB.cell (p := ⟨A, 1, none⟩) HA.out.1]; exact H1.out
          have hps := HQ.out.on hB
          have HO := Lib.hid ho; have HB := Lib.hid hB; have HS := Lib.hid hsz; have HPS := Lib.hid hps
          clear ho hB hsz hps
          go_wp2_with (at_builtin; refine append_ss rfl _ _ rfl w.heap.size _ _ m b d rfl HO.out rfl HA.out.2.2 HPS.out (by have := HL.out; show l.length + _ ≤ 1000; omega) HS.out ?_; intro v' w3 ho3 hg3; have HO3 := Lib.hid ho3; have HB3 := Lib.hid (HB.out.grown hg3 HS.out (fun i hi => (World.ownsRow.lt HO.out i hi).1)); have HS3 := Lib.hid (Nat.le_trans HS.out hg3.size); clear ho3 hg3)
          exact ⟨⟨2, by omega, rfl, HO3.out, HB3.out, HS3.out⟩, by simp [intOf]⟩
        · have HO := Lib.hid ho; have HB := Lib.hid hB
          clear ho hB hsz
          go_wp2_with fail
          go_ret
          exact ⟨_, rfl, HO.out, HB.out⟩
        · omega
    · omega
end Go.Proofs.YtdnjieffbgmagaaDoor

/- Rows of texts that can be read, whoever laid them; two joined. -/
namespace Go.Proofs.YtdnjieffbgmagaaDoor
open Go.RowKit
set_option maxRecDepth 100000
/-- texts that came in, or that lie in a row of the call's own: how a slice of them reads -/
structure Rd9 (w : World) (a : Option Addr) (c : Nat) (l : List ByteArray) : Prop where
  ss : SSl w a l
  cap : l.length ≤ c
  none : a = none → c = 0 ∧ l = []
theorem Rd9.on {w w' : World} {a : Option Addr} {c : Nat} {l : List ByteArray} (h : Rd9 w a c l) (hb : Below w.heap.size w w') : Rd9 w' a c l := ⟨h.ss.on hb, h.cap, h.none⟩
theorem Rd9.take {w : World} {a : Option Addr} {c : Nat} {l : List ByteArray} (h : Rd9 w a c l) (k : Nat) : Rd9 w a c (l.take k) :=
  ⟨h.ss.take k, by rw [List.length_take]; have := h.cap; omega, fun e => by obtain ⟨h1, h2⟩ := h.none e; exact ⟨h1, by rw [h2]; simp⟩⟩
theorem OwnS.rd {w : World} {base : Nat} {v : Value} {l : List ByteArray} (h : OwnS w base v l) : ∃ a c, v = .slice a l.length c ∧ Rd9 w a c l := by
  rcases h.2 with ⟨e, h0⟩ | ⟨g, cap, cur, e, -, hg, hc, -⟩
  · have h1 : l = [] := List.length_eq_zero_iff.1 h0
    subst h1
    exact ⟨none, 0, e, SSl.nil _ _, Nat.le_refl _, fun _ => ⟨rfl, rfl⟩⟩
  · subst e
    refine ⟨_, _, rfl, fun _ => ?_, hc, fun e => by cases e⟩
    obtain ⟨g', off, cap', e, hlt, hcc⟩ := h.strs rfl
    cases e
    exact ⟨_, _, rfl, hlt, hcc⟩
theorem concat_rd (a b : Option Addr) (c d : Nat) (l m : List ByteArray) (hl : l.length ≤ 100) (hm : m.length ≤ 100) (A : Nat) (w : World) (hlt : A < w.heap.size)
    (h0 : w.cell? ⟨A, 0, none⟩ = some (.slice a l.length c)) (h1 : w.cell? ⟨A, 1, none⟩ = some (.slice b m.length d)) (hp : Rd9 w a c l) (hq : Rd9 w b d m) :
    Calls Tryd.prog 14 #[.slice (some ⟨A, 0, none⟩) 2 2] w fun e w' => ∃ a' c', e = .returned (.slice a' (l ++ m).length c') ∧ Rd9 w' a' c' (l ++ m) ∧ Below w.heap.size w w' := by
  refine (concat_any a b c d l m hl hm hp.none hq.none A w hlt h0 h1 hp.ss hq.ss).mono ?_
  rintro e w' ⟨v, rfl, ho, hb⟩
  obtain ⟨a', c', rfl, hr⟩ := ho.rd
  exact ⟨a', c', rfl, hr, hb⟩
end Go.Proofs.YtdnjieffbgmagaaDoor

/- Texts that came in: that they can be read, and how long they may be. -/
namespace Go.Proofs.YtdnjieffbgmagaaDoor
open Go.RowKit Go.ChangeShapes Go.WideShapes Go.Deep
set_option maxRecDepth 100000
theorem cellsStr9 : Tryd.prog.cellsOf 9 = 1 := by kernel_rfl
theorem weights_all {H : Type} (P : Program) (e : TypeId) (L : List (DataW H)) (x : DataW H) (hx : x ∈ L) (n : Nat) (hn : n ∈ x.weights P e) : n ∈ DataW.weightsAll P e L := by
  induction L with
  | nil => cases hx
  | cons d r ih =>
    rw [DataW.weightsAll, List.mem_append]
    rcases List.mem_cons.1 hx with rfl | h
    · exact .inl hn
    · exact .inr (ih h)
theorem open_texts {H : Type} {enc : TypeId × Value → H} {W : World} {r : Reach} {b0 base : Nat} {spare : Nat → Bool} {held : Bool} {v : Value} {d : DataW H} {p : List MemPlace}
    (hval : Value.okWide Tryd.prog W r b0 24 v) (h : DataW.Trod enc Tryd.prog W base spare held 24 v d p) :
    ∃ (a : Option Addr) (c : Nat) (l : List ByteArray), v = .slice a l.length c ∧ l.length ≤ maxLen ∧ Fit l ∧ Rd9 W a c l ∧ ∀ x ∈ l, x.size ∈ d.weights Tryd.prog 24 := by
  obtain ⟨a0, n0, c0, rfl⟩ := okWide_slice Tryd.underlying24 hval
  obtain ⟨fuel, hf⟩ := h
  have hf' : DataW.trod enc Tryd.prog W base spare held fuel 24 [.slice a0 n0 c0] = some (d, p) := by simpa [Value.cells] using hf
  rcases open_strs Tryd.underlying24 Tryd.underlying9 cellsStr9 hf' with ⟨e0, -⟩ | ⟨a, len, cap, m, S, e0, -, hlc, hcm, hmm, hd, hi⟩
  · have e1 : Value.slice a0 n0 c0 = .slice none 0 0 := by simpa using e0
    rw [e1]
    exact ⟨none, 0, [], rfl, Nat.zero_le _, fun k hk => (by cases hk), ⟨SSl.nil _ _, Nat.le_refl _, fun _ => ⟨rfl, rfl⟩⟩, fun x hx => (by cases hx)⟩
  · have e1 : Value.slice a0 n0 c0 = .slice (some a) len cap := by simpa using e0
    rw [e1]
    have hle : len ≤ m := by rw [hmm]; split <;> omega
    obtain ⟨rfl, -⟩ := Prod.mk.inj hd
    refine ⟨some a, cap, (List.range len).map S, by simp, by simp; omega, fun k hk => ?_, ⟨fun hpos => ?_, by simp; exact hlc, fun e => by cases e⟩, fun x hx => ?_⟩
    · rw [List.mem_map] at hk
      obtain ⟨i, hin, rfl⟩ := hk
      exact (hi i (by have := List.mem_range.1 hin; omega)).2
    · simp only [List.length_map, List.length_range] at hpos
      have hc0 := (hi 0 (by omega)).1
      rw [show a.add 0 = a from rfl] at hc0
      obtain ⟨hap, hab⟩ := cell_plain hc0
      refine ⟨a.block, a.off, by rw [← hap], hab, fun i hin => ?_⟩
      simp only [List.length_map, List.length_range] at hin
      have hci := (hi i (by omega)).1
      have hadd : a.add i = ⟨a.block, a.off + i, none⟩ := by rw [hap]; exact Addr.add_mid _ _ _
      rw [hadd] at hci
      rw [hci]
      simp [List.getD, hin]
    · rw [List.mem_map] at hx
      obtain ⟨i, hin, rfl⟩ := hx
      rw [DataW.weights, Tryd.underlying24]
      refine List.mem_cons_of_mem _ (List.mem_append_left _ (weights_all _ _ _ (.lit (.string (S i).data.toList)) (List.mem_map.2 ⟨i, hin, rfl⟩) _ ?_))
      rw [DataW.weights, List.mem_singleton, Array.length_toList]
      rfl
end Go.Proofs.YtdnjieffbgmagaaDoor

/- Chains of keys in plain mathematics: a chain's steps, one behind the other. -/
namespace Go.Proofs.YtdnjieffbgmagaaDoor
open Go.RowKit
set_option maxRecDepth 100000
def stWord : ByteArray := ⟨#[115, 116, 101, 112]⟩
/-- the first of two keys of a secret, by a word -/
def spA (k wd : ByteArray) : ByteArray := strL (lastT (bl k) (bl wd) 1)
/-- the second -/
def spB (k wd : ByteArray) : ByteArray := strL (lastT (bl k) (bl wd) 2)
/-- a chain behind so many steps -/
def runC (c : ByteArray) : Nat → ByteArray
  | 0 => c
  | n + 1 => spA (runC c n) stWord
/-- so many steps of a chain: of each the next chain, and a message's key -/
def stepsL (c : ByteArray) : Nat → List (ByteArray × ByteArray)
  | 0 => []
  | n + 1 => stepsL c n ++ [(spA (runC c n) stWord, spB (runC c n) stWord)]
/-- the keys of so many steps -/
def runK (c : ByteArray) (n : Nat) : List ByteArray := (stepsL c n).map Prod.snd
theorem stepsL_length (c : ByteArray) (n : Nat) : (stepsL c n).length = n := by
  induction n with
  | zero => rfl
  | succ n ih => simp [stepsL, ih]
theorem runK_length (c : ByteArray) (n : Nat) : (runK c n).length = n := by simp [runK, stepsL_length]
theorem runK_succ (c : ByteArray) (n : Nat) : runK c (n + 1) = runK c n ++ [spB (runC c n) stWord] := by simp [runK, stepsL]
end Go.Proofs.YtdnjieffbgmagaaDoor

/- Tables of kept keys in plain mathematics: what may be, a key put, found, taken away. -/
namespace Go.Proofs.YtdnjieffbgmagaaDoor
open Go.RowKit
set_option maxRecDepth 100000
/-- a kept key -/
structure Kk where
  r : ByteArray
  n : Nat
  k : ByteArray
  deriving DecidableEq
def sizedK (x : Kk) : Prop := x.r.size = 32 ∧ x.k.size = 32
instance (x : Kk) : Decidable (sizedK x) := inferInstanceAs (Decidable (_ ∧ _))
/-- is it that ratchet's, of that number? -/
def isK (r : ByteArray) (n : Nat) (x : Kk) : Bool := decide (x.r = r ∧ x.n = n)
/-- the place of a ratchet's number -/
def atK (l : List Kk) (r : ByteArray) (n : Nat) : Option Nat := l.findIdx? (isK r n)
/-- no two of the same ratchet and number -/
def aloneK : List Kk → Prop
  | [] => True
  | x :: l => (∀ y ∈ l, ¬ (x.r = y.r ∧ x.n = y.n)) ∧ aloneK l
structure rightK (l : List Kk) : Prop where
  few : l.length ≤ 20
  sized : ∀ x ∈ l, sizedK x
  alone : aloneK l
def putK (l : List Kk) (x : Kk) : List Kk := (if l.length < 20 then l else l.drop 1) ++ [x]
theorem atK_none {l : List Kk} {r : ByteArray} {n : Nat} : atK l r n = none ↔ ∀ x ∈ l, ¬ (x.r = r ∧ x.n = n) := by
  unfold atK
  rw [List.findIdx?_eq_none_iff]
  constructor
  · intro h x hx e
    have := h x hx
    simp [isK, e] at this
  · intro h x hx
    have := h x hx
    simp only [isK, decide_eq_false_iff_not]
    exact this
theorem aloneK_append {l m : List Kk} : aloneK (l ++ m) ↔ aloneK l ∧ aloneK m ∧ ∀ x ∈ l, ∀ y ∈ m, ¬ (x.r = y.r ∧ x.n = y.n) := by
  induction l with
  | nil => simp [aloneK]
  | cons a l ih =>
    rw [List.cons_append, aloneK, aloneK, ih]
    constructor
    · rintro ⟨h1, h2, h3, h4⟩
      refine ⟨⟨fun y hy => h1 y (List.mem_append_left _ hy), h2⟩, h3, fun x hx y hy => ?_⟩
      rcases List.mem_cons.1 hx with rfl | hx
      · exact h1 y (List.mem_append_right _ hy)
      · exact h4 x hx y hy
    · rintro ⟨⟨h1, h2⟩, h3, h4⟩
      refine ⟨fun y hy => ?_, h2, h3, fun x hx y hy => h4 x (List.mem_cons_of_mem _ hx) y hy⟩
      rcases List.mem_append.1 hy with hy | hy
      · exact h1 y hy
      · exact h4 a List.mem_cons_self y hy
end Go.Proofs.YtdnjieffbgmagaaDoor

/- Kept keys in memory: slices that can be read, slices of the call's own, appends. -/
namespace Go.Proofs.YtdnjieffbgmagaaDoor
open Go.RowKit Go.Sort
set_option maxRecDepth 100000
def k00 : Kk := ⟨⟨#[]⟩, 0, ⟨#[]⟩⟩
def kkv (p : Kk) : Value := .agg #[.string p.r, .int .u64 (p.n : Int), .string p.k]
/-- three cells that are a kept key -/
structure KkAt (w : World) (b o : Nat) (p : Kk) : Prop where
  c0 : w.cell? ⟨b, o, none⟩ = some (.string p.r)
  c1 : w.cell? ⟨b, o + 1, none⟩ = some (.int .u64 (p.n : Int))
  c2 : w.cell? ⟨b, o + 2, none⟩ = some (.string p.k)
theorem KkAt.on {w w' : World} {b o : Nat} {p : Kk} (h : KkAt w b o p) (hb : Below w.heap.size w w') : KkAt w' b o p := by
  have hlt := World.block_lt_of_cell? w _ h.c0
  exact ⟨by rw [hb.cell (p := ⟨b, o, none⟩) hlt]; exact h.c0, by rw [hb.cell (p := ⟨b, o + 1, none⟩) hlt]; exact h.c1, by rw [hb.cell (p := ⟨b, o + 2, none⟩) hlt]; exact h.c2⟩
theorem KkAt.below {w w' : World} {n b o : Nat} {p : Kk} (h : KkAt w b o p) (hb : Below n w w') (hB : b < n) : KkAt w' b o p :=
  ⟨by rw [hb.cell (p := ⟨b, o, none⟩) hB]; exact h.c0, by rw [hb.cell (p := ⟨b, o + 1, none⟩) hB]; exact h.c1, by rw [hb.cell (p := ⟨b, o + 2, none⟩) hB]; exact h.c2⟩
theorem KkAt.fresh (w : World) (p : Kk) (t : TypeId) : KkAt (w.alloc (.cells #[.string p.r, .int .u64 (p.n : Int), .string p.k] t)) w.heap.size 0 p := by
  have hH := heap_alloc_new w (.cells #[.string p.r, .int .u64 (p.n : Int), .string p.k] t)
  exact ⟨by rw [cell_of_row _ _ _ _ _ _ hH]; rfl, by rw [cell_of_row _ _ _ _ _ _ hH]; rfl, by rw [cell_of_row _ _ _ _ _ _ hH]; rfl⟩
/-- a slice of kept keys, nil or not, that reads as l -/
def KSl (w : World) (a : Option Addr) (l : List Kk) : Prop :=
  0 < l.length → ∃ b off : Nat, a = some ⟨b, off, none⟩ ∧ b < w.heap.size ∧ ∀ i, i < l.length → KkAt w b (off + i * 3) (l.getD i k00)
theorem KSl.on {w w' : World} {a : Option Addr} {l : List Kk} (h : KSl w a l) (hb : Below w.heap.size w w') : KSl w' a l := by
  intro h0
  obtain ⟨b, off, ha, hlt, hc⟩ := h h0
  exact ⟨b, off, ha, Nat.lt_of_lt_of_le hlt hb.size, fun i hi => (hc i hi).on hb⟩
theorem KSl.nil (w : World) (a : Option Addr) : KSl w a [] := fun h => absurd h (Nat.lt_irrefl 0)
theorem KSl.take {w : World} {a : Option Addr} {l : List Kk} (h : KSl w a l) (k : Nat) : KSl w a (l.take k) := by
  intro h0
  rw [List.length_take] at h0
  obtain ⟨b, off, ha, hlt, hc⟩ := h (by omega)
  refine ⟨b, off, ha, hlt, fun i hi => ?_⟩
  rw [List.length_take] at hi
  have e : (l.take k).getD i k00 = l.getD i k00 := by
    rw [List.getD_eq_getElem?_getD, List.getD_eq_getElem?_getD, List.getElem?_take, if_pos (by omega)]
  rw [e]; exact hc i (by omega)

def kcs (p : Kk) : List Value := [.string p.r, .int .u64 (p.n : Int), .string p.k]
def Kc (l : List Kk) : List Value := l.flatMap kcs
theorem Kc_cons (p : Kk) (l : List Kk) : Kc (p :: l) = kcs p ++ Kc l := by unfold Kc; rw [List.flatMap_cons]
theorem Kc_append (a b : List Kk) : Kc (a ++ b) = Kc a ++ Kc b := List.flatMap_append
theorem Kc_length (l : List Kk) : (Kc l).length = l.length * 3 := by
  induction l with
  | nil => rfl
  | cons p l ih => rw [Kc_cons, List.length_append, ih, List.length_cons]; simp [kcs]; omega
theorem Kc_get (l : List Kk) (i : Nat) (h : i < l.length) : (Kc l)[i * 3]? = some (.string (l.getD i k00).r) ∧ (Kc l)[i * 3 + 1]? = some (.int .u64 ((l.getD i k00).n : Int)) ∧ (Kc l)[i * 3 + 2]? = some (.string (l.getD i k00).k) := by
  induction l generalizing i with
  | nil => simp at h
  | cons p l ih =>
    rw [Kc_cons]
    rcases i with _ | i
    · simp [kcs]
    · have e : (i + 1) * 3 = (kcs p).length + i * 3 := by simp [kcs]; omega
      have := ih i (by simpa using h)
      rw [e]
      refine ⟨?_, ?_, ?_⟩
      · rw [List.getElem?_append_right (by omega), Nat.add_sub_cancel_left]; simpa using this.1
      · rw [show (kcs p).length + i * 3 + 1 = (kcs p).length + (i * 3 + 1) by omega, List.getElem?_append_right (by omega), Nat.add_sub_cancel_left]; simpa using this.2.1
      · rw [show (kcs p).length + i * 3 + 2 = (kcs p).length + (i * 3 + 2) by omega, List.getElem?_append_right (by omega), Nat.add_sub_cancel_left]; simpa using this.2.2
theorem Kc_one (l : List Kk) : ∀ u ∈ Kc l, u.oneCell' = true := by
  intro u hu
  unfold Kc at hu
  rw [List.mem_flatMap] at hu
  obtain ⟨p, -, hp⟩ := hu
  simp only [kcs, List.mem_cons, List.mem_nil_iff, or_false] at hp
  rcases hp with rfl | rfl | rfl <;> rfl
theorem Kc_at {w : World} {b off : Nat} {l : List Kk} (h : ∀ i, i < l.length → KkAt w b (off + i * 3) (l.getD i k00)) (j : Nat) (u : Value) (hu : (Kc l)[j]? = some u) : w.cell? ⟨b, off + j, none⟩ = some u := by
  have hj : j < l.length * 3 := by
    rw [← Kc_length]
    exact (List.getElem?_eq_some_iff.1 hu).1
  have hi : j / 3 < l.length := by omega
  obtain ⟨g0, g1, g2⟩ := Kc_get l (j / 3) hi
  have hp := h (j / 3) hi
  have h3 : j % 3 = 0 ∨ j % 3 = 1 ∨ j % 3 = 2 := by omega
  rcases h3 with h3 | h3 | h3
  · have e : j = j / 3 * 3 := by omega
    rw [e] at hu
    rw [g0] at hu
    cases hu
    have := hp.c0
    rw [← e] at this
    exact this
  · have e : j = j / 3 * 3 + 1 := by omega
    rw [e, g1] at hu
    cases hu
    have := hp.c1
    rw [Nat.add_assoc, ← e] at this
    exact this
  · have e : j = j / 3 * 3 + 2 := by omega
    rw [e, g2] at hu
    cases hu
    have := hp.c2
    rw [Nat.add_assoc, ← e] at this
    exact this
theorem infoKk : (Tryd.prog.info? 56).map (fun i => (i.zero, i.size, i.bytes)) = some (some (.agg #[.string ⟨#[]⟩, .int .u64 0, .string ⟨#[]⟩]), 3, 40) := by kernel_rfl
/-- a slice of kept keys of the call's own (blocks from base on) that reads as l -/
def OwnK (w : World) (base : Nat) (v : Value) (l : List Kk) : Prop := w.ownsRow base 56 3 v l.length (Kc l)
theorem OwnK.nil (w : World) (base : Nat) : OwnK w base (.slice none 0 0) [] := ⟨rfl, .inl ⟨rfl, rfl⟩⟩
theorem OwnK.alloc {w : World} {base : Nat} {v : Value} {l : List Kk} (h : OwnK w base v l) (o : Obj) : OwnK (w.alloc o) base v l := World.ownsRow.alloc h o
theorem OwnK.on {w w' : World} {base : Nat} {v : Value} {l : List Kk} (h : OwnK w base v l) (hb : Below w.heap.size w w') : OwnK w' base v l := by
  refine ⟨h.1, ?_⟩
  rcases h.2 with h2 | ⟨g, cap, cur, e, hg, hc, h3⟩
  · exact Or.inl h2
  · exact Or.inr ⟨g, cap, cur, e, hg, by rw [hb.block g (Array.getElem?_eq_some_iff.1 hc).1]; exact hc, h3⟩
theorem OwnK.empty (w : World) (base : Nat) (hb : base ≤ w.heap.size) : OwnK (w.alloc (.cells #[] 56)) base (.slice (some ⟨w.heap.size, 0, none⟩) 0 0) [] :=
  ⟨rfl, .inr ⟨w.heap.size, 0, #[], rfl, hb, heap_alloc_new w _, Nat.le_refl _, by unfold maxLen; omega, rfl, rfl⟩⟩
theorem OwnK.below {w w0 w' : World} {base : Nat} {v : Value} {l : List Kk} (h : OwnK w base v l) (hB : Below base w0 w) (hb : base ≤ w.heap.size) (hg : w.grownBy w' v.ownBlock) : Below base w0 w' :=
  hB.grown hg hb fun k hk => (World.ownsRow.lt h k hk).1
/-- what is no row of kept keys stands as it was -/
theorem OwnK.keeps {w w' : World} {base : Nat} {v : Value} {l : List Kk} (h : OwnK w base v l) (hg : w.grownBy w' v.ownBlock) (k : Nat) (cs : Array Value) (t : TypeId) (fr : Nat × Nat) (h1 : w.heap[k]? = some (.cells cs t fr)) (h2 : t ≠ 56) : w'.heap[k]? = some (.cells cs t fr) := by
  rw [hg.block k (Array.getElem?_eq_some_iff.1 h1).1 ?_]
  · exact h1
  · intro e
    rcases h.2 with ⟨rfl, -⟩ | ⟨g, cap, cur, rfl, -, hc, -⟩
    · cases e
    · cases e
      rw [h1] at hc
      cases hc
      exact h2 rfl
/-- append(own, keys...), whether those are none, or nil, or some -/
theorem run_append_ks (w : World) (ty : TypeId) (base : Nat) (v : Value) (l : List Kk) (b : Option Addr) (c : Nat) (m : List Kk) (hown : OwnK w base v l) (hq : KSl w b m) (hl : l.length + m.length ≤ 100000) (hbase : base ≤ w.heap.size) :
    ∃ v' w', (Builtin.append_ #[23, 23] ty #[v, .slice b m.length c]).run Tryd.prog w = .ok v' w' ∧ OwnK w' base v' (l ++ m) ∧ w.grownBy w' v.ownBlock := by
  obtain ⟨i0, hi, hz0, hz1, hz2⟩ := info_parts infoKk
  have hall : ∀ (ad : Addr) (news : List Value), b = some ad → news = Kc m → (∀ j u, news[j]? = some u → w.cell? (ad.add j) = some u) →
      ∃ v' w', (Builtin.append_ #[23, 23] ty #[v, .slice b m.length c]).run Tryd.prog w = .ok v' w' ∧ OwnK w' base v' (l ++ m) ∧ w.grownBy w' v.ownBlock := by
    rintro ad news rfl rfl hnews
    obtain ⟨v', w', hr, h2, h3, -⟩ := run_append_own (P := Tryd.prog) w base 23 ty 56 i0 (.agg #[.string ⟨#[]⟩, .int .u64 0, .string ⟨#[]⟩]) 3 40 Tryd.underlying23 hi hz0 hz1 hz2 rfl (by decide) v l.length (Kc l) hown ad m.length c (Kc m) (Kc_length m) hnews (Kc_one m) (by unfold maxLen; omega) (by omega) hbase
    refine ⟨v', w', hr, ?_, h3⟩
    unfold OwnK
    rw [List.length_append, Kc_append]
    exact h2
  by_cases h0 : 0 < m.length
  · obtain ⟨g, off, rfl, hlt, hc⟩ := hq h0
    exact hall _ _ rfl rfl fun j u hu => by rw [Addr.add_mid]; exact Kc_at hc j u hu
  · obtain rfl : m = [] := List.eq_nil_of_length_eq_zero (by omega)
    cases b with
    | some ad => exact hall ad [] rfl rfl (fun j u hu => by simp at hu)
    | none =>
      refine ⟨v, w, ?_, by rw [List.append_nil]; exact hown, ⟨rfl, rfl, rfl, Nat.le_refl _, fun _ _ _ => rfl⟩⟩
      rcases hown.2 with ⟨rfl, h0⟩ | ⟨g, cap, cur, rfl, hg, hc, hcap, -⟩
      · simp [Builtin.append_, run_underlying Tryd.underlying23, sizeOf, typeInfo, hi, Builtin.lenOf, Builtin.firstCells]
      · simp [Builtin.append_, run_underlying Tryd.underlying23, sizeOf, typeInfo, hi, Builtin.lenOf, Builtin.firstCells, loadCells, hcap, storeCells]
theorem append_ks {ops : Array Oper} {rest : List Oper} {o : Oper} {a : Act} {Q : Exit → Act → World → Prop} {w : World} (hgd : o.guard = none) (s x : Operand)
    (ho : o.op = .call { callee := .builtin .append, args := #[s, x], argTypes := #[23, 23] })
    (base : Nat) (v : Value) (l : List Kk) (b : Option Addr) (n c : Nat) (m : List Kk) (hn : n = m.length) (hs : a.eval s = v) (hx : a.eval x = .slice b n c) (hown : OwnK w base v l) (hq : KSl w b m) (hl : l.length + m.length ≤ 100000) (hbase : base ≤ w.heap.size)
    (h : ∀ v' w', OwnK w' base v' (l ++ m) → w.grownBy w' v.ownBlock → wpList Tryd.prog ops Q rest (a.put o.dst v') w') :
    wpList Tryd.prog ops Q (o :: rest) a w := by
  subst hn
  obtain ⟨v', w', hr, h2, h3⟩ := run_append_ks w o.type base v l b c m hown hq hl hbase
  refine wpList_plain hgd fun K hK => ?_
  unfold Oper.wp execOp
  simp only [ho, resolve, invoke, builtin, Sem.run_bind, Sem.run_pure, Result.andThen_ok, List.map_toArray, List.map_cons, List.map_nil, hs, hx, hr]
  exact hK _ _ (h v' w' h2 h3)
/-- one part that was laid alone -/
theorem KSl.one {w : World} {B : Nat} {p : Kk} (h : KkAt w B 0 p) : KSl w (some ⟨B, 0, none⟩) [p] := fun _ =>
  ⟨B, 0, rfl, World.block_lt_of_cell? w _ h.c0, fun i hi => by
    obtain rfl : i = 0 := by simpa using hi
    exact h⟩
theorem KSl.drop {w : World} {b off : Nat} {l : List Kk} (h : KSl w (some ⟨b, off, none⟩) l) (n : Nat) : KSl w (some ⟨b, off + n * 3, none⟩) (l.drop n) := by
  intro h0
  rw [List.length_drop] at h0
  obtain ⟨b', off', ha, hlt, hc⟩ := h (by omega)
  simp only [Option.some.injEq, Addr.mk.injEq, and_true] at ha
  obtain ⟨rfl, rfl⟩ := ha
  refine ⟨b, off + n * 3, rfl, hlt, fun i hi => ?_⟩
  rw [List.length_drop] at hi
  have e : (l.drop n).getD i k00 = l.getD (n + i) k00 := by simp [List.getD, List.getElem?_drop]
  rw [e, show off + n * 3 + i * 3 = off + (n + i) * 3 by omega]
  exact hc (n + i) (by omega)
end Go.Proofs.YtdnjieffbgmagaaDoor

/- Tables of kept keys: the place of a ratchet's number as a number, whether a table may be as a bool, and both element by element. -/
namespace Go.Proofs.YtdnjieffbgmagaaDoor
open Go.RowKit
set_option maxRecDepth 100000
/-- the place of a ratchet's number; -1: there is none -/
def atI (l : List Kk) (r : ByteArray) (n : Nat) : Int := match atK l r n with
  | some i => (i : Int)
  | none => -1
theorem atI_found (l : List Kk) (r : ByteArray) (n k : Nat) (hk : k < l.length) (h0 : ∀ j, j < k → isK r n (l.getD j k00) = false) (h1 : isK r n (l.getD k k00) = true) : atI l r n = (k : Int) := by
  have e : atK l r n = some k := by
    unfold atK
    rw [List.findIdx?_eq_some_iff_getElem]
    refine ⟨hk, by simpa [List.getD, hk] using h1, fun j hj => ?_⟩
    have := h0 j hj
    simpa [List.getD, show j < l.length by omega] using this
  unfold atI
  rw [e]
theorem atI_none (l : List Kk) (r : ByteArray) (n : Nat) (h0 : ∀ j, j < l.length → isK r n (l.getD j k00) = false) : atI l r n = -1 := by
  have e : atK l r n = none := by
    unfold atK
    rw [List.findIdx?_eq_none_iff]
    intro x hx
    obtain ⟨j, hj, rfl⟩ := List.getElem_of_mem hx
    have := h0 j hj
    simpa [List.getD, hj] using this
  unfold atI
  rw [e]
theorem atI_neg (l : List Kk) (r : ByteArray) (n : Nat) : 0 ≤ atI l r n ↔ atK l r n ≠ none := by
  unfold atI
  cases atK l r n <;> simp
/-- may a table be? -/
def goodAt (l : List Kk) (i : Nat) : Prop := sizedK (l.getD i k00) ∧ atK (l.take i) (l.getD i k00).r (l.getD i k00).n = none
instance (l : List Kk) (i : Nat) : Decidable (goodAt l i) := inferInstanceAs (Decidable (_ ∧ _))
theorem rightK_iff (l : List Kk) : rightK l ↔ l.length ≤ 20 ∧ ∀ i, i < l.length → goodAt l i := by
  have key : ∀ m : List Kk, (aloneK m ↔ ∀ i, i < m.length → atK (m.take i) (m.getD i k00).r (m.getD i k00).n = none) := by
    intro m
    have hsn : ∀ (n : Nat) (m : List Kk), m.length = n → (aloneK m ↔ ∀ i, i < m.length → atK (m.take i) (m.getD i k00).r (m.getD i k00).n = none) := by
      intro n
      induction n with
      | zero => intro m hm; obtain rfl := List.eq_nil_of_length_eq_zero hm; simp [aloneK]
      | succ n ih =>
        intro m hm
        have hne : m ≠ [] := by intro e; subst e; cases hm
        obtain ⟨m0, x, rfl⟩ : ∃ m0 x, m = m0 ++ [x] := ⟨m.dropLast, m.getLast hne, (List.dropLast_concat_getLast hne).symm⟩
        have hl0 : m0.length = n := by rw [List.length_append, List.length_singleton] at hm; omega
        rw [aloneK_append, ih m0 hl0]
        constructor
        · rintro ⟨h1, -, h3⟩ i hi
          rw [List.length_append, List.length_singleton] at hi
          by_cases hin : i < m0.length
          · have := h1 i hin
            rw [List.take_append_of_le_length (by omega)]
            simpa [List.getD, List.getElem?_append_left hin] using this
          · obtain rfl : i = m0.length := by omega
            rw [List.take_left' rfl]
            have e : (m0 ++ [x]).getD m0.length k00 = x := by simp [List.getD]
            rw [e, atK_none]
            exact fun y hy => fun ⟨e1, e2⟩ => h3 y hy x (List.mem_singleton.2 rfl) ⟨e1, e2⟩
        · intro h
          refine ⟨fun i hi => ?_, ⟨fun y hy => absurd hy List.not_mem_nil, trivial⟩, fun y hy z hz => ?_⟩
          · have := h i (by rw [List.length_append]; omega)
            rw [List.take_append_of_le_length (by omega)] at this
            simpa [List.getD, List.getElem?_append_left hi] using this
          · rw [List.mem_singleton.1 hz]
            have := h m0.length (by rw [List.length_append, List.length_singleton]; omega)
            rw [List.take_left' rfl] at this
            have e : (m0 ++ [x]).getD m0.length k00 = x := by simp [List.getD]
            rw [e, atK_none] at this
            exact this y hy
    exact hsn m.length m rfl
  constructor
  · rintro ⟨h1, h2, h3⟩
    refine ⟨h1, fun i hi => ⟨h2 _ ?_, (key l).1 h3 i hi⟩⟩
    have e : l.getD i k00 = l[i] := by simp [List.getD, hi]
    rw [e]; exact List.getElem_mem hi
  · rintro ⟨h1, h2⟩
    refine ⟨h1, fun x hx => ?_, (key l).2 fun i hi => (h2 i hi).2⟩
    obtain ⟨i, hi, rfl⟩ := List.getElem_of_mem hx
    have := (h2 i hi).1
    have e : l.getD i k00 = l[i] := by simp [List.getD, hi]
    rw [e] at this; exact this
instance (l : List Kk) : Decidable (rightK l) := decidable_of_iff _ (rightK_iff l).symm
end Go.Proofs.YtdnjieffbgmagaaDoor

/- Tables of kept keys in plain mathematics: a table filled, of a chain. -/
namespace Go.Proofs.YtdnjieffbgmagaaDoor
open Go.RowKit
set_option maxRecDepth 100000
/-- a table filled with so many keys of a chain, from a number on -/
def fillK (l : List Kk) (r c : ByteArray) (f : Nat) : Nat → List Kk
  | 0 => l
  | m + 1 => putK (fillK l r c f m) ⟨r, f + m, spB (runC c m) stWord⟩
/-- none of a ratchet's numbers is there -/
def freeK (l : List Kk) (r : ByteArray) (f m : Nat) : Prop := ∀ i, i < m → atK l r (f + i) = none
end Go.Proofs.YtdnjieffbgmagaaDoor
