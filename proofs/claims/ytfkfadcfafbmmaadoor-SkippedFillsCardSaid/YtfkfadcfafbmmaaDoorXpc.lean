/- slices.Concat of two rows of kept keys; skipped's without. -/
import Derived.Test.YtfkfadcfafbmmaaDoorXpb
import Derived.Lib.AppendZeros
import Derived.Laws.AppendOwnNone
namespace Go.Proofs.YtfkfadcfafbmmaaDoor
open Go.RowKit Go.Sort
set_option maxRecDepth 100000

/-- slices.Grow of nothing -/
theorem growK_any (n : Nat) (hn : n ≤ 1000) (w : World) :
    Calls Tryd.prog 43 #[.slice none 0 0, .int .i64 (n : Int)] w fun e w' => ∃ v, e = .returned v ∧ OwnK w' w.heap.size v [] ∧ Below w.heap.size w w' := by
  by_cases h0 : n = 0
  · subst h0
    go_enter Tryd.func43, Tryd.ntmps43
    go_wp2_with fail
    go_ret
    exact ⟨_, rfl, ⟨rfl, .inl ⟨rfl, rfl⟩⟩, Below.refl _ _⟩
  · obtain ⟨i0, hi, hz0, hz1, hz2⟩ := info_parts infoKk
    have hrun := fun ty => Lib.run_append_nil_zeros (P := Tryd.prog) w 22 3 ty 47 i0 (.agg #[.string ⟨#[]⟩, .int .u64 0, .string ⟨#[]⟩]) .i64 .i64 Tryd.underlying22 Tryd.underlying3 hi hz0 n (by omega) (by omega) (by omega) (by rw [hz2]; omega)
    obtain ⟨C, eC⟩ : ∃ C, grownCap w n 0 47 = C := ⟨_, rfl⟩
    have hCn : n ≤ C := by rw [← eC]; exact grownCap_ge _ _ _ _
    have hCm : C ≤ maxLen := by rw [← eC]; exact grownCap_le_maxLen _ _ _ _ (by unfold maxLen; omega)
    rw [eC] at hrun
    obtain ⟨Z, eZ⟩ : ∃ Z : Array Value, Builtin.zeroCells (Value.agg #[.string ⟨#[]⟩, .int .u64 0, .string ⟨#[]⟩]).cells n ++ Builtin.zeroCells (Value.agg #[.string ⟨#[]⟩, .int .u64 0, .string ⟨#[]⟩]).cells (C - n) = Z := ⟨_, rfl⟩
    have hZ : Z.size = C * 3 := by
      rw [← eZ, Array.size_append, size_zeroCells, size_zeroCells]
      show n * 3 + (C - n) * 3 = C * 3
      omega
    rw [eZ] at hrun
    have h1 : (0 : Int) < (n : Int) := by omega
    have h2 : ¬ (n : Int) < 0 := by omega
    have HR := Lib.hid hrun
    have HZ := Lib.hid (And.intro hZ (And.intro hCn hCm))
    clear hi hz0 hz1 hz2 eC hCn hCm eZ hZ hrun
    go_enter Tryd.func43, Tryd.ntmps43
    go_wp2_with (at_builtin; refine Lib.wpList_append_run _ rfl _ _ 22 3 rfl _ _ rfl rfl _ _ (HR.out _) ?_)
    go_ret
    refine ⟨_, rfl, ⟨rfl, .inr ⟨w.heap.size, C, Z, rfl, Nat.le_refl _, heap_alloc_new w _, Nat.zero_le _, HZ.out.2.2, HZ.out.1, rfl⟩⟩, ?_⟩
    exact ((Below.refl _ w).alloc (Nat.le_refl _) _).drew
def catK (l m : List Kk) : Nat → List Kk
  | 0 => []
  | 1 => l
  | _ => l ++ m
def sumK (l m : List Kk) : Nat → Nat
  | 0 => 0
  | 1 => l.length
  | _ => l.length + m.length
def C1RelK (W : World) (l m : List Kk) (z i : Value) (wr : World) : Prop := ∃ k : Nat, k ≤ 2 ∧ i = .int .i64 (k : Int) ∧ z = .int .i64 (sumK l m k : Int) ∧ W = wr
def C2RelK (n0 base : Nat) (w : World) (l m : List Kk) (z i : Value) (wr : World) : Prop := ∃ k : Nat, k ≤ 2 ∧ i = .int .i64 (k : Int) ∧ OwnK wr base z (catK l m k) ∧ Below n0 w wr ∧ base ≤ wr.heap.size
set_option maxHeartbeats 4000000 in
theorem concatK_any (a b : Option Addr) (c d : Nat) (l m : List Kk) (hl : l.length ≤ 100) (hm : m.length ≤ 100) (A : Nat) (w : World) (hlt : A < w.heap.size)
    (h0 : w.cell? ⟨A, 0, none⟩ = some (.slice a l.length c)) (h1 : w.cell? ⟨A, 1, none⟩ = some (.slice b m.length d)) (hp : KSl w a l) (hq : KSl w b m) :
    Calls Tryd.prog 37 #[.slice (some ⟨A, 0, none⟩) 2 2] w fun e w' => ∃ v, e = .returned v ∧ OwnK w' w.heap.size v (l ++ m) ∧ Below w.heap.size w w' := by
  have HA := Lib.hid hlt; have HP := Lib.hid hp; have HQ := Lib.hid hq
  have HL := Lib.hid (And.intro hl hm)
  have HG := Lib.hid (fun W => growK_any (l.length + m.length) (by omega) W)
  clear hlt hp hq hl hm
  go_enter Tryd.func37, Tryd.ntmps37
  go_wp2_with fail
  go_loopw [3, 11] (C1RelK w l m) (fun _ i _ => 2 - (intOf i).toNat)
  case atStart => exact ⟨0, by omega, rfl, rfl, rfl⟩
  case round =>
    obtain ⟨k, hk, rfl, rfl, rfl⟩ := hrel
    rcases k with _ | _ | _ | k
    · have hb1 : (l.length : Int) ≤ 100 := by have := HL.out.1; omega
      have hb2 : ¬ (l.length : Int) < 0 := by omega
      simp only [sumK]
      go_wp2_with fail
      exact ⟨⟨1, by omega, rfl, rfl, rfl⟩, by simp [intOf]⟩
    · have hb1 : (l.length : Int) + (m.length : Int) ≤ 200 := by have := HL.out; omega
      have hb2 : ¬ (l.length : Int) + (m.length : Int) < 0 := by omega
      simp only [sumK]
      go_wp2_with fail
      exact ⟨⟨2, by omega, rfl, by simp [sumK], rfl⟩, by simp [intOf]⟩
    · obtain ⟨n, en⟩ : ∃ n, l.length + m.length = n := ⟨_, rfl⟩
      simp only [sumK]
      rw [en] at HG ⊢
      go_wp2_with fail
      refine (HG.out w).mono ?_
      rintro e w1 ⟨v, rfl, ho, hbw⟩
      have HO := Lib.hid ho; have HB := Lib.hid hbw; have H0 := Lib.hid h0; have H1 := Lib.hid h1
      clear ho hbw HG h0 h1
      go_wp2_with fail
      go_loopw [6, 27] (C2RelK w.heap.size w.heap.size w l m) (fun _ i _ => 2 - (intOf i).toNat)
      case atStart => exact ⟨0, by omega, rfl, HO.out, HB.out, HB.out.size⟩
      case round =>
        clear HO HB
        obtain ⟨k, hk, rfl, ho, hB, hsz⟩ := hrel
        rcases k with _ | _ | _ | k
        · have g0 : wr.cell? ⟨A, 0, none⟩ = some (.slice a l.length c) := by rw [hB.cell (p := ⟨A, 0, none⟩) HA.out]; exact H0.out
          have hps := HP.out.on hB
          have HO := Lib.hid ho; have HB := Lib.hid hB; have HS := Lib.hid hsz; have HPS := Lib.hid hps
          clear ho hB hsz hps
          go_wp2_with (at_builtin; refine append_ks rfl _ _ rfl w.heap.size _ _ a l.length c l rfl rfl rfl HO.out HPS.out (by have := HL.out; show 0 + _ ≤ 100000; omega) HS.out ?_; intro v' w3 ho3 hg3; have HO3 := Lib.hid ho3; have HB3 := Lib.hid (HB.out.grown hg3 HS.out (fun i hi => (World.ownsRow.lt HO.out i hi).1)); have HS3 := Lib.hid (Nat.le_trans HS.out hg3.size); clear ho3 hg3)
          exact ⟨⟨1, by omega, rfl, HO3.out, HB3.out, HS3.out⟩, by simp [intOf]⟩
        · have g1 : wr.cell? ⟨A, 1, none⟩ = some (.slice b m.length d) := by rw [hB.cell (p := ⟨A, 1, none⟩) HA.out]; exact H1.out
          have hps := HQ.out.on hB
          have HO := Lib.hid ho; have HB := Lib.hid hB; have HS := Lib.hid hsz; have HPS := Lib.hid hps
          clear ho hB hsz hps
          go_wp2_with (at_builtin; refine append_ks rfl _ _ rfl w.heap.size _ _ b m.length d m rfl rfl rfl HO.out HPS.out (by have := HL.out; show l.length + _ ≤ 100000; omega) HS.out ?_; intro v' w3 ho3 hg3; have HO3 := Lib.hid ho3; have HB3 := Lib.hid (HB.out.grown hg3 HS.out (fun i hi => (World.ownsRow.lt HO.out i hi).1)); have HS3 := Lib.hid (Nat.le_trans HS.out hg3.size); clear ho3 hg3)
          exact ⟨⟨2, by omega, rfl, HO3.out, HB3.out, HS3.out⟩, by simp [intOf]⟩
        · have HO := Lib.hid ho; have HB := Lib.hid hB
          clear ho hB hsz
          go_wp2_with fail
          go_ret
          exact ⟨_, rfl, HO.out, HB.out⟩
        · omega
    · omega
theorem erase_cat (l : List Kk) (i : Nat) : withoutK l i = l.take i ++ l.drop (i + 1) := List.eraseIdx_eq_take_drop_succ ..
set_option maxHeartbeats 2000000 in
theorem without_in (g off c : Nat) (l : List Kk) (i n : Nat) (hn : l.length = n) (hi : i < n) (hl : n ≤ 100) (hlc : n ≤ c) (hc : c ≠ i + 1) (w : World) (hp : KSl w (some ⟨g, off, none⟩) l) :
    Calls Tryd.prog 31 #[.slice (some ⟨g, off, none⟩) n c, .int .i64 (i : Int)] w fun e w' => ∃ v, e = .returned v ∧ OwnK w' w.heap.size v (withoutK l i) ∧ Below w.heap.size w w' := by
  have h4 : (i : Int) ≤ 100 := by omega
  have h5 : IntKind.i64.wrap ((i : Int) + 1) = (i : Int) + 1 := by rw [IntKind.wrap_i64]; omega
  have h6 : ((i : Int) + 1).toNat = i + 1 := by omega
  have h7 : (0 : Int) ≤ (i : Int) + 1 := by omega
  have h8 : (i : Int) ≤ (i : Int) + 1 := by omega
  have h0 : (i : Int) ≤ (n : Int) := by omega
  have h1 : (i : Int) + 1 ≤ (n : Int) := by omega
  have h2 : (i : Int) ≤ (c : Int) := by omega
  have h3 : (n : Int) ≤ (c : Int) := by omega
  have hlt : (l.take i).length = i := by rw [List.length_take]; omega
  have hld : (l.drop (i + 1)).length = (n - (i + 1)) := by rw [List.length_drop]; omega
  rw [erase_cat]
  have hb : Below w.heap.size w (w.alloc (.cells #[.slice (some ⟨g, off, none⟩) i c, .slice (some ⟨g, off + (i + 1) * 3, none⟩) (n - (i + 1)) (c - (i + 1))] 22)).drew := ((Below.refl _ _).alloc (Nat.le_refl _) _).drew
  have hH : (w.alloc (.cells #[.slice (some ⟨g, off, none⟩) i c, .slice (some ⟨g, off + (i + 1) * 3, none⟩) (n - (i + 1)) (c - (i + 1))] 22)).drew.heap[w.heap.size]? = some (.cells #[.slice (some ⟨g, off, none⟩) i c, .slice (some ⟨g, off + (i + 1) * 3, none⟩) (n - (i + 1)) (c - (i + 1))] 22) := heap_alloc_new w _
  have hp' := hp.on hb
  have hC := concatK_any (some ⟨g, off, none⟩) (some ⟨g, off + (i + 1) * 3, none⟩) (c) ((c - (i + 1))) (l.take i) (l.drop (i + 1)) (by omega) (by omega) w.heap.size _ (Array.getElem?_eq_some_iff.1 hH).1 (by rw [cell_of_row _ _ _ _ _ _ hH, hlt]; rfl) (by rw [cell_of_row _ _ _ _ _ _ hH, hld]; rfl) (hp'.take i) (hp'.drop (i + 1))
  have HC := Lib.hid hC; have HB := Lib.hid hb
  clear hC hp hlt hld hH hb hp'
  go_enter Tryd.func31, Tryd.ntmps31
  go_upto_region 1 with fail
  go_region_held3 (fun w' : World => Below w.heap.size w w')
    (first | exact HF.out.2 | exact HB.out | exact (Below.refl _ _).drew | exact Below.refl _ _)
    (first
      | (go_at_call 37; refine HC.out.mono ?_; rintro e w' ⟨v, rfl, hO, hb⟩; have HF := Lib.hid (And.intro (hO.mono HB.out.size) (HB.out.trans (hb.mono HB.out.size))); clear hO hb))
  clear HC HB
  go_wp2_with fail
  go_ret
  exact ⟨_, rfl, HF.out.1, HF.out.2⟩
set_option maxHeartbeats 2000000 in
theorem without_end (g off c : Nat) (l : List Kk) (i n : Nat) (hn : l.length = n) (hi : i < n) (hl : n ≤ 100) (hlc : n ≤ c) (hc : c = i + 1) (w : World) (hp : KSl w (some ⟨g, off, none⟩) l) :
    Calls Tryd.prog 31 #[.slice (some ⟨g, off, none⟩) n c, .int .i64 (i : Int)] w fun e w' => ∃ v, e = .returned v ∧ OwnK w' w.heap.size v (withoutK l i) ∧ Below w.heap.size w w' := by
  obtain rfl : n = i + 1 := by omega
  subst hc
  have h4 : (i : Int) ≤ 100 := by omega
  have h5 : IntKind.i64.wrap ((i : Int) + 1) = (i : Int) + 1 := by rw [IntKind.wrap_i64]; omega
  have h6 : ((i : Int) + 1).toNat = i + 1 := by omega
  have h7 : (0 : Int) ≤ (i : Int) + 1 := by omega
  have h8 : (i : Int) ≤ (i : Int) + 1 := by omega
  have hlt : (l.take i).length = i := by rw [List.length_take]; omega
  have hld : (l.drop (i + 1)).length = 0 := by rw [List.length_drop]; omega
  rw [erase_cat]
  have hb : Below w.heap.size w (w.alloc (.cells #[.slice (some ⟨g, off, none⟩) i (i + 1), .slice (some ⟨g, off, none⟩) 0 0] 22)).drew := ((Below.refl _ _).alloc (Nat.le_refl _) _).drew
  have hH : (w.alloc (.cells #[.slice (some ⟨g, off, none⟩) i (i + 1), .slice (some ⟨g, off, none⟩) 0 0] 22)).drew.heap[w.heap.size]? = some (.cells #[.slice (some ⟨g, off, none⟩) i (i + 1), .slice (some ⟨g, off, none⟩) 0 0] 22) := heap_alloc_new w _
  have hp' := hp.on hb
  have hC := concatK_any (some ⟨g, off, none⟩) (some ⟨g, off, none⟩) ((i + 1)) (0) (l.take i) (l.drop (i + 1)) (by omega) (by omega) w.heap.size _ (Array.getElem?_eq_some_iff.1 hH).1 (by rw [cell_of_row _ _ _ _ _ _ hH, hlt]; rfl) (by rw [cell_of_row _ _ _ _ _ _ hH, hld]; rfl) (hp'.take i) (by rw [List.drop_of_length_le (by omega)]; exact KSl.nil _ _)
  have HC := Lib.hid hC; have HB := Lib.hid hb
  clear hC hp hlt hld hH hb hp'
  go_enter Tryd.func31, Tryd.ntmps31
  go_upto_region 1 with fail
  go_region_held3 (fun w' : World => Below w.heap.size w w')
    (first | exact HF.out.2 | exact HB.out | exact (Below.refl _ _).drew | exact Below.refl _ _)
    (first
      | (go_at_call 37; refine HC.out.mono ?_; rintro e w' ⟨v, rfl, hO, hb⟩; have HF := Lib.hid (And.intro (hO.mono HB.out.size) (HB.out.trans (hb.mono HB.out.size))); clear hO hb))
  clear HC HB
  go_wp2_with fail
  go_ret
  exact ⟨_, rfl, HF.out.1, HF.out.2⟩
theorem without_any (a : Option Addr) (c : Nat) (l : List Kk) (i : Nat) (hi : i < l.length) (hl : l.length ≤ 100) (hlc : l.length ≤ c) (w : World) (hp : KSl w a l) :
    Calls Tryd.prog 31 #[.slice a l.length c, .int .i64 (i : Int)] w fun e w' => ∃ v, e = .returned v ∧ OwnK w' w.heap.size v (withoutK l i) ∧ Below w.heap.size w w' := by
  rcases hp.cut with h | ⟨g, off, rfl, -⟩
  · rw [h] at hi; cases hi
  by_cases hc : c = i + 1
  · exact without_end g off c l i _ rfl hi hl hlc hc w hp
  · exact without_in g off c l i _ rfl hi hl hlc hc w hp
end Go.Proofs.YtfkfadcfafbmmaaDoor
