/- skipped's hasAny, slices.Clone of kept keys, filled. -/
import Derived.Test.YtfkfadcfafbmmaaDoorXpb
import Derived.Test.YtfkfadcfafbmmaaDoorXpd
import Derived.Test.YtfkfadcfafbmmaaDoorBg15
import Derived.Test.YtfkfadcfafbmmaaDoorBg11
namespace Go.Proofs.YtfkfadcfafbmmaaDoor
open Go.RowKit Go.Sort
set_option maxRecDepth 100000

/-- is one of the numbers there, from the first on, ahead of so many? -/
def AnyRelK (w : World) (l : List Kk) (r : ByteArray) (f m : Nat) (i : Value) (wr : World) : Prop :=
  ∃ k : Nat, k ≤ m ∧ i = .int .u64 ((f + k : Nat) : Int) ∧ (∀ j, j < k → atK l r (f + j) = none) ∧ Below w.heap.size w wr
set_option maxHeartbeats 2000000 in
theorem hasAny_any (a : Option Addr) (c : Nat) (l : List Kk) (r : ByteArray) (f m : Nat) (hl : l.length ≤ 1000) (hfm : f + m < 18446744073709551616) (w : World) (hp : KSl w a l) :
    Calls Tryd.prog 14 #[.slice a l.length c, .string r, .int .u64 (f : Int), .int .u64 ((f + m : Nat) : Int)] w fun e w' => e = .returned (.bool (!decide (freeK l r f m))) ∧ Below w.heap.size w w' := by
  have hY := fun (n : Nat) (h : atK l r n ≠ none) (W : World) (hW : KSl W a l) => has_yes a c l r n hl h W hW
  have hN := fun (n : Nat) (h : atK l r n = none) (W : World) (hW : KSl W a l) => has_no a c l r n hl h W hW
  have HP := Lib.hid hp; have HY := Lib.hid hY; have HN := Lib.hid hN; have HF := Lib.hid hfm
  clear hp hl hY hN
  obtain ⟨t, et⟩ : ∃ t, f + m = t := ⟨_, rfl⟩
  rw [et]
  have HT := Lib.hid et
  clear et hfm
  go_enter Tryd.func14, Tryd.ntmps14
  go_wp2_with fail
  go_loopw [9] (fun i wr => AnyRelK w l r f m i wr) (fun i _ => t - (intOf i).toNat)
  case atStart => exact ⟨0, Nat.zero_le _, by simp, fun j hj => absurd hj (Nat.not_lt_zero j), Below.refl _ _⟩
  case round =>
    obtain ⟨k, hk, rfl, hno, hB⟩ := hrel
    by_cases hlt : k < m
    · have hnt : f + k < t := by have := HT.out; omega
      obtain ⟨n, en⟩ : ∃ n, f + k = n := ⟨_, rfl⟩
      rw [en] at hnt ⊢
      have h1 : (n : Int) < (t : Int) := by omega
      have h2 : IntKind.u64.wrap ((n : Int) + 1) = ((n + 1 : Nat) : Int) := by
        have := HF.out; have := HT.out
        rw [IntWalk.u64_in _ (by omega)]; omega
      have HE := Lib.hid en; have HB := Lib.hid hB; have HO := Lib.hid hno
      clear en hB hno hnt
      by_cases hat : atK l r n = none
      · have HH := Lib.hid (HN.out n hat _ (HP.out.on HB.out))
        have HA := Lib.hid hat
        clear hat HY HN
        go_wp2_with fail
        refine HH.out.mono ?_
        rintro e w1 ⟨rfl, hb⟩
        have HB2 := Lib.hid (HB.out.trans (hb.mono HB.out.size))
        clear hb HB HH
        go_wp2_with fail
        refine ⟨⟨k + 1, by omega, by rw [← Nat.add_assoc, HE.out]; simp, fun j hj => ?_, HB2.out⟩, by simp [intOf]; omega⟩
        by_cases e : j = k
        · subst e; rw [HE.out]; exact HA.out
        · exact HO.out j (by omega)
      · have HH := Lib.hid (HY.out n hat _ (HP.out.on HB.out))
        have HA := Lib.hid (show (!decide (freeK l r f m)) = true by rw [decide_eq_false (show ¬ freeK l r f m from fun h => hat (by rw [← HE.out]; exact h k hlt))]; rfl)
        clear hat HY HN
        go_wp2_with fail
        refine HH.out.mono ?_
        rintro e w1 ⟨rfl, hb⟩
        have HB2 := Lib.hid (HB.out.trans (hb.mono HB.out.size))
        clear hb HB HH
        go_wp2_with fail
        go_ret
        exact ⟨by rw [HA.out]; rfl, HB2.out⟩
    · obtain rfl : k = m := by omega
      rw [show f + k = t from HT.out]
      have hn : ¬ (t : Int) < (t : Int) := by omega
      have HA := Lib.hid (show (!decide (freeK l r f k)) = false by rw [decide_eq_true (show freeK l r f k from fun i hi => hno i hi)]; rfl)
      have HB := Lib.hid hB
      clear hB hno
      go_wp2_with fail
      go_ret
      exact ⟨by rw [HA.out]; rfl, HB.out⟩
theorem eqlK_nil (n c : Nat) (W : World) : (binOp .eql 22 (.slice none n c) (.slice none 0 0)).run Tryd.prog W = .ok (.bool true) W := by rfl
theorem eqlK_some (ad : Addr) (n c : Nat) (W : World) : (binOp .eql 22 (.slice (some ad) n c) (.slice none 0 0)).run Tryd.prog W = .ok (.bool false) W := by rfl
set_option maxHeartbeats 2000000 in
theorem CloneK_any (a : Option Addr) (c : Nat) (l : List Kk) (hl : l.length ≤ 1000) (w : World) (hp : KSl w a l) :
    Calls Tryd.prog 28 #[.slice a l.length c] w fun e w' => ∃ v, e = .returned v ∧ OwnK w' w.heap.size v l ∧ Below w.heap.size w w' := by
  cases a with
  | none =>
    rcases hp.cut with h | ⟨b, off, h, -⟩
    · subst h
      have q := fun W => eqlK_nil 0 c W
      clear hp hl
      go_enter Tryd.func28, Tryd.ntmps28
      go_wp2_with fail
      go_ret
      exact ⟨_, rfl, OwnK.nil _ _, Below.refl _ _⟩
    · cases h
  | some ad =>
    have hO := OwnK.empty w w.heap.size (Nat.le_refl _)
    have hB : Below w.heap.size w (w.alloc (.cells #[] 47)) := by go_grown
    have hks := hp.on hB
    have HO := Lib.hid hO; have HB := Lib.hid hB; have HK := Lib.hid hks; have HL := Lib.hid hl
    have q := fun W => eqlK_some ad l.length c W
    clear hO hB hks hp hl
    go_enter Tryd.func28, Tryd.ntmps28
    go_wp2_with (at_builtin; refine append_ks rfl _ _ rfl w.heap.size _ [] (some ad) l.length c l rfl rfl rfl HO.out HK.out (by have := HL.out; simp; omega) HB.out.size ?_)
    intro v' w' hO' hg'
    have HF := Lib.hid (And.intro hO' (OwnK.belowS HO.out HB.out (Nat.le_refl _) HB.out.size hg'))
    clear hO' hg' HO HB HK
    go_wp2_with fail
    go_ret
    exact ⟨_, rfl, HF.out.1, HF.out.2⟩
theorem runK_getD (c : ByteArray) (n k : Nat) (h : k < n) : (runK c n).getD k ⟨#[]⟩ = spB (runC c k) stWord := by
  induction n with
  | zero => omega
  | succ n ih =>
    rw [runK_succ]
    by_cases hk : k < n
    · rw [← ih hk]
      simp [List.getD, List.getElem?_append_left (show k < (runK c n).length by rw [runK_length]; exact hk)]
    · obtain rfl : k = n := by omega
      simp [List.getD, runK_length]
/-- texts of the call's own can be read -/
theorem OwnS.readK {w : World} {base : Nat} {v : Value} {l : List ByteArray} (h : OwnS w base v l) : ∃ (a : Option Addr) (c : Nat), v = .slice a l.length c ∧ SSl w a l := by
  rcases h.2 with ⟨e, h0⟩ | ⟨g, cap, cur, e, -⟩
  · have h1 : l = [] := List.length_eq_zero_iff.1 h0
    subst h1
    exact ⟨none, 0, e, fun h => absurd h (Nat.lt_irrefl 0)⟩
  · subst e
    refine ⟨_, _, rfl, fun _ => ?_⟩
    obtain ⟨g', off, cap', e, hlt, hcc⟩ := h.strs rfl
    cases e
    exact ⟨_, _, rfl, hlt, hcc⟩
theorem fillK_length20 (l : List Kk) (r c : ByteArray) (f m : Nat) (hl : l.length ≤ 20) : (fillK l r c f m).length ≤ 20 := by
  induction m with
  | zero => exact hl
  | succ m ih => exact putK_length _ _ 20 (by omega) ih
def FilledRel (w : World) (l : List Kk) (r c : ByteArray) (f n : Nat) (o i : Value) (wr : World) : Prop :=
  ∃ k : Nat, k ≤ n ∧ i = .int .i64 (k : Int) ∧ OwnK wr w.heap.size o (fillK l r c f k) ∧ Below w.heap.size w wr
set_option maxHeartbeats 4000000 in
theorem filled_any (a : Option Addr) (ca : Nat) (l : List Kk) (r c : ByteArray) (f n : Nat) (hl : l.length ≤ 20) (hfn : f + n < 18446744073709551616) (hn : n ≤ 64) (b : Option Addr) (cb : Nat) (w : World) (hp : KSl w a l) (hq : SSl w b (runK c n)) :
    Calls Tryd.prog 16 #[.slice a l.length ca, .string r, .int .u64 (f : Int), .slice b n cb] w fun e w' => ∃ v, e = .returned v ∧ OwnK w' w.heap.size v (fillK l r c f n) ∧ Below w.heap.size w w' := by
  have HC := Lib.hid (CloneK_any a ca l (by omega) w hp)
  have HQ := Lib.hid hq; have HL := Lib.hid (And.intro hl (And.intro hfn hn))
  clear hp hq hl hfn hn
  go_enter Tryd.func16, Tryd.ntmps16
  go_wp2_with fail
  refine HC.out.mono ?_
  rintro e w1 ⟨v, rfl, hO, hb⟩
  have HO := Lib.hid hO; have HB := Lib.hid hb
  clear hO hb HC
  go_wp2_with fail
  go_loopw [9, 16] (fun o i wr => FilledRel w l r c f n o i wr) (fun _ i _ => n - (intOf i).toNat)
  case atStart => exact ⟨0, Nat.zero_le _, rfl, HO.out, HB.out⟩
  case round =>
    clear HO HB
    obtain ⟨k, hk, rfl, hO, hB⟩ := hrel
    by_cases hlt : k < n
    · have h1 : (k : Int) < (n : Int) := by omega
      have h1k : (k : Int) < 1000 := by have := HL.out; omega
      have h2 : IntKind.u64.wrap (k : Int) = (k : Int) := by rw [IntWalk.u64_in _ (by omega)]
      have h3 : IntKind.u64.wrap ((f : Int) + (k : Int)) = ((f + k : Nat) : Int) := by
        have := HL.out.2.1
        rw [IntWalk.u64_in _ (by omega)]; omega
      obtain ⟨g, off, rfl, hbl, hc⟩ := HQ.out (by rw [runK_length]; omega)
      have c0 := hc k (by rw [runK_length]; exact hlt)
      rw [runK_getD c n k hlt] at c0
      have c1 : wr.cell? ⟨g, off + k, none⟩ = some (.string (spB (runC c k) stWord)) := by rw [hB.cell (p := ⟨g, off + k, none⟩) hbl]; exact c0
      have hst : fillK l r c f (k + 1) = putK (fillK l r c f k) ⟨r, f + k, spB (runC c k) stWord⟩ := rfl
      have hlen := fillK_length20 l r c f k HL.out.1
      obtain ⟨K, eK⟩ : ∃ K, spB (runC c k) stWord = K := ⟨_, rfl⟩
      rw [eK] at c1 hst
      obtain ⟨L, eL⟩ : ∃ L, fillK l r c f k = L := ⟨_, rfl⟩
      rw [eL] at hst hlen hO
      obtain ⟨m, em⟩ : ∃ m, f + k = m := ⟨_, rfl⟩
      rw [em] at h3 hst
      obtain ⟨a', c', rfl, hlc', hks⟩ := hO.ksl
      have hW := with_any a' c' L ⟨r, m, K⟩ hlen hlc' wr hks
      unfold kkv at hW
      have HW := Lib.hid hW; have HST := Lib.hid hst; have HB := Lib.hid hB
      clear hc c0 hst hlen hO hB eK eL em hlc' hks hbl hW
      go_wp2_with fail
      refine HW.out.mono ?_
      rintro e w2 ⟨v2, rfl, hO, hb⟩
      have HF := Lib.hid (And.intro (hO.mono HB.out.size) (HB.out.trans (hb.mono HB.out.size)))
      clear hO hb HW c1 HB
      go_wp2_with fail
      exact ⟨⟨k + 1, by omega, by simp, by rw [HST.out]; exact HF.out.1, HF.out.2⟩, by simp [intOf]; omega⟩
    · obtain rfl : k = n := by omega
      have hn : ¬ (k : Int) < (k : Int) := by omega
      have HF := Lib.hid (And.intro hO hB)
      clear hO hB
      go_wp2_with fail
      go_ret
      exact ⟨_, rfl, HF.out.1, HF.out.2⟩
end Go.Proofs.YtfkfadcfafbmmaaDoor
