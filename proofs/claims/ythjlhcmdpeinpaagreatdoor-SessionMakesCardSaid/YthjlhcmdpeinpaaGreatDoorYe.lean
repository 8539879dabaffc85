/- The package session's Like, the reference's Same: whether two sessions are the same. -/
import Derived.Test.YthjlhcmdpeinpaaGreatDoorBRg1
import Derived.Test.YthjlhcmdpeinpaaGreatDoorBg21
import Derived.Test.YthjlhcmdpeinpaaGreatDoorBg20
import Derived.Test.YthjlhcmdpeinpaaGreatDoorBg17
namespace Go.Proofs.YthjlhcmdpeinpaaGreatDoor
open Go.RowKit Go.Sort
set_option maxRecDepth 100000
def TextsRelY (V : World) (l m : List ByteArray) (i : Value) (wr : World) : Prop :=
  ∃ k : Nat, k ≤ l.length ∧ i = .int .i64 (k : Int) ∧ l.take k = m.take k ∧ Below V.heap.size V wr
theorem se_ne {x y : Se} (h : ¬ (x.own = y.own ∧ x.peer = y.peer ∧ x.root = y.root ∧ x.send = y.send ∧ x.recv = y.recv ∧ x.sent = y.sent ∧ x.got = y.got ∧ x.prev = y.prev)) : decide (x = y) = false :=
  decide_eq_false fun e => h (by subst e; exact ⟨rfl, rfl, rfl, rfl, rfl, rfl, rfl, rfl⟩)
theorem se_eq (ow pe ro se re : ByteArray) (st gt pv : Nat) (k l : List Kk) (u v : List ByteArray) : decide ((⟨ow, pe, ro, se, re, st, gt, pv, k, u⟩ : Se) = ⟨ow, pe, ro, se, re, st, gt, pv, l, v⟩) = (decide (k = l) && decide (u = v)) := by
  by_cases h1 : k = l
  · by_cases h2 : u = v
    · subst h1 h2; simp
    · rw [decide_eq_false h2, Bool.and_false, decide_eq_false]; intro e; injection e; contradiction
  · rw [decide_eq_false h1, Bool.false_and, decide_eq_false]; intro e; injection e; contradiction
set_option maxHeartbeats 2000000 in
theorem textsY_any (a b : Option Addr) (c c' : Nat) (l m : List ByteArray) (hl : l.length ≤ maxLen) (w : World) (hp : SSl w a l) (hq : SSl w b m) :
    Calls Tryz.prog 34 #[.slice a l.length c, .slice b m.length c'] w fun e w' => e = .returned (.bool (decide (l = m))) ∧ Below w.heap.size w w' := by
  have HP := Lib.hid hp; have HQ := Lib.hid hq; have HL := Lib.hid hl
  clear hp hq hl
  by_cases hlen : l.length = m.length
  case neg =>
    have hn : ¬ (l.length : Int) = (m.length : Int) := by omega
    have hs : decide (l = m) = false := by rw [decide_eq_false_iff_not]; rintro rfl; exact hlen rfl
    have HS := Lib.hid hs
    clear hs hlen HP HQ HL
    go_enter Tryz.func34, Tryz.ntmps34
    go_wp2_with fail
    go_ret
    rw [HS.out]
    exact ⟨rfl, Below.refl _ _⟩
  case pos =>
    rw [show m.length = l.length from hlen.symm]
    have HLN := Lib.hid hlen
    clear hlen
    go_enter Tryz.func34, Tryz.ntmps34
    go_wp2_with fail
    go_loopw [13] (TextsRelY w l m) (fun i _ => l.length - (intOf i).toNat)
    case atStart => exact ⟨0, Nat.zero_le _, rfl, rfl, Below.refl _ _⟩
    case round =>
      obtain ⟨k, hk, rfl, htk, hB⟩ := hrel
      by_cases hlt : k < l.length
      · have h1 : (k : Int) < (l.length : Int) := by omega
        have h1k : (k : Int) < 9223372036854775807 := by have := HL.out; unfold maxLen at this; omega
        obtain ⟨g, off, rfl, hbl, hc⟩ := (HP.out.on hB) (by omega)
        obtain ⟨g', off', rfl, hbl', hc'⟩ := (HQ.out.on hB) (by have := HLN.out; omega)
        have hcx := hc k hlt
        have hcy := hc' k (by have := HLN.out; omega)
        have hts := take_same l m k hlt HLN.out htk
        obtain ⟨x, ex⟩ : ∃ x, l.getD k ⟨#[]⟩ = x := ⟨_, rfl⟩
        obtain ⟨y, ey⟩ : ∃ y, m.getD k ⟨#[]⟩ = y := ⟨_, rfl⟩
        rw [ex] at hcx hts
        rw [ey] at hcy hts
        have hxy : x ≠ y → decide (l = m) = false := fun h => by
          rw [decide_eq_false_iff_not]; intro e; apply h; rw [← ex, ← ey, e]
        obtain ⟨q, hq⟩ : ∃ q, (x.toList == y.toList) = q := ⟨_, rfl⟩
        have HQE := Lib.hid (show q = decide (x = y) by rw [← hq, str_eq])
        have HB2 := Lib.hid hB; have HTS := Lib.hid hts; have HXY := Lib.hid hxy
        clear hc hc' hts hxy ex ey hbl hbl'
        go_upto_region 6 with fail
        have px := cell_regrown hcx
        have py := cell_regrown hcy
        refine wp_region_quiet_below (by kernel_rfl) (by kernel_rfl) ?_
        iterate 9 (quiet_step (fail))
        refine wpQuiet_nil ?_
        intro _ hw'
        obtain ⟨⟨dq, osq⟩, hw''⟩ := hw'
        subst hw''
        have HB3 := Lib.hid (HB2.out.trans ((below_regrown wr dq osq).mono HB2.out.size))
        clear hq px py hcx hcy hB htk
        generalize grow (redrawn wr dq) osq = V1 at HB3 ⊢
        rename_i K hK
        refine hK _ _ ?_
        clear hK K
        by_cases he : x = y
        · have hq := HQE.out
          rw [decide_eq_true he] at hq
          subst hq
          rw [Bool.not_true]
          go_wp2_with fail
          exact ⟨⟨k + 1, by omega, by simp, HTS.out he, HB3.out⟩, by simp [intOf]; omega⟩
        · have hq := HQE.out
          rw [decide_eq_false he] at hq
          subst hq
          rw [Bool.not_false]
          have HE := Lib.hid (HXY.out he)
          go_wp2_with fail
          go_ret
          rw [HE.out]
          exact ⟨rfl, HB3.out⟩
      · obtain rfl : k = l.length := by omega
        have hn : ¬ (l.length : Int) < (l.length : Int) := by omega
        have he : l = m := by rw [List.take_of_length_le (Nat.le_refl _), List.take_of_length_le (by rw [HLN.out]; exact Nat.le_refl _)] at htk; exact htk
        have HE := Lib.hid (decide_eq_true he)
        have HB2 := Lib.hid hB
        clear hB htk he
        go_wp2_with fail
        go_ret
        rw [HE.out]
        exact ⟨rfl, HB2.out⟩
set_option maxHeartbeats 8000000 in
theorem rSame_any (x y : Se) (a : Option Addr) (c : Nat) (b : Option Addr) (d : Nat) (a' : Option Addr) (c' : Nat) (b' : Option Addr) (d' : Nat) (hk : x.kept.length ≤ 1000) (hu : x.used.length ≤ 1000) (w : World) (hx : SeAt w x a b) (hy : SeAt w y a' b') :
    Calls Tryz.prog 13 #[seV x a c b d, seV y a' c' b' d'] w fun e w' => e = .returned (.bool (decide (x = y))) ∧ Below w.heap.size w w' := by
  obtain ⟨W1, e1⟩ : ∃ W1, w.alloc (.cells (seL x a c b d).toArray 26) = W1 := ⟨_, rfl⟩
  obtain ⟨W2, e2⟩ : ∃ W2, W1.alloc (.cells (seL y a' c' b' d').toArray 26) = W2 := ⟨_, rfl⟩
  have hb1 : Below w.heap.size w W1 := by rw [← e1]; exact (Below.refl _ _).alloc (Nat.le_refl _) _
  have hb2 : Below w.heap.size w W2 := by rw [← e2]; exact hb1.alloc hb1.size _
  have hx1 : W1.heap[w.heap.size]? = some (.cells (seL x a c b d).toArray 26) := by rw [← e1]; exact seBox w x a c b d 26
  have hX : W2.heap[w.heap.size]? = some (.cells (seL x a c b d).toArray 26) := by rw [← e2]; exact frBox_old hx1
  have hY : W2.heap[W1.heap.size]? = some (.cells (seL y a' c' b' d').toArray 26) := by rw [← e2]; exact seBox W1 y a' c' b' d' 26
  obtain ⟨A, eA⟩ : ∃ A, w.heap.size = A := ⟨_, rfl⟩
  obtain ⟨B, eB⟩ : ∃ B, W1.heap.size = B := ⟨_, rfl⟩
  have hK := fun W (hw : Below W2.heap.size W2 W) => sameR_any a a' c c' x.kept y.kept hk W ((hx.kept.on hb2).on hw) ((hy.kept.on hb2).on hw)
  have hU := fun W (hw : Below W2.heap.size W2 W) => textsY_any b b' d d' x.used y.used (by unfold maxLen; omega) W ((hx.used.on hb2).on hw) ((hy.used.on hb2).on hw)
  rw [eA] at hX
  rw [eB] at hY
  clear hx1 hx hy hb1 hk hu
  obtain ⟨ow, pe, ro, se, re, st, gt, pv, kt, us⟩ := x
  obtain ⟨yow, ype, yro, yse, yre, yst, ygt, ypv, ykt, yus⟩ := y
  unfold seV
  simp only [seL] at hX hY e1 e2 hK hU ⊢
  have HX := Lib.hid hX; have HY := Lib.hid hY; have HB := Lib.hid hb2; have HK := Lib.hid hK; have HU := Lib.hid hU
  clear hX hY hb2 hK hU
  by_cases hall : ow = yow ∧ pe = ype ∧ ro = yro ∧ se = yse ∧ re = yre ∧ st = yst ∧ gt = ygt ∧ pv = ypv
  · obtain ⟨rfl, rfl, rfl, rfl, rfl, rfl, rfl, rfl⟩ := hall
    rw [se_eq]
    have d0 : W2.cell? ⟨A, 0, none⟩ = some (.string ow) := by rw [cell_of_row _ _ _ _ _ _ HX.out]; rfl
    have d1 : W2.cell? ⟨A, 1, none⟩ = some (.string pe) := by rw [cell_of_row _ _ _ _ _ _ HX.out]; rfl
    have d2 : W2.cell? ⟨A, 2, none⟩ = some (.string ro) := by rw [cell_of_row _ _ _ _ _ _ HX.out]; rfl
    have d3 : W2.cell? ⟨A, 3, none⟩ = some (.string se) := by rw [cell_of_row _ _ _ _ _ _ HX.out]; rfl
    have d4 : W2.cell? ⟨A, 4, none⟩ = some (.string re) := by rw [cell_of_row _ _ _ _ _ _ HX.out]; rfl
    have d5 : W2.cell? ⟨A, 5, none⟩ = some (.int .u64 (st : Int)) := by rw [cell_of_row _ _ _ _ _ _ HX.out]; rfl
    have d6 : W2.cell? ⟨A, 6, none⟩ = some (.int .u64 (gt : Int)) := by rw [cell_of_row _ _ _ _ _ _ HX.out]; rfl
    have d7 : W2.cell? ⟨A, 7, none⟩ = some (.int .u64 (pv : Int)) := by rw [cell_of_row _ _ _ _ _ _ HX.out]; rfl
    have d8 : W2.cell? ⟨A, 8, none⟩ = some (.slice a kt.length c) := by rw [cell_of_row _ _ _ _ _ _ HX.out]; rfl
    have d9 : W2.cell? ⟨A, 9, none⟩ = some (.slice b us.length d) := by rw [cell_of_row _ _ _ _ _ _ HX.out]; rfl
    have g0 : W2.cell? ⟨B, 0, none⟩ = some (.string ow) := by rw [cell_of_row _ _ _ _ _ _ HY.out]; rfl
    have g1 : W2.cell? ⟨B, 1, none⟩ = some (.string pe) := by rw [cell_of_row _ _ _ _ _ _ HY.out]; rfl
    have g2 : W2.cell? ⟨B, 2, none⟩ = some (.string ro) := by rw [cell_of_row _ _ _ _ _ _ HY.out]; rfl
    have g3 : W2.cell? ⟨B, 3, none⟩ = some (.string se) := by rw [cell_of_row _ _ _ _ _ _ HY.out]; rfl
    have g4 : W2.cell? ⟨B, 4, none⟩ = some (.string re) := by rw [cell_of_row _ _ _ _ _ _ HY.out]; rfl
    have g5 : W2.cell? ⟨B, 5, none⟩ = some (.int .u64 (st : Int)) := by rw [cell_of_row _ _ _ _ _ _ HY.out]; rfl
    have g6 : W2.cell? ⟨B, 6, none⟩ = some (.int .u64 (gt : Int)) := by rw [cell_of_row _ _ _ _ _ _ HY.out]; rfl
    have g7 : W2.cell? ⟨B, 7, none⟩ = some (.int .u64 (pv : Int)) := by rw [cell_of_row _ _ _ _ _ _ HY.out]; rfl
    have g8 : W2.cell? ⟨B, 8, none⟩ = some (.slice a' ykt.length c') := by rw [cell_of_row _ _ _ _ _ _ HY.out]; rfl
    have g9 : W2.cell? ⟨B, 9, none⟩ = some (.slice b' yus.length d') := by rw [cell_of_row _ _ _ _ _ _ HY.out]; rfl
    go_enter Tryz.func13, Tryz.ntmps13
    go_wp2_with fail
    refine (HK.out _ (Below.refl _ _)).mono ?_
    rintro e w1 ⟨rfl, hb⟩
    have hxa := (hb.block A (Array.getElem?_eq_some_iff.1 HX.out).1).trans HX.out
    have hya := (hb.block B (Array.getElem?_eq_some_iff.1 HY.out).1).trans HY.out
    clear d8 g8 d9 g9
    have d9 : w1.cell? ⟨A, 9, none⟩ = some (.slice b us.length d) := by rw [cell_of_row _ _ _ _ _ _ hxa]; rfl
    have g9 : w1.cell? ⟨B, 9, none⟩ = some (.slice b' yus.length d') := by rw [cell_of_row _ _ _ _ _ _ hya]; rfl
    have HB1 := Lib.hid hb
    clear hb hxa hya HX HY HK
    obtain ⟨q, hq⟩ : ∃ q, decide (kt = ykt) = q := ⟨_, rfl⟩
    rw [hq]
    have HQ := Lib.hid hq
    clear hq
    cases q
    · clear d9 g9 HU
      go_wp2_with fail
      go_ret
      exact ⟨ret_bool (by rw [HQ.out]; rfl), HB.out.trans (HB1.out.mono HB.out.size)⟩
    · go_wp2_with fail
      refine (HU.out _ HB1.out).mono ?_
      rintro e w2 ⟨rfl, hb⟩
      have HB2 := Lib.hid (HB1.out.trans (hb.mono HB1.out.size))
      clear hb d9 g9 HU
      go_wp2_with fail
      go_ret
      exact ⟨ret_bool (by rw [HQ.out]; rfl), HB.out.trans (HB2.out.mono HB.out.size)⟩
  · have HE := Lib.hid (se_ne (x := ⟨ow, pe, ro, se, re, st, gt, pv, kt, us⟩) (y := ⟨yow, ype, yro, yse, yre, yst, ygt, ypv, ykt, yus⟩) hall)
    have HN := Lib.hid hall
    clear hall
    have d0 : W2.cell? ⟨A, 0, none⟩ = some (.string ow) := by rw [cell_of_row _ _ _ _ _ _ HX.out]; rfl
    have d1 : W2.cell? ⟨A, 1, none⟩ = some (.string pe) := by rw [cell_of_row _ _ _ _ _ _ HX.out]; rfl
    have d2 : W2.cell? ⟨A, 2, none⟩ = some (.string ro) := by rw [cell_of_row _ _ _ _ _ _ HX.out]; rfl
    have d3 : W2.cell? ⟨A, 3, none⟩ = some (.string se) := by rw [cell_of_row _ _ _ _ _ _ HX.out]; rfl
    have d4 : W2.cell? ⟨A, 4, none⟩ = some (.string re) := by rw [cell_of_row _ _ _ _ _ _ HX.out]; rfl
    have d5 : W2.cell? ⟨A, 5, none⟩ = some (.int .u64 (st : Int)) := by rw [cell_of_row _ _ _ _ _ _ HX.out]; rfl
    have d6 : W2.cell? ⟨A, 6, none⟩ = some (.int .u64 (gt : Int)) := by rw [cell_of_row _ _ _ _ _ _ HX.out]; rfl
    have d7 : W2.cell? ⟨A, 7, none⟩ = some (.int .u64 (pv : Int)) := by rw [cell_of_row _ _ _ _ _ _ HX.out]; rfl
    have d8 : W2.cell? ⟨A, 8, none⟩ = some (.slice a kt.length c) := by rw [cell_of_row _ _ _ _ _ _ HX.out]; rfl
    have d9 : W2.cell? ⟨A, 9, none⟩ = some (.slice b us.length d) := by rw [cell_of_row _ _ _ _ _ _ HX.out]; rfl
    have g0 : W2.cell? ⟨B, 0, none⟩ = some (.string yow) := by rw [cell_of_row _ _ _ _ _ _ HY.out]; rfl
    have g1 : W2.cell? ⟨B, 1, none⟩ = some (.string ype) := by rw [cell_of_row _ _ _ _ _ _ HY.out]; rfl
    have g2 : W2.cell? ⟨B, 2, none⟩ = some (.string yro) := by rw [cell_of_row _ _ _ _ _ _ HY.out]; rfl
    have g3 : W2.cell? ⟨B, 3, none⟩ = some (.string yse) := by rw [cell_of_row _ _ _ _ _ _ HY.out]; rfl
    have g4 : W2.cell? ⟨B, 4, none⟩ = some (.string yre) := by rw [cell_of_row _ _ _ _ _ _ HY.out]; rfl
    have g5 : W2.cell? ⟨B, 5, none⟩ = some (.int .u64 (yst : Int)) := by rw [cell_of_row _ _ _ _ _ _ HY.out]; rfl
    have g6 : W2.cell? ⟨B, 6, none⟩ = some (.int .u64 (ygt : Int)) := by rw [cell_of_row _ _ _ _ _ _ HY.out]; rfl
    have g7 : W2.cell? ⟨B, 7, none⟩ = some (.int .u64 (ypv : Int)) := by rw [cell_of_row _ _ _ _ _ _ HY.out]; rfl
    have g8 : W2.cell? ⟨B, 8, none⟩ = some (.slice a' ykt.length c') := by rw [cell_of_row _ _ _ _ _ _ HY.out]; rfl
    have g9 : W2.cell? ⟨B, 9, none⟩ = some (.slice b' yus.length d') := by rw [cell_of_row _ _ _ _ _ _ HY.out]; rfl
    clear HX HY HK HU
    go_enter Tryz.func13, Tryz.ntmps13
    go_wp2_with fail
    all_goals
      clear d0 d1 d2 d3 d4 d5 d6 d7 d8 d9 g0 g1 g2 g3 g4 g5 g6 g7 g8 g9
      first
        | (go_ret; rw [HE.out]; exact ⟨rfl, HB.out⟩)
        | (exfalso; have hn := HN.out; clear HN HE HB; simp only [str_eq, tl_eq, Bool.not_eq_false', decide_eq_true_eq] at *; refine hn ⟨?_, ?_, ?_, ?_, ?_, ?_, ?_, ?_⟩ <;> first | assumption | omega)
end Go.Proofs.YthjlhcmdpeinpaaGreatDoor