/- The texts Ye, Yf, Ys, Yt, Yi, one behind the other. -/
import Derived.Test.YtdnjieffbgmagaaDoorBRg1
import Derived.Test.YtdnjieffbgmagaaDoorBg18
import Derived.Test.YtdnjieffbgmagaaDoorBg17
import Derived.Test.YtdnjieffbgmagaaDoorBg14
import Derived.Test.YtdnjieffbgmagaaDoorBg15
import Derived.Lib.QuietBelow
import Derived.BigQuiet
import Derived.Laws.ResultCell
import Derived.Test.YtdnjieffbgmagaaDoorBg10
import Derived.Deep.RegionHeld3
import Derived.Test.YtdnjieffbgmagaaDoorBg16
import Derived.Test.YtdnjieffbgmagaaDoorRows
import Derived.Defers
import Derived.Orders
import Derived.Recover
import Derived.Shelf.Abstract
import Derived.WalkKit
import Derived.Test.YtdnjieffbgmagaaDoorQl
import Derived.Test.YtdnjieffbgmagaaDoorBg9
import Derived.Test.YtdnjieffbgmagaaDoorBg7
import Derived.Deep.AppendLies
import Derived.Deep.Cut
import Derived.Deep.LoopGhost
import Derived.Deep.Onto
import Derived.Deep.QuietTactic
import Derived.Deep.RegionLaw
import Derived.Deep.RegionWith
import Derived.Handy
import Derived.IntWalk
import Derived.Laws.BytesArg
import Derived.Laws.OwnMore
import Derived.Lib.ConvBytes
import Derived.Lib.Hide
import Derived.Lib.Mul64
import Derived.LoopIn
import Derived.LoopNIn
import Derived.OneCell
import Derived.OwnWalkIn
import Derived.PlainAid
import Derived.ProofKit
import Derived.RangeFuncBound
import Derived.RangeFuncCalls
import Derived.RangeFuncFrom
import Derived.RangeFuncLeaves
import Derived.RangeFuncNested
import Derived.Shelf.RegionOpen
import Derived.Shelf.Spec.BitsCarry
import Derived.TacticsInMore
/- The package session's Like, the reference's Same: whether two sessions are the same. -/
namespace Go.Proofs.YtdnjieffbgmagaaDoor
open Go.RowKit Go.Sort
set_option maxRecDepth 100000
def TextsRelY (V : World) (l m : List ByteArray) (i : Value) (wr : World) : Prop :=
  ∃ k : Nat, k ≤ l.length ∧ i = .int .i64 (k : Int) ∧ l.take k = m.take k ∧ Below V.heap.size V wr
theorem se_ne {x y : Se} (h : ¬ (x.own = y.own ∧ x.peer = y.peer ∧ x.root = y.root ∧ x.send = y.send ∧ x.recv = y.recv ∧ x.sent = y.sent ∧ x.got = y.got ∧ x.prev = y.prev)) : decide (x = y) = false :=
  decide_eq_false fun e => h (by subst e; exact ⟨rfl, rfl, rfl, rfl, rfl, rfl, rfl, rfl⟩)
theorem se_eq (ow pe ro se re : ByteArray) (st gt pv : Nat) (k l : List Kk) (u v : List ByteArray) : decide ((⟨ow, pe, ro, se, re, st, gt, pv, k, u⟩ : Se) = ⟨ow, pe, ro, se, re, st, gt, pv, l, v⟩) = (decide (k = l) && decide (u = v)) := by
  by_cases h1 : k = l
  · by_cases h2 : u = v
    · subst h1 h2; simp
    · rw [decide_eq_false h2, Bool.and_false, decide_eq_false]; intro e; injection e; contradiction
  · rw [decide_eq_false h1, Bool.false_and, decide_eq_false]; intro e; injection e; contradiction
set_option maxHeartbeats 2000000 in
theorem textsY_any (a b : Option Addr) (c c' : Nat) (l m : List ByteArray) (hl : l.length ≤ maxLen) (w : World) (hp : SSl w a l) (hq : SSl w b m) :
    Calls Tryd.prog 13 #[.slice a l.length c, .slice b m.length c'] w fun e w' => e = .returned (.bool (decide (l = m))) ∧ Below w.heap.size w w' := by
  have HP := Lib.hid hp; have HQ := Lib.hid hq; have HL := Lib.hid hl
  clear hp hq hl
  by_cases hlen : l.length = m.length
  case neg =>
    have hn : ¬ (l.length : Int) = (m.length : Int) := by omega
    have hs : decide (l = m) = false := by rw [decide_eq_false_iff_not]; rintro rfl; exact hlen rfl
    have HS := Lib.hid hs
    clear hs hlen HP HQ HL
    go_enter Tryd.func13, Tryd.ntmps13
    go_wp2_with fail
    go_ret
    rw [HS.out]
    exact ⟨rfl, Below.refl _ _⟩
  case pos =>
    rw [show m.length = l.length from hlen.symm]
    have HLN := Lib.hid hlen
    clear hlen
    go_enter Tryd.func13, Tryd.ntmps13
    go_wp2_with fail
    go_loopw [13] (TextsRelY w l m) (fun i _ => l.length - (intOf i).toNat)
    case atStart => exact ⟨0, Nat.zero_le _, rfl, rfl, Below.refl _ _⟩
    case round =>
      obtain ⟨k, hk, rfl, htk, hB⟩ := hrel
      by_cases hlt : k < l.length
      · have h1 : (k : Int) < (l.length : Int) := by omega
        have h1k : (k : Int) < 9223372036854775807 := by have := HL.out; unfold maxLen at this; omega
        obtain ⟨g, off, rfl, hbl, hc⟩ := (HP.out.on hB) (by omega)
        obtain ⟨g', off', rfl, hbl', hc'⟩ := (HQ.out.on hB) (by have := HLN.out; omega)
        have hcx := hc k hlt
        have hcy := hc' k (by have := HLN.out; omega)
        have hts := take_same l m k hlt HLN.out htk
        obtain ⟨x, ex⟩ : ∃ x, l.getD k ⟨#[]⟩ = x := ⟨_, rfl⟩
        obtain ⟨y, ey⟩ : ∃ y, m.getD k ⟨#[]⟩ = y := ⟨_, rfl⟩
        rw [ex] at hcx hts
        rw [ey] at hcy hts
        have hxy : x ≠ y → decide (l = m) = false := fun h => by
          rw [decide_eq_false_iff_not]; intro e; apply h; rw [← ex, ← ey, e]
        obtain ⟨q, hq⟩ : ∃ q, (x.toList == y.toList) = q := ⟨_, rfl⟩
        have HQE := Lib.hid (show q = decide (x = y) by rw [← hq, str_eq])
        have HB2 := Lib.hid hB; have HTS := Lib.hid hts; have HXY := Lib.hid hxy
        clear hc hc' hts hxy ex ey hbl hbl'
        go_upto_region 6 with fail
        have px := cell_regrown hcx
        have py := cell_regrown hcy
        refine wp_region_quiet_below (by kernel_rfl) (by kernel_rfl) ?_
        iterate 9 (quiet_step (fail))
        refine wpQuiet_nil ?_
        intro _ hw'
        obtain ⟨⟨dq, osq⟩, hw''⟩ := hw'
        subst hw''
        have HB3 := Lib.hid (HB2.out.trans ((below_regrown wr dq osq).mono HB2.out.size))
        clear hq px py hcx hcy hB htk
        generalize grow (redrawn wr dq) osq = V1 at HB3 ⊢
        rename_i K hK
        refine hK _ _ ?_
        clear hK K
        by_cases he : x = y
        · have hq := HQE.out
          rw [decide_eq_true he] at hq
          subst hq
          rw [Bool.not_true]
          go_wp2_with fail
          exact ⟨⟨k + 1, by omega, by simp, HTS.out he, HB3.out⟩, by simp [intOf]; omega⟩
        · have hq := HQE.out
          rw [decide_eq_false he] at hq
          subst hq
          rw [Bool.not_false]
          have HE := Lib.hid (HXY.out he)
          go_wp2_with fail
          go_ret
          rw [HE.out]
          exact ⟨rfl, HB3.out⟩
      · obtain rfl : k = l.length := by omega
        have hn : ¬ (l.length : Int) < (l.length : Int) := by omega
        have he : l = m := by rw [List.take_of_length_le (Nat.le_refl _), List.take_of_length_le (by rw [HLN.out]; exact Nat.le_refl _)] at htk; exact htk
        have HE := Lib.hid (decide_eq_true he)
        have HB2 := Lib.hid hB
        clear hB htk he
        go_wp2_with fail
        go_ret
        rw [HE.out]
        exact ⟨rfl, HB2.out⟩
set_option maxHeartbeats 8000000 in
theorem rSame_any (x y : Se) (a : Option Addr) (c : Nat) (b : Option Addr) (d : Nat) (a' : Option Addr) (c' : Nat) (b' : Option Addr) (d' : Nat) (hk : x.kept.length ≤ 1000) (hu : x.used.length ≤ 1000) (w : World) (hx : SeAt w x a b) (hy : SeAt w y a' b') :
    Calls Tryd.prog 12 #[seV x a c b d, seV y a' c' b' d'] w fun e w' => e = .returned (.bool (decide (x = y))) ∧ Below w.heap.size w w' := by
  obtain ⟨W1, e1⟩ : ∃ W1, w.alloc (.cells (seL x a c b d).toArray 26) = W1 := ⟨_, rfl⟩
  obtain ⟨W2, e2⟩ : ∃ W2, W1.alloc (.cells (seL y a' c' b' d').toArray 26) = W2 := ⟨_, rfl⟩
  have hb1 : Below w.heap.size w W1 := by rw [← e1]; exact (Below.refl _ _).alloc (Nat.le_refl _) _
  have hb2 : Below w.heap.size w W2 := by rw [← e2]; exact hb1.alloc hb1.size _
  have hx1 : W1.heap[w.heap.size]? = some (.cells (seL x a c b d).toArray 26) := by rw [← e1]; exact seBox w x a c b d 26
  have hX : W2.heap[w.heap.size]? = some (.cells (seL x a c b d).toArray 26) := by rw [← e2]; exact frBox_old hx1
  have hY : W2.heap[W1.heap.size]? = some (.cells (seL y a' c' b' d').toArray 26) := by rw [← e2]; exact seBox W1 y a' c' b' d' 26
  obtain ⟨A, eA⟩ : ∃ A, w.heap.size = A := ⟨_, rfl⟩
  obtain ⟨B, eB⟩ : ∃ B, W1.heap.size = B := ⟨_, rfl⟩
  have hK := fun W (hw : Below W2.heap.size W2 W) => sameR_any a a' c c' x.kept y.kept hk W ((hx.kept.on hb2).on hw) ((hy.kept.on hb2).on hw)
  have hU := fun W (hw : Below W2.heap.size W2 W) => textsY_any b b' d d' x.used y.used (by unfold maxLen; omega) W ((hx.used.on hb2).on hw) ((hy.used.on hb2).on hw)
  rw [eA] at hX
  rw [eB] at hY
  clear hx1 hx hy hb1 hk hu
  obtain ⟨ow, pe, ro, se, re, st, gt, pv, kt, us⟩ := x
  obtain ⟨yow, ype, yro, yse, yre, yst, ygt, ypv, ykt, yus⟩ := y
  unfold seV
  simp only [seL] at hX hY e1 e2 hK hU ⊢
  have HX := Lib.hid hX; have HY := Lib.hid hY; have HB := Lib.hid hb2; have HK := Lib.hid hK; have HU := Lib.hid hU
  clear hX hY hb2 hK hU
  by_cases hall : ow = yow ∧ pe = ype ∧ ro = yro ∧ se = yse ∧ re = yre ∧ st = yst ∧ gt = ygt ∧ pv = ypv
  · obtain ⟨rfl, rfl, rfl, rfl, rfl, rfl, rfl, rfl⟩ := hall
    rw [se_eq]
    have d0 : W2.cell? ⟨A, 0, none⟩ = some (.string ow) := by rw [cell_of_row _ _ _ _ _ _ HX.out]; rfl
    have d1 : W2.cell? ⟨A, 1, none⟩ = some (.string pe) := by rw [cell_of_row _ _ _ _ _ _ HX.out]; rfl
    have d2 : W2.cell? ⟨A, 2, none⟩ = some (.string ro) := by rw [cell_of_row _ _ _ _ _ _ HX.out]; rfl
    have d3 : W2.cell? ⟨A, 3, none⟩ = some (.string se) := by rw [cell_of_row _ _ _ _ _ _ HX.out]; rfl
    have d4 : W2.cell? ⟨A, 4, none⟩ = some (.string re) := by rw [cell_of_row _ _ _ _ _ _ HX.out]; rfl
    have d5 : W2.cell? ⟨A, 5, none⟩ = some (.int .u64 (st : Int)) := by rw [cell_of_row _ _ _ _ _ _ HX.out]; rfl
    have d6 : W2.cell? ⟨A, 6, none⟩ = some (.int .u64 (gt : Int)) := by rw [cell_of_row _ _ _ _ _ _ HX.out]; rfl
    have d7 : W2.cell? ⟨A, 7, none⟩ = some (.int .u64 (pv : Int)) := by rw [cell_of_row _ _ _ _ _ _ HX.out]; rfl
    have d8 : W2.cell? ⟨A, 8, none⟩ = some (.slice a kt.length c) := by rw [cell_of_row _ _ _ _ _ _ HX.out]; rfl
    have d9 : W2.cell? ⟨A, 9, none⟩ = some (.slice b us.length d) := by rw [cell_of_row _ _ _ _ _ _ HX.out]; rfl
    have g0 : W2.cell? ⟨B, 0, none⟩ = some (.string ow) := by rw [cell_of_row _ _ _ _ _ _ HY.out]; rfl
    have g1 : W2.cell? ⟨B, 1, none⟩ = some (.string pe) := by rw [cell_of_row _ _ _ _ _ _ HY.out]; rfl
    have g2 : W2.cell? ⟨B, 2, none⟩ = some (.string ro) := by rw [cell_of_row _ _ _ _ _ _ HY.out]; rfl
    have g3 : W2.cell? ⟨B, 3, none⟩ = some (.string se) := by rw [cell_of_row _ _ _ _ _ _ HY.out]; rfl
    have g4 : W2.cell? ⟨B, 4, none⟩ = some (.string re) := by rw [cell_of_row _ _ _ _ _ _ HY.out]; rfl
    have g5 : W2.cell? ⟨B, 5, none⟩ = some (.int .u64 (st : Int)) := by rw [cell_of_row _ _ _ _ _ _ HY.out]; rfl
    have g6 : W2.cell? ⟨B, 6, none⟩ = some (.int .u64 (gt : Int)) := by rw [cell_of_row _ _ _ _ _ _ HY.out]; rfl
    have g7 : W2.cell? ⟨B, 7, none⟩ = some (.int .u64 (pv : Int)) := by rw [cell_of_row _ _ _ _ _ _ HY.out]; rfl
    have g8 : W2.cell? ⟨B, 8, none⟩ = some (.slice a' ykt.length c') := by rw [cell_of_row _ _ _ _ _ _ HY.out]; rfl
    have g9 : W2.cell? ⟨B, 9, none⟩ = some (.slice b' yus.length d') := by rw [cell_of_row _ _ _ _ _ _ HY.out]; rfl
    go_enter Tryd.func12, Tryd.ntmps12
    go_wp2_with fail
    refine (HK.out _ (Below.refl _ _)).mono ?_
    rintro e w1 ⟨rfl, hb⟩
    have hxa := (hb.block A (Array.getElem?_eq_some_iff.1 HX.out).1).trans HX.out
    have hya := (hb.block B (Array.getElem?_eq_some_iff.1 HY.out).1).trans HY.out
    clear d8 g8 d9 g9
    have d9 : w1.cell? ⟨A, 9, none⟩ = some (.slice b us.length d) := by rw [cell_of_row _ _ _ _ _ _ hxa]; rfl
    have g9 : w1.cell? ⟨B, 9, none⟩ = some (.slice b' yus.length d') := by rw [cell_of_row _ _ _ _ _ _ hya]; rfl
    have HB1 := Lib.hid hb
    clear hb hxa hya HX HY HK
    obtain ⟨q, hq⟩ : ∃ q, decide (kt = ykt) = q := ⟨_, rfl⟩
    rw [hq]
    have HQ := Lib.hid hq
    clear hq
    cases q
    · clear d9 g9 HU
      go_wp2_with fail
      go_ret
      exact ⟨ret_bool (by rw [HQ.out]; rfl), HB.out.trans (HB1.out.mono HB.out.size)⟩
    · go_wp2_with fail
      refine (HU.out _ HB1.out).mono ?_
      rintro e w2 ⟨rfl, hb⟩
      have HB2 := Lib.hid (HB1.out.trans (hb.mono HB1.out.size))
      clear hb d9 g9 HU
      go_wp2_with fail
      go_ret
      exact ⟨ret_bool (by rw [HQ.out]; rfl), HB.out.trans (HB2.out.mono HB.out.size)⟩
  · have HE := Lib.hid (se_ne (x := ⟨ow, pe, ro, se, re, st, gt, pv, kt, us⟩) (y := ⟨yow, ype, yro, yse, yre, yst, ygt, ypv, ykt, yus⟩) hall)
    have HN := Lib.hid hall
    clear hall
    have d0 : W2.cell? ⟨A, 0, none⟩ = some (.string ow) := by rw [cell_of_row _ _ _ _ _ _ HX.out]; rfl
    have d1 : W2.cell? ⟨A, 1, none⟩ = some (.string pe) := by rw [cell_of_row _ _ _ _ _ _ HX.out]; rfl
    have d2 : W2.cell? ⟨A, 2, none⟩ = some (.string ro) := by rw [cell_of_row _ _ _ _ _ _ HX.out]; rfl
    have d3 : W2.cell? ⟨A, 3, none⟩ = some (.string se) := by rw [cell_of_row _ _ _ _ _ _ HX.out]; rfl
    have d4 : W2.cell? ⟨A, 4, none⟩ = some (.string re) := by rw [cell_of_row _ _ _ _ _ _ HX.out]; rfl
    have d5 : W2.cell? ⟨A, 5, none⟩ = some (.int .u64 (st : Int)) := by rw [cell_of_row _ _ _ _ _ _ HX.out]; rfl
    have d6 : W2.cell? ⟨A, 6, none⟩ = some (.int .u64 (gt : Int)) := by rw [cell_of_row _ _ _ _ _ _ HX.out]; rfl
    have d7 : W2.cell? ⟨A, 7, none⟩ = some (.int .u64 (pv : Int)) := by rw [cell_of_row _ _ _ _ _ _ HX.out]; rfl
    have d8 : W2.cell? ⟨A, 8, none⟩ = some (.slice a kt.length c) := by rw [cell_of_row _ _ _ _ _ _ HX.out]; rfl
    have d9 : W2.cell? ⟨A, 9, none⟩ = some (.slice b us.length d) := by rw [cell_of_row _ _ _ _ _ _ HX.out]; rfl
    have g0 : W2.cell? ⟨B, 0, none⟩ = some (.string yow) := by rw [cell_of_row _ _ _ _ _ _ HY.out]; rfl
    have g1 : W2.cell? ⟨B, 1, none⟩ = some (.string ype) := by rw [cell_of_row _ _ _ _ _ _ HY.out]; rfl
    have g2 : W2.cell? ⟨B, 2, none⟩ = some (.string yro) := by rw [cell_of_row _ _ _ _ _ _ HY.out]; rfl
    have g3 : W2.cell? ⟨B, 3, none⟩ = some (.string yse) := by rw [cell_of_row _ _ _ _ _ _ HY.out]; rfl
    have g4 : W2.cell? ⟨B, 4, none⟩ = some (.string yre) := by rw [cell_of_row _ _ _ _ _ _ HY.out]; rfl
    have g5 : W2.cell? ⟨B, 5, none⟩ = some (.int .u64 (yst : Int)) := by rw [cell_of_row _ _ _ _ _ _ HY.out]; rfl
    have g6 : W2.cell? ⟨B, 6, none⟩ = some (.int .u64 (ygt : Int)) := by rw [cell_of_row _ _ _ _ _ _ HY.out]; rfl
    have g7 : W2.cell? ⟨B, 7, none⟩ = some (.int .u64 (ypv : Int)) := by rw [cell_of_row _ _ _ _ _ _ HY.out]; rfl
    have g8 : W2.cell? ⟨B, 8, none⟩ = some (.slice a' ykt.length c') := by rw [cell_of_row _ _ _ _ _ _ HY.out]; rfl
    have g9 : W2.cell? ⟨B, 9, none⟩ = some (.slice b' yus.length d') := by rw [cell_of_row _ _ _ _ _ _ HY.out]; rfl
    clear HX HY HK HU
    go_enter Tryd.func12, Tryd.ntmps12
    go_wp2_with fail
    all_goals
      clear d0 d1 d2 d3 d4 d5 d6 d7 d8 d9 g0 g1 g2 g3 g4 g5 g6 g7 g8 g9
      first
        | (go_ret; rw [HE.out]; exact ⟨rfl, HB.out⟩)
        | (exfalso; have hn := HN.out; clear HN HE HB; simp only [str_eq, tl_eq, Bool.not_eq_false', decide_eq_true_eq] at *; refine hn ⟨?_, ?_, ?_, ?_, ?_, ?_, ?_, ?_⟩ <;> first | assumption | omega)
end Go.Proofs.YtdnjieffbgmagaaDoor

/- The package session's turned, step, Start, Accept. -/
namespace Go.Proofs.YtdnjieffbgmagaaDoor
open Go.RowKit Go.Sort
set_option maxRecDepth 100000
theorem BlkV.low {w w' : World} {B n : Nat} {t : TypeId} {l : List Value} (h : BlkV w B t l) (hb : Below n w w') (hn : B < n) : BlkV w' B t l := by
  unfold BlkV
  rw [hb.block B hn]; exact h
end Go.Proofs.YtdnjieffbgmagaaDoor

/- The package session's seal: the frame of a text. -/
namespace Go.Proofs.YtdnjieffbgmagaaDoor
open Go.RowKit Go.Sort
set_option maxRecDepth 100000
def fr0 : Fr := ⟨0, 0, 0, 0, ⟨#[]⟩, ⟨#[]⟩, 0, 0, ⟨#[]⟩, 0, 0, ⟨#[]⟩, []⟩
def zeroY : List Value := frL fr0 none 0
/-- the work, the frame's box and the result's lie in memory -/
structure WorkAt (w : World) (B n : Nat) (t : TypeId) (lw lf lz : List Value) (wx : World) : Prop where
  below : Below w.heap.size w wx
  hB : B < w.heap.size
  hn : w.heap.size ≤ n
  wb : BlkV wx B t lw
  bx : BlkV wx n 32 lf
  rs : BlkV wx (n + 1) 32 lz
theorem WorkAt.on {w wx wy : World} {B n : Nat} {t : TypeId} {lw lf lz : List Value} (h : WorkAt w B n t lw lf lz wx) (hb : Below wx.heap.size wx wy) : WorkAt w B n t lw lf lz wy :=
  ⟨h.below.trans (hb.mono h.below.size), h.hB, h.hn, h.wb.on hb, h.bx.on hb, h.rs.on hb⟩
/-- the same, but for what has turned in the work -/
structure WorkIn (w : World) (B n : Nat) (t : TypeId) (lw lf lz : List Value) (wx : World) : Prop where
  below : Below B w wx
  hB : B < w.heap.size
  hn : w.heap.size ≤ n
  wb : BlkV wx B t lw
  bx : BlkV wx n 32 lf
  rs : BlkV wx (n + 1) 32 lz
  oth : ∀ k, k < w.heap.size → k ≠ B → wx.heap[k]? = w.heap[k]?
  big : w.heap.size ≤ wx.heap.size
theorem WorkIn.on {w wx wy : World} {B n : Nat} {t : TypeId} {lw lf lz : List Value} (h : WorkIn w B n t lw lf lz wx) (hb : Below wx.heap.size wx wy) : WorkIn w B n t lw lf lz wy :=
  ⟨h.below.trans (hb.mono (Nat.le_of_lt h.wb.lt)), h.hB, h.hn, h.wb.on hb, h.bx.on hb, h.rs.on hb, fun k hk hne => (hb.block k (Nat.lt_of_lt_of_le hk h.big)).trans (h.oth k hk hne), Nat.le_trans h.big hb.size⟩
end Go.Proofs.YtdnjieffbgmagaaDoor

/- The package session's Seal. -/
namespace Go.Proofs.YtdnjieffbgmagaaDoor
open Go.RowKit Go.Sort
set_option maxRecDepth 100000
/-- what is told lies in three cells -/
theorem results_ccc {P : Program} {fn : Func} {p q r : Tmp} {T U V : TypeId} (h : fn.results = #[.cell p T, .cell q U, .cell r V]) (tmps : Array Value) (w : World) (ap aq ar : Addr) {v1 v2 v3 : Value}
    (hp : tmps.getD p undef = .pointer (some ap)) (hq : tmps.getD q undef = .pointer (some aq)) (hr : tmps.getD r undef = .pointer (some ar))
    (e1 : (loadVar T ap).run P w = .ok v1 w) (e2 : (loadVar U aq).run P w = .ok v2 w) (e3 : (loadVar V ar).run P w = .ok v3 w) : (results fn tmps).run P w = .ok (.tuple #[v1, v2, v3]) w := by
  rw [Array.getD_eq_getD_getElem?] at hp hq hr
  simp only [results, h]
  simp [Sem.run_bind, Result.andThen, asAddr, hp, hq, hr, e1, e2, e3]
theorem loadVar_one {P : Program} {T : TypeId} {a : Addr} {v : Value} {w : World} (hT : (isAgg T).run P w = .ok false w) (hc : w.cell? a = some v) : (loadVar T a).run P w = .ok v w := by
  simp [loadVar, go_sem, hT, hc, Result.andThen]
theorem agg_errno (w : World) : (isAgg 28).run Tryd.prog w = .ok false w := by kernel_rfl
theorem agg_kepts (w : World) : (isAgg 23).run Tryd.prog w = .ok false w := by kernel_rfl
theorem eqlS_nil (n c : Nat) (W : World) : (binOp .eql 24 (.slice none n c) (.slice none 0 0)).run Tryd.prog W = .ok (.bool true) W := by rfl
theorem eqlS_some (ad : Addr) (n c : Nat) (W : World) : (binOp .eql 24 (.slice (some ad) n c) (.slice none 0 0)).run Tryd.prog W = .ok (.bool false) W := by rfl
set_option maxHeartbeats 1000000 in
theorem CloneS_any (a : Option Addr) (c : Nat) (l : List ByteArray) (hl : l.length ≤ 1000) (w : World) (hp : SSl w a l) :
    Calls Tryd.prog 22 #[.slice a l.length c] w fun e w' => ∃ v, e = .returned v ∧ OwnS w' w.heap.size v l ∧ Below w.heap.size w w' := by
  cases a with
  | none =>
    have h0 : l = [] := by
      rcases l with _ | ⟨x, l⟩
      · rfl
      · obtain ⟨b, off, e, -⟩ := hp (by simp)
        cases e
    subst h0
    have q := fun W => eqlS_nil 0 c W
    clear hp hl
    go_enter Tryd.func22, Tryd.ntmps22
    go_wp2_with fail
    go_ret
    exact ⟨_, rfl, ⟨rfl, .inl ⟨rfl, rfl⟩⟩, Below.refl _ _⟩
  | some ad =>
    have hO := OwnS.empty w w.heap.size (Nat.le_refl _)
    have hB : Below w.heap.size w (w.alloc (.cells #[] 9)) := by go_grown
    have hks := hp.on hB
    have HO := Lib.hid hO; have HB := Lib.hid hB; have HK := Lib.hid hks; have HL := Lib.hid hl
    have q := fun W => eqlS_some ad l.length c W
    clear hO hB hks hp hl
    go_enter Tryd.func22, Tryd.ntmps22
    go_wp2_with (at_builtin; refine append_ss rfl _ _ rfl w.heap.size _ [] l (some ad) c rfl HO.out rfl (fun h => by cases h) HK.out (by have := HL.out; simp; omega) HB.out.size ?_)
    intro v' w' hO' hg'
    have HF := Lib.hid (And.intro hO' (HB.out.grown hg' HB.out.size fun k hk => (World.ownsRow.lt HO.out k hk).1))
    clear hO' hg' HO HB HK
    go_wp2_with fail
    go_ret
    exact ⟨_, rfl, HF.out.1, HF.out.2⟩
section
variable {P : Program} {ops : Array Oper} {Q : Exit → Act → World → Prop}
theorem wpOp_onY {i : Nat} {o : Oper} {K : Act → World → Prop} {a : Act} {w : World} (hi : ops[i]? = some o) (hw : Region.wanted o (yielded ops a.tmps) = true) (h : o.wp P a w K Q) : wpOp P ops Q i K a w := by
  unfold wpOp
  simp only [hi, hw, if_true]
  exact .inl h
theorem val_any {i : Nat} {o : Oper} {K : Act → World → Prop} {a : Act} {w w' : World} {v : Value} (hi : ops[i]? = some o) (hw : Region.wanted o (yielded ops a.tmps) = true) (he : (execOp a.eval o).run P w = .ok (.value v) w') (h : K (a.put o.dst v) w') : wpOp P ops Q i K a w := by
  refine wpOp_onY hi hw ?_
  unfold Oper.wp
  rw [he]
  exact h
theorem skip_any {i : Nat} {o : Oper} {K : Act → World → Prop} {a : Act} {w w' : World} (hi : ops[i]? = some o) (hw : Region.wanted o (yielded ops a.tmps) = true) (he : (execOp a.eval o).run P w = .ok .skip w') (h : K (a.put o.dst undef) w') : wpOp P ops Q i K a w := by
  refine wpOp_onY hi hw ?_
  unfold Oper.wp
  rw [he]
  exact h
theorem load_anyY {i : Nat} {o : Oper} {K : Act → World → Prop} {a : Act} {w : World} (hi : ops[i]? = some o) (hw : Region.wanted o (yielded ops a.tmps) = true) (T : TypeId) (x : Operand) (ho : o.op = .load T x)
    (B : Nat) (hx : a.eval x = .pointer (some ⟨B, 0, none⟩)) {t : TypeId} {l : List Value} (hb : BlkV w B t l) {d : TypeDesc} (hu : P.underlying T = some d) (hd : d.isRow = true) (hs : (P.info? T).map (·.size) = some l.length)
    (h : K (a.put o.dst (.agg l.toArray)) w) : wpOp P ops Q i K a w :=
  wpOp_onY hi hw (wp_load_mid T x ho B 0 hx l d hb.range hu hd hs h)
theorem store_anyY {i : Nat} {o : Oper} {K : Act → World → Prop} {a : Act} {w : World} (hi : ops[i]? = some o) (hw : Region.wanted o (yielded ops a.tmps) = true) (hdst : o.dst = none) (T : TypeId) (x y : Operand) (ho : o.op = .store T x y)
    (B : Nat) (hx : a.eval x = .pointer (some ⟨B, 0, none⟩)) {l' : List Value} (hy : a.eval y = .agg l'.toArray) {t : TypeId} {l : List Value} (hb : BlkV w B t l) (hl : l'.length = l.length) (h1 : ∀ v ∈ l', v.oneCell' = true)
    (hs : (P.info? T).map (·.size) = some l.length) (h : K a (w.setCells B 0 l')) : wpOp P ops Q i K a w := by
  refine wpOp_onY hi hw (wp_store_mid T x y ho B 0 l'.toArray hx hy ?_ ?_ ?_ ?_)
  · rw [List.size_toArray, hl]; exact hb.there _ (Nat.le_refl _)
  · rw [List.size_toArray, hl]; exact hs
  · exact all_oneCell_toArray h1
  · rw [hdst]; simpa [Act.put] using h
theorem callx_any {i : Nat} {o : Oper} {K : Act → World → Prop} {a : Act} {w : World} {f : FuncId} {args : Array Value} (hi : ops[i]? = some o) (hw : Region.wanted o (yielded ops a.tmps) = true) (he : (execOp a.eval o).run P w = .ok (.enter f args) w)
    {R : Value → World → Prop} (hc : Calls P f args w (fun e w' => ∃ v, e = .returned v ∧ R v w')) (h : ∀ v w', R v w' → K (a.put o.dst v) w') : wpOp P ops Q i K a w := by
  refine wpOp_onY hi hw ?_
  unfold Oper.wp
  rw [he]
  refine hc.mono fun e w' ⟨v, h1, h2⟩ => ?_
  subst h1
  exact h v w' h2
end
/-- the argument's box and three results' lie in memory -/
structure At4 (w : World) (l0 l1 l2 : List Value) (z : Int) (wx : World) : Prop where
  below : Below w.heap.size w wx
  b0 : BlkV wx w.heap.size 26 l0
  b1 : BlkV wx (w.heap.size + 1) 26 l1
  b2 : BlkV wx (w.heap.size + 2) 32 l2
  b3 : BlkV wx (w.heap.size + 3) 28 [.int .i64 z]
theorem At4.on {w wx wy : World} {l0 l1 l2 : List Value} {z : Int} (h : At4 w l0 l1 l2 z wx) (hb : Below wx.heap.size wx wy) : At4 w l0 l1 l2 z wy :=
  ⟨h.below.trans (hb.mono h.below.size), h.b0.on hb, h.b1.on hb, h.b2.on hb, h.b3.on hb⟩
theorem At4.low {w wx wy : World} {l0 l1 l2 : List Value} {z : Int} {n : Nat} (h : At4 w l0 l1 l2 z wx) (hb : Below n wx wy) (hn : w.heap.size + 3 < n) : At4 w l0 l1 l2 z wy :=
  ⟨h.below.trans (hb.mono (by omega)), h.b0.low hb (by omega), h.b1.low hb (by omega), h.b2.low hb (by omega), h.b3.low hb (by omega)⟩
theorem ownK_lo {w : World} {base n : Nat} {a : Option Addr} {k c : Nat} {l : List Kk} (h : OwnK w base (.slice a k c) l) (hn : n < base) : ∀ b off sp, a = some ⟨b, off, sp⟩ → n < b := by
  rintro b off sp rfl
  rcases h.2 with ⟨e, -⟩ | ⟨g', cap', cur, e, hg, -, -⟩
  · cases e
  · cases e; omega
theorem ownS_lo {w : World} {base n : Nat} {a : Option Addr} {k c : Nat} {l : List ByteArray} (h : OwnS w base (.slice a k c) l) (hn : n < base) : ∀ b off sp, a = some ⟨b, off, sp⟩ → n < b := by
  rintro b off sp rfl
  rcases h.2 with ⟨e, -⟩ | ⟨g', cap', cur, e, hg, -, -⟩
  · cases e
  · cases e; omega
theorem KSl.via {w w' : World} {a : Option Addr} {l : List Kk} (h : KSl w a l) (hs : w.heap.size ≤ w'.heap.size) (hh : ∀ b off sp, a = some ⟨b, off, sp⟩ → w'.heap[b]? = w.heap[b]?) : KSl w' a l := by
  intro h0
  obtain ⟨b, off, ha, hlt, hc⟩ := h h0
  have e : ∀ i, w'.cell? ⟨b, i, none⟩ = w.cell? ⟨b, i, none⟩ := fun i => World.cell?_of_block (w := w) (hh _ _ _ ha)
  exact ⟨b, off, ha, Nat.lt_of_lt_of_le hlt hs, fun i hi => ⟨by rw [e]; exact (hc i hi).c0, by rw [e]; exact (hc i hi).c1, by rw [e]; exact (hc i hi).c2⟩⟩
theorem SSl.via {w w' : World} {a : Option Addr} {l : List ByteArray} (h : SSl w a l) (hs : w.heap.size ≤ w'.heap.size) (hh : ∀ b off sp, a = some ⟨b, off, sp⟩ → w'.heap[b]? = w.heap[b]?) : SSl w' a l := by
  intro h0
  obtain ⟨b, off, ha, hlt, hc⟩ := h h0
  have e : ∀ i, w'.cell? ⟨b, i, none⟩ = w.cell? ⟨b, i, none⟩ := fun i => World.cell?_of_block (w := w) (hh _ _ _ ha)
  exact ⟨b, off, ha, Nat.lt_of_lt_of_le hlt hs, fun i hi => by rw [e]; exact hc i hi⟩
/-- lists that lie neither in the argument's box nor in the results' -/
structure FarAt (w : World) (s : Se) (a b : Option Addr) (wx : World) : Prop where
  at_ : SeAt wx s a b
  ka : ∀ g off sp, a = some ⟨g, off, sp⟩ → w.heap.size + 3 < g
  ua : ∀ g off sp, b = some ⟨g, off, sp⟩ → w.heap.size + 3 < g
theorem FarAt.on {w wx wy : World} {s : Se} {a b : Option Addr} (h : FarAt w s a b wx) (hb : Below wx.heap.size wx wy) : FarAt w s a b wy := ⟨h.at_.on hb, h.ka, h.ua⟩
theorem FarAt.put {w wx : World} {s : Se} {a b : Option Addr} (h : FarAt w s a b wx) (B : Nat) (hB : B ≤ w.heap.size + 3) (vs : List Value) : FarAt w s a b (wx.setCells B 0 vs) :=
  ⟨⟨h.at_.kept.via (below_setCells (Nat.zero_le B) vs 0 wx (Below.refl 0 wx)).size fun g off sp e => heap_setCells_other B g (by have := h.ka g off sp e; omega) _ _ _,
    h.at_.used.via (below_setCells (Nat.zero_le B) vs 0 wx (Below.refl 0 wx)).size fun g off sp e => heap_setCells_other B g (by have := h.ua g off sp e; omega) _ _ _⟩, h.ka, h.ua⟩
theorem FarAt.put1 {w wx : World} {s : Se} {a b : Option Addr} (h : FarAt w s a b wx) (p : Addr) (hB : p.block ≤ w.heap.size + 3) (v : Value) : FarAt w s a b (wx.setCell p v) :=
  ⟨⟨h.at_.kept.via (by simp [World.setCell]) fun g off sp e => Below.heap_setCell _ _ _ _ (by have := h.ka g off sp e; omega),
    h.at_.used.via (by simp [World.setCell]) fun g off sp e => Below.heap_setCell _ _ _ _ (by have := h.ua g off sp e; omega)⟩, h.ka, h.ua⟩
/-- the argument has lists of the call's own -/
def ClonedAt (w : World) (s : Se) (wx : World) : Prop :=
  ∃ a c b d, At4 w (seL s a c b d) (seL se0 none 0 none 0) zeroY 0 wx ∧ FarAt w s a b wx ∧ s.kept.length ≤ c ∧ s.used.length ≤ d
/-- both stored -/
theorem cloned_at {w wx : World} {s : Se} {a : Option Addr} {c : Nat} {b : Option Addr} {d : Nat} (h : At4 w (seL s a c b d) (seL se0 none 0 none 0) zeroY 0 wx) (a' : Option Addr) (c' : Nat) (b' : Option Addr) (d' : Nat) (hk : KSl wx a' s.kept) (hu : SSl wx b' s.used) (hkc : s.kept.length ≤ c') (hud : s.used.length ≤ d')
    (hka : ∀ b off sp, a' = some ⟨b, off, sp⟩ → w.heap.size + 3 < b) (hua : ∀ b off sp, b' = some ⟨b, off, sp⟩ → w.heap.size + 3 < b) :
    ClonedAt w s ((wx.setCell ⟨w.heap.size, 8, none⟩ (.slice a' s.kept.length c')).setCell ⟨w.heap.size, 9, none⟩ (.slice b' s.used.length d')) := by
  have hb := (h.below.setCell (p := ⟨w.heap.size, 8, none⟩) (Nat.le_refl _) (.slice a' s.kept.length c')).setCell (p := ⟨w.heap.size, 9, none⟩) (Nat.le_refl _) (.slice b' s.used.length d')
  have f : ∀ {B : Nat} {t : TypeId} {l : List Value}, w.heap.size ≠ B → BlkV wx B t l → BlkV ((wx.setCell ⟨w.heap.size, 8, none⟩ (.slice a' s.kept.length c')).setCell ⟨w.heap.size, 9, none⟩ (.slice b' s.used.length d')) B t l := fun hne hB =>
    (hB.far ⟨w.heap.size, 8, none⟩ (fun e => hne e.symm) _).far ⟨w.heap.size, 9, none⟩ (fun e => hne e.symm) _
  have hf : FarAt w s a' b' wx := ⟨⟨hk, hu⟩, hka, hua⟩
  exact ⟨a', c', b', d', ⟨hb, (h.b0.set 8 _).set 9 _, f (by omega) h.b1, f (by omega) h.b2, f (by omega) h.b3⟩, (hf.put1 ⟨w.heap.size, 8, none⟩ (by show w.heap.size ≤ w.heap.size + 3; omega) _).put1 ⟨w.heap.size, 9, none⟩ (by show w.heap.size ≤ w.heap.size + 3; omega) _, hkc, hud⟩
theorem At4.put1 {w wx : World} {l0 l1 l2 : List Value} {z : Int} (h : At4 w l0 l1 l2 z wx) (l' : List Value) (hl : l'.length = l1.length) : At4 w l0 l' l2 z (wx.setCells (w.heap.size + 1) 0 l') :=
  ⟨below_setCells (by omega) _ _ _ h.below, h.b0.farS (by omega) _, h.b1.stored l' hl, h.b2.farS (by omega) _, h.b3.farS (by omega) _⟩
theorem At4.put2 {w wx : World} {l0 l1 l2 : List Value} {z : Int} (h : At4 w l0 l1 l2 z wx) (l' : List Value) (hl : l'.length = l2.length) : At4 w l0 l1 l' z (wx.setCells (w.heap.size + 2) 0 l') :=
  ⟨below_setCells (by omega) _ _ _ h.below, h.b0.farS (by omega) _, h.b1.farS (by omega) _, h.b2.stored l' hl, h.b3.farS (by omega) _⟩
theorem At4.put3 {w wx : World} {l0 l1 l2 : List Value} {z : Int} (h : At4 w l0 l1 l2 z wx) (k : Int) : At4 w l0 l1 l2 k (wx.setCell ⟨w.heap.size + 3, 0, none⟩ (.int .i64 k)) :=
  ⟨h.below.setCell (by show w.heap.size ≤ w.heap.size + 3; omega) _, h.b0.far _ (by show w.heap.size ≠ w.heap.size + 3; omega) _, h.b1.far _ (by show w.heap.size + 1 ≠ w.heap.size + 3; omega) _, h.b2.far _ (by show w.heap.size + 2 ≠ w.heap.size + 3; omega) _, h.b3.set 0 _⟩
end Go.Proofs.YtdnjieffbgmagaaDoor

/- Small laws of walks by hand: loads and calls in quiet regions, two and four blocks. -/
namespace Go.Proofs.YtdnjieffbgmagaaDoor
open Go.RowKit Go.Sort
set_option maxRecDepth 100000
section
variable {P : Program} {ops : Array Oper} {Q : Exit → Act → World → Prop} {C : World → Prop}
theorem load_qY {rest : List Oper} {o : Oper} {a : Act} {R : Act → Prop} (hw : Region.wanted o (yielded ops a.tmps) = true) (T : TypeId) (x : Operand) (ho : o.op = .load T x)
    (B : Nat) (hx : a.eval x = .pointer (some ⟨B, 0, none⟩)) {t : TypeId} {l : List Value} (hb : ∀ w, C w → BlkV w B t l) {d : TypeDesc} (hu : P.underlying T = some d) (hd : d.isRow = true) (hs : (P.info? T).map (·.size) = some l.length)
    (h : wpQuiet P ops C R rest (a.put o.dst (.agg l.toArray))) : wpQuiet P ops C R (o :: rest) a := by
  unfold wpQuiet
  rw [if_pos hw]
  refine ⟨.agg l.toArray, fun w hC => ?_, h⟩
  unfold Oper.quietAt execOp
  simp only [ho, hx, Instr.loadAt, Instr.sureAddr, Sem.run_bind, Sem.run_pure, Result.andThen_ok, run_loadVar_mid w B 0 T l d (hb w hC).range hu hd hs]
  exact ⟨rfl, rfl⟩
theorem load_gY {rest : List Oper} {o : Oper} {a : Act} {w : World} (hw : Region.wanted o (yielded ops a.tmps) = true) (T : TypeId) (x : Operand) (ho : o.op = .load T x)
    (B : Nat) (hx : a.eval x = .pointer (some ⟨B, 0, none⟩)) {t : TypeId} {l : List Value} (hb : BlkV w B t l) {d : TypeDesc} (hu : P.underlying T = some d) (hd : d.isRow = true) (hs : (P.info? T).map (·.size) = some l.length)
    (h : wpList P ops Q rest (a.put o.dst (.agg l.toArray)) w) : wpList P ops Q (o :: rest) a w :=
  wpList_step fun K hK => by
    rw [if_pos hw]
    exact wp_load_mid T x ho B 0 hx l d hb.range hu hd hs (hK _ _ h)
end
theorem callv_any {P : Program} {ops : Array Oper} {Q : Exit → Act → World → Prop} {i : Nat} {o : Oper} {K : Act → World → Prop} {a : Act} {w : World} {f : FuncId} {args : Array Value} (hi : ops[i]? = some o) (hw : Region.wanted o (yielded ops a.tmps) = true) (he : (execOp a.eval o).run P w = .ok (.enter f args) w)
    {v : Value} {R : World → Prop} (hc : Calls P f args w (fun e w' => e = .returned v ∧ R w')) (h : ∀ w', R w' → K (a.put o.dst v) w') : wpOp P ops Q i K a w := by
  refine wpOp_onY hi hw ?_
  unfold Oper.wp
  rw [he]
  refine hc.mono fun e w' ⟨h1, h2⟩ => ?_
  subst h1
  exact h w' h2
/-- a session's and a frame's box -/
structure TwoY (w : World) (n : Nat) (ls lf : List Value) (wx : World) : Prop where
  below : Below w.heap.size w wx
  hn : w.heap.size ≤ n
  one : BlkV wx n 26 ls
  two : BlkV wx (n + 1) 32 lf
theorem TwoY.on {w wx wy : World} {n : Nat} {ls lf : List Value} (h : TwoY w n ls lf wx) (hb : Below wx.heap.size wx wy) : TwoY w n ls lf wy := ⟨h.below.trans (hb.mono h.below.size), h.hn, h.one.on hb, h.two.on hb⟩
theorem TwoY.put1 {w wx : World} {n : Nat} {ls lf : List Value} (h : TwoY w n ls lf wx) (l' : List Value) (hl : l'.length = ls.length) : TwoY w n l' lf (wx.setCells n 0 l') :=
  ⟨below_setCells h.hn _ _ _ h.below, h.hn, h.one.stored l' hl, h.two.farS (by omega) _⟩
theorem TwoY.put2 {w wx : World} {n : Nat} {ls lf : List Value} (h : TwoY w n ls lf wx) (l' : List Value) (hl : l'.length = lf.length) : TwoY w n ls l' (wx.setCells (n + 1) 0 l') :=
  ⟨below_setCells (Nat.le_succ_of_le h.hn) _ _ _ h.below, h.hn, h.one.farS (by omega) _, h.two.stored l' hl⟩
def SealsIn (w : World) (ls lf : List Value) (t : ByteArray) (v : Value) (wx : World) : Prop := v = .string t ∧ TwoY w w.heap.size ls lf wx
theorem TwoY.farS {w wx : World} {n : Nat} {ls lf : List Value} (h : TwoY w n ls lf wx) (R : Nat) (hR : n + 1 < R) (vs : List Value) : TwoY w n ls lf (wx.setCells R 0 vs) :=
  ⟨below_setCells (by have := h.hn; omega) _ _ _ h.below, h.hn, h.one.farS (by omega) _, h.two.farS (by omega) _⟩
theorem yields_row {P : Program} {ops : Array Oper} {S : World → Prop} {o : Oper} {a : Act} (hw : Region.wanted o (yielded ops a.tmps) = true) (T : TypeId) (x : Operand) (ho : o.op = .load T x)
    (B : Nat) (hx : a.eval x = .pointer (some ⟨B, 0, none⟩)) {t : TypeId} {l : List Value} (hb : ∀ w, S w → BlkV w B t l) {d : TypeDesc} (hu : P.underlying T = some d) (hd : d.isRow = true) (hs : (P.info? T).map (·.size) = some l.length) : YieldsIf P ops S o (.agg l.toArray) a :=
  Or.inl ⟨hw, fun w hS => by
    unfold execOp
    simp only [ho, hx, Instr.loadAt, Instr.sureAddr, Sem.run_bind, Sem.run_pure, Result.andThen_ok, run_loadVar_mid w B 0 T l d (hb w hS).range hu hd hs]⟩
end Go.Proofs.YtdnjieffbgmagaaDoor
