/- DigestParts: it does not matter in which parts bytes come. -/
import Derived.Test.YtohoenkdfconpaaDoorDsame
namespace Go.Proofs.YtohoenkdfconpaaDoor
open Go.RowKit

def WRel (w : World) (u : S8) (r : List UInt8) (q : Nat) (s5 s6 : Value) (W : World) : Prop :=
  ∃ (B D : Nat) (x : ByteArray), s5 = .pointer (some ⟨B, 0, none⟩) ∧ s6 = .int .i64 0 ∧ HashAt W B D u x q ∧ bl x = r ∧ Bel w W
theorem FirstAt.bel {w0 w : World} (h : FirstAt w0) (hb : Bel w0 w) : FirstAt w := h.on hb.b
theorem KeysAt.bel {w0 w : World} (h : KeysAt w0) (hb : Bel w0 w) : KeysAt w := h.on hb.b
theorem WsAt.bel {w0 w : World} {v : Value} {l : List (BitVec 32)} (h : WsAt w0 v l) (hb : Bel w0 w) : WsAt w v l := h.on hb.b
theorem HashAt.bel {w0 w : World} {B D : Nat} {u : S8} {x : ByteArray} {q : Nat} (h : HashAt w0 B D u x q) (hb : Bel w0 w) : HashAt w B D u x q := h.on hb.b
theorem bel_three {w0 w : World} {B : Nat} {a b c : Value} (h0 : w0.cell? ⟨B, 0, none⟩ = some a) (h1 : w0.cell? ⟨B, 1, none⟩ = some b) (h2 : w0.cell? ⟨B, 2, none⟩ = some c) (hb : Bel w0 w) :
    (w.cell? ⟨B, 0, none⟩ = some a ∧ w.cell? ⟨B, 1, none⟩ = some b ∧ w.cell? ⟨B, 2, none⟩ = some c) ∧ Bel w0 w := by
  have hlt := World.block_lt_of_cell? w0 _ h0
  exact ⟨⟨by rw [hb.b.cell (p := ⟨B, 0, none⟩) hlt]; exact h0, by rw [hb.b.cell (p := ⟨B, 1, none⟩) hlt]; exact h1, by rw [hb.b.cell (p := ⟨B, 2, none⟩) hlt]; exact h2⟩, hb⟩
theorem bel_of3 {w0 w : World} {B : Nat} {a b c : Value} (h : (w.cell? ⟨B, 0, none⟩ = some a ∧ w.cell? ⟨B, 1, none⟩ = some b ∧ w.cell? ⟨B, 2, none⟩ = some c) ∧ Bel w0 w) : Bel w0 w := h.2
theorem few_any (a : Option Addr) (n c : Nat) (x : ByteArray) (m : Nat) (hx : x.size ≤ maxLen) (hn : n ≤ maxLen) (hnc : n ≤ c) (h0 : a = none → n = 0 ∧ c = 0) (w : World) :
    Calls Tryd.prog 10 #[.agg #[.slice a n c, .string x, .int .u64 (m : Int)]] w fun e w' => e = .returned (.agg #[.slice a (min n 9) c, .string (cutS x 66), .int .u64 (m : Int)]) ∧ Below w.heap.size w w' := by
  cases a with
  | none =>
    obtain ⟨rfl, rfl⟩ := h0 rfl
    exact few_none x m hx w
  | some a => exact few_some a n c x m hx hn hnc w
/-- a block of three that lies behind a call -/
theorem box3 {w w1 : World} {v0 v1 v2 : Value} {t : TypeId} (hb : Below (w.alloc (.cells #[v0, v1, v2] t)).heap.size (w.alloc (.cells #[v0, v1, v2] t)) w1) :
    (w1.cell? ⟨w.heap.size, 0, none⟩ = some v0 ∧ w1.cell? ⟨w.heap.size, 1, none⟩ = some v1 ∧ w1.cell? ⟨w.heap.size, 2, none⟩ = some v2) ∧
    (w1.frozen? ⟨w.heap.size, 0, none⟩ = false ∧ w1.frozen? ⟨w.heap.size, 1, none⟩ = false ∧ w1.frozen? ⟨w.heap.size, 2, none⟩ = false) ∧ w.heap.size < w1.heap.size ∧ Below w.heap.size w w1 := by
  have hH : w1.heap[w.heap.size]? = some (.cells #[v0, v1, v2] t) := by rw [hb.block _ (by simp)]; exact heap_alloc_new _ _
  exact ⟨⟨by rw [cell_of_row _ _ _ _ _ _ hH]; rfl, by rw [cell_of_row _ _ _ _ _ _ hH]; rfl, by rw [cell_of_row _ _ _ _ _ _ hH]; rfl⟩,
    ⟨frozen_of_row _ _ _ _ _ hH, frozen_of_row _ _ _ _ _ hH, frozen_of_row _ _ _ _ _ hH⟩, (Array.getElem?_eq_some_iff.1 hH).1, ((Below.refl _ _).alloc (Nat.le_refl _) _).trans (hb.mono (by simp))⟩
theorem set3 {w : World} {B : Nat} {v0 v1 v2 : Value} (h : w.cell? ⟨B, 0, none⟩ = some v0 ∧ w.cell? ⟨B, 1, none⟩ = some v1 ∧ w.cell? ⟨B, 2, none⟩ = some v2) (a b c : Value) :
    (((w.setCell ⟨B, 0, none⟩ a).setCell ⟨B, 1, none⟩ b).setCell ⟨B, 2, none⟩ c).cell? ⟨B, 0, none⟩ = some a ∧ (((w.setCell ⟨B, 0, none⟩ a).setCell ⟨B, 1, none⟩ b).setCell ⟨B, 2, none⟩ c).cell? ⟨B, 1, none⟩ = some b ∧
    (((w.setCell ⟨B, 0, none⟩ a).setCell ⟨B, 1, none⟩ b).setCell ⟨B, 2, none⟩ c).cell? ⟨B, 2, none⟩ = some c :=
  ⟨setCell_far (setCell_far (World.cell?_setCell_same _ ⟨B, 0, none⟩ _ h.1) (by omega)) (by omega), setCell_far (World.cell?_setCell_same _ ⟨B, 1, none⟩ _ (setCell_far h.2.1 (by omega))) (by omega),
    World.cell?_setCell_same _ ⟨B, 2, none⟩ _ (setCell_far (setCell_far h.2.2 (by omega)) (by omega))⟩

/-- a sum on its way behind more bytes may be -/
theorem right_next {x y p : ByteArray} {m : Nat} (hr : rightB 8 x.size m = true) (hy : bl y = restOf (bl x ++ bl p)) : rightB 8 y.size ((m + p.size) % 18446744073709551616) = true := by
  unfold rightB at *
  have h1 := restOf_length (bl x ++ bl p)
  rw [← hy, List.length_append, bl_length, bl_length, bl_length] at h1
  simp at hr ⊢
  omega
set_option maxRecDepth 100000 in
set_option maxHeartbeats 8000000 in
theorem parts_good (a : Option Addr) (n c : Nat) (x s : ByteArray) (m : Nat) (i j : Int) (hx : x.size ≤ maxLen) (hn : n ≤ maxLen) (hnc : n ≤ c) (h0 : a = none → n = 0 ∧ c = 0) (hs : s.size ≤ maxLen) (hm : m < 18446744073709551616)
    (hi : -9223372036854775808 ≤ i ∧ i ≤ 9223372036854775807) (hj : -9223372036854775808 ≤ j ∧ j ≤ 9223372036854775807) (l : List (BitVec 32)) (w : World) (hv : WSl w a (min n 9) l) (hr : rightB (min n 9) (cutS x 66).size m = true) (hF : FirstAt w) (hK : KeysAt w) :
    Calls Tryd.prog 5 #[.agg #[.slice a n c, .string x, .int .u64 (m : Int)], .string s, .int .i64 i, .int .i64 j] w fun e w' => e = .returned (.bool true) ∧ Below w.heap.size w w' := by
  have hfew := few_any a n c x m hx hn hnc h0
  have hcut0 := cut_any s hs
  have hb300 := cutS_size s 300
  obtain ⟨b, hbb⟩ : ∃ b, cutS s 300 = b := ⟨_, rfl⟩
  rw [hbb] at hcut0 hb300
  obtain ⟨y0, hy0⟩ : ∃ y, cutS x 66 = y := ⟨_, rfl⟩
  rw [hy0] at hfew hr
  have hr' : min n 9 = 8 ∧ y0.size < 64 ∧ m % 64 = y0.size := by unfold rightB at hr; simpa using hr
  rw [hr'.1] at hfew hr hv
  have hl8 : l.length = 8 := hv.1
  obtain ⟨s0, rfl⟩ := S8.of_list l hl8
  have hws0 := hv.ws (c := c) (by omega)
  have HFew := Lib.hid hfew; have HCut := Lib.hid hcut0; have HR := Lib.hid hr; have HR' := Lib.hid hr'; have HB := Lib.hid hb300
  clear hfew hcut0 hr hr' hv hl8 hbb hy0 hx hs hn hnc h0
  go_enter Tryd.func5, Tryd.ntmps5
  go_upto_region 2 with (first | (go_at_call 10; refine (HFew.out _).mono ?_; rintro e w1 ⟨rfl, hb1⟩; obtain ⟨hz, ⟨f0, f1, f2⟩, hzl, hzb⟩ := box3 hb1; obtain ⟨z0, z1, z2⟩ := id hz; clear hb1) | (go_at_call 11; refine (HCut.out _).mono ?_; rintro e w' ⟨rfl, rfl⟩))
  have hs3 := set3 hz (.slice a 8 c) (.string y0) (.int .u64 (m : Int))
  have hbs : Below w.heap.size w _ := ((hzb.setCell (p := ⟨w.heap.size, 0, none⟩) (Nat.le_refl _) (.slice a 8 c)).setCell (p := ⟨w.heap.size, 1, none⟩) (Nat.le_refl _) (.string y0)).setCell (p := ⟨w.heap.size, 2, none⟩) (Nat.le_refl _) (.int .u64 (m : Int))
  clear hz f0 f1 f2 z0 z1 z2 hzl hzb HFew HCut
  generalize World.setCell (World.setCell (World.setCell w1 _ _) _ _) _ _ = V at hs3 hbs ⊢
  obtain ⟨c0, c1, c2⟩ := hs3
  replace hws0 := hws0.on hbs
  replace hF := hF.on hbs
  replace hK := hK.on hbs
  have hwr := fun W h1 h2 => write_good a 8 c s0 y0 b m hm HR.out (by have := HB.out; omega) W h1 h2
  obtain ⟨q, hq⟩ : ∃ q, (m + b.size) % 18446744073709551616 = q := ⟨_, rfl⟩
  obtain ⟨u, hu⟩ : ∃ u, mixAll s0 (bl y0 ++ bl b) = u := ⟨_, rfl⟩
  obtain ⟨r, hrr⟩ : ∃ r, restOf (bl y0 ++ bl b) = r := ⟨_, rfl⟩
  rw [hq, hu, hrr] at hwr
  have HWR := Lib.hid hwr; have HQ := Lib.hid hq; have HU := Lib.hid hu; have HRR := Lib.hid hrr
  have hws := Lib.hid hws0; have hF := Lib.hid hF; have hK := Lib.hid hK; have hbs := Lib.hid hbs
  clear hwr hq hu hrr
  have hc := (⟨c0, c1, c2⟩ : _ ∧ _ ∧ _)
  go_upto_region 3 with (go_at_call 12; refine (HWR.out _ hws.out hK.out).mono ?_; rintro e w2 ⟨D3, y3, rfl, hblk2, hy2, hb⟩)
  have hW := HashAt.laid hblk2 y3 q
  have hbel : Bel V (w2.alloc (.cells #[.slice (some ⟨D3, 0, none⟩) 8 8, .string y3, .int .u64 (q : Int)] 25)) := ((Bel.refl V).on hb).alloc _
  generalize World.alloc w2 _ = V2 at hW hbel ⊢
  generalize w2.heap.size = B3 at hW ⊢
  obtain ⟨c0, c1, c2⟩ := (bel_three hc.1 hc.2.1 hc.2.2 hbel).1
  have hws := Lib.hid (hws.out.bel hbel); have hF := Lib.hid (hF.out.bel hbel); have hK := Lib.hid (hK.out.bel hbel); have hbs := Lib.hid (hbs.out.trans (hbel.b.mono hbs.out.size))
  have hW := Lib.hid hW
  have HY3 := Lib.hid hy2
  clear hc hblk2 hb HWR hbel hy2
  obtain ⟨t, k, e1, t0, t1, e2, hk⟩ := part_ex b.size hb300 i hi
  have e3 : IntKind.i64.wrap t = t := IntWalk.i64_in _ (by omega)
  obtain ⟨t', k2, e4, t2, t3, e5, hk2⟩ := part_ex (b.size - k) (by omega) j hj
  rw [show ((b.size - k : Nat) : Int) = (b.size : Int) - (k : Int) by omega] at e4 t2 t3 e5
  have e6 : IntKind.i64.wrap t' = t' := IntWalk.i64_in _ (by omega)
  have e5' : (t' + (b.size : Int) - (k : Int) + 1) % ((b.size : Int) - (k : Int) + 1) = (k2 : Int) := by rw [← e5]; congr 1; omega
  have g1 : (0 : Int) ≤ t + (b.size : Int) + 1 := by omega
  have g2 : (0 : Int) ≤ t' + (b.size : Int) - (k : Int) + 1 := by omega
  have l1 : (k : Int) ≤ (b.size : Int) := by omega
  have l2 : (k : Int) + (k2 : Int) ≤ (b.size : Int) := by omega
  have l3 : (b.size : Int) ≤ 300 := by omega
  clear e5
  go_upto_region 7 with fail
  simp only [e2, e5']
  clear e1 e2 e3 e4 e5' e6 t0 t1 t2 t3 g1 g2 hi hj
  obtain ⟨p1, hp1⟩ : ∃ p, p = b.extract 0 k := ⟨_, rfl⟩
  obtain ⟨p2, hp2⟩ : ∃ p, p = b.extract k (k + k2) := ⟨_, rfl⟩
  obtain ⟨p3, hp3⟩ : ∃ p, p = b.extract (k + k2) b.size := ⟨_, rfl⟩
  have hsl1 : ∀ W : World, (Instr.slice 9 (.string b) none (some (.int .i64 (k : Int))) none).run Tryd.prog W = .ok (.string p1) W := by
    intro W; rw [hp1]; go_simp
  have hsl2 : ∀ W : World, (Instr.slice 9 (.string b) (some (.int .i64 (k : Int))) (some (.int .i64 ((k : Int) + (k2 : Int)))) none).run Tryd.prog W = .ok (.string p2) W := by
    intro W; rw [hp2]; exact str_slice _ Tryd.underlying9 _ _ _ k (k + k2) rfl (by omega) (by omega) (by omega) W
  have hsl3 : ∀ W : World, (Instr.slice 9 (.string b) (some (.int .i64 ((k : Int) + (k2 : Int)))) none none).run Tryd.prog W = .ok (.string p3) W := by
    intro W
    rw [hp3]
    have e : ((k : Int) + (k2 : Int)).toNat = k + k2 := by omega
    have e' : (0 : Int) ≤ (k : Int) + (k2 : Int) := by omega
    go_simp
  have hwk : IntKind.i64.wrap ((k : Int) + (k2 : Int)) = (k : Int) + (k2 : Int) := IntWalk.i64_in _ (by omega)
  have hs1 : p1.size = k := by rw [hp1, ByteArray.size_extract]; omega
  have hs2 : p2.size = k2 := by rw [hp2, ByteArray.size_extract]; omega
  have hs3 : p3.size ≤ 300 := by rw [hp3, ByteArray.size_extract]; omega
  have hcat : bl p1 ++ bl p2 ++ bl p3 = bl b := by
    rw [hp1, hp2, hp3, bl_extract, bl_extract, bl_extract, List.drop_zero, List.take_of_length_le (i := b.size) (by rw [bl_length]; exact Nat.le_refl _)]
    have : (bl b).take k ++ ((bl b).take (k + k2)).drop k = (bl b).take (k + k2) := by
      have := List.take_append_drop k ((bl b).take (k + k2))
      rwa [List.take_take, Nat.min_eq_left (by omega)] at this
    rw [this, List.take_append_drop]
  have hsum : p1.size + p2.size + p3.size = b.size := by
    have := congrArg List.length hcat
    simp [bl_length] at this; omega
  obtain ⟨u1, hu1⟩ : ∃ u, mixAll s0 (bl y0 ++ bl p1) = u := ⟨_, rfl⟩
  obtain ⟨r1, hr1⟩ : ∃ r, restOf (bl y0 ++ bl p1) = r := ⟨_, rfl⟩
  obtain ⟨q1, hq1⟩ : ∃ q, (m + p1.size) % 18446744073709551616 = q := ⟨_, rfl⟩
  have hwr := fun W h1 h2 => write_good a 8 c s0 y0 p1 m hm HR.out (by omega) W h1 h2
  rw [hu1, hr1, hq1] at hwr
  have HWR := Lib.hid hwr
  have HU1 := Lib.hid hu1; have HR1 := Lib.hid hr1; have HQ1 := Lib.hid hq1; have HS1 := Lib.hid hs1; have HS2 := Lib.hid hs2; have HS3 := Lib.hid hs3; have HCAT := Lib.hid hcat; have HSUM := Lib.hid hsum
  clear hwr hu1 hr1 hq1 hs1 hs2 hs3 hcat hsum hp1 hp2 hp3 hws0 hb300
  go_cut [11, 12] (WRel V2 u1 r1 q1)
  case first =>
    have hb0 := Bel.refl V2
    go_region_held3 (fun w' => (w'.cell? ⟨w.heap.size, 0, none⟩ = some (.slice a 8 c) ∧ w'.cell? ⟨w.heap.size, 1, none⟩ = some (.string y0) ∧ w'.cell? ⟨w.heap.size, 2, none⟩ = some (.int .u64 (m : Int))) ∧ Bel V2 w')
      ((refine bel_three c0 c1 c2 ?_; (repeat ((with_reducible refine Bel.far ?_ ?far _); (case far => first | exact Nat.le_refl _ | assumption | (simp; done) | (simp; omega) | omega))); first | with_reducible assumption | exact bel_of3 (by with_reducible assumption) | ((with_reducible refine Bel.drew ?_); with_reducible assumption) | ((with_reducible refine Bel.drew ?_); (with_reducible refine Bel.alloc ?_ _); with_reducible assumption) | ((with_reducible refine Bel.on ?_ hb); exact bel_of3 (by with_reducible assumption)) | ((with_reducible refine Bel.alloc ?_ _); exact bel_of3 (by with_reducible assumption)) | exact Bel.swap (bel_of3 (by with_reducible assumption)) hle1 _))
      (first | (go_at_call 12; refine (HWR.out _ (WsAt.bel hws.out (bel_of3 (by with_reducible assumption))) (KeysAt.bel hK.out (bel_of3 (by with_reducible assumption)))).mono ?_; rintro e w' ⟨D3, y3, rfl, hblk2, hy2, hb⟩; have hle1 := (Bel.b (Bel.on (w0 := V2) (bel_of3 (by with_reducible assumption)) hb)).size; (first | (have zh := Zh.first (by with_reducible exact hb) (by rfl); obtain ⟨⟨z0, z1, z2⟩, ⟨f0, f1, f2⟩, zlt⟩ := zh.open) | (have zh := Zh.firstd (by with_reducible exact hb) (by rfl); obtain ⟨⟨z0, z1, z2⟩, ⟨f0, f1, f2⟩, zlt⟩ := zh.open) | (have zh := Zh.on (by with_reducible assumption) hb; obtain ⟨⟨z0, z1, z2⟩, ⟨f0, f1, f2⟩, zlt⟩ := zh.open) | skip)))
    · have hh := HashAt.laid hblk2 y3 q1
      go_wp2_with fail
      go_meet
      exact ⟨_, _, y3, rfl, rfl, hh, hy2, bel_of3 (by with_reducible assumption)⟩
    all_goals
      have hh := zh.put hblk2 y3 q1
      go_wp2_with fail
      go_meet
      exact ⟨_, _, y3, rfl, rfl, hh, hy2, bel_of3 (by with_reducible assumption)⟩
  case rest =>
    obtain ⟨B4, D4, y1, rfl, rfl, hA, hy1, hbel⟩ := hcut
    obtain ⟨V4, rfl⟩ : ∃ V : World, V = wc := ⟨_, rfl⟩
    have hF := Lib.hid (hF.out.bel hbel); have hK := Lib.hid (hK.out.bel hbel); have hbs := Lib.hid (hbs.out.trans (hbel.b.mono hbs.out.size)); have hW := Lib.hid (hW.out.bel hbel)
    have hr1 := right_next HR.out (hy1.trans HR1.out.symm)
    rw [HQ1.out] at hr1
    obtain ⟨u2, hu2⟩ : ∃ u, mixAll u1 (bl y1 ++ bl p2) = u := ⟨_, rfl⟩
    obtain ⟨r2, hr2⟩ : ∃ r, restOf (bl y1 ++ bl p2) = r := ⟨_, rfl⟩
    obtain ⟨q2, hq2⟩ : ∃ q, (q1 + p2.size) % 18446744073709551616 = q := ⟨_, rfl⟩
    have hwr := fun W h1 h2 => write_good (some ⟨D4, 0, none⟩) 8 8 u1 y1 p2 q1 (by have := HQ1.out; omega) hr1 (by have := HS2.out; omega) W h1 h2
    rw [hu2, hr2, hq2] at hwr
    have hu2' : mixAll s0 (bl y0 ++ bl p1 ++ bl p2) = u2 := by rw [← hu2, ← HU1.out, hy1, ← HR1.out, mix_app]
    have hr2' : restOf (bl y0 ++ bl p1 ++ bl p2) = r2 := by rw [← hr2, hy1, ← HR1.out, rest_app]
    have hq2' : (m + p1.size + p2.size) % 18446744073709551616 = q2 := by rw [← hq2, ← HQ1.out]; omega
    have HWR := Lib.hid hwr; have HR2 := Lib.hid hr1; have HU2 := Lib.hid hu2'; have HRR2 := Lib.hid hr2'; have HQ2 := Lib.hid hq2'; have HR2E := Lib.hid hr2; have HQ2E := Lib.hid hq2
    have hws := Lib.hid (hA.blk.ws 8 8 rfl)
    obtain ⟨c0, c1, c2⟩ := (⟨hA.c0, hA.c1, hA.c2⟩ : _ ∧ _ ∧ _)
    clear hwr hr1 hu2 hr2 hq2 hu2' hr2' hq2' hA hy1 hbel hsl1
    go_wp2_with fail
    go_cut [13, 14] (WRel V4 u2 r2 q2)
    case first =>
      have hb0 := Bel.refl V4
      go_region_held3 (fun w' => (w'.cell? ⟨B4, 0, none⟩ = some (.slice (some ⟨D4, 0, none⟩) 8 8) ∧ w'.cell? ⟨B4, 1, none⟩ = some (.string y1) ∧ w'.cell? ⟨B4, 2, none⟩ = some (.int .u64 (q1 : Int))) ∧ Bel V4 w')
        ((refine bel_three c0 c1 c2 ?_; (repeat ((with_reducible refine Bel.far ?_ ?far _); (case far => first | exact Nat.le_refl _ | assumption | (simp; done) | (simp; omega) | omega))); first | with_reducible assumption | exact bel_of3 (by with_reducible assumption) | ((with_reducible refine Bel.drew ?_); with_reducible assumption) | ((with_reducible refine Bel.drew ?_); (with_reducible refine Bel.alloc ?_ _); with_reducible assumption) | ((with_reducible refine Bel.on ?_ hb); exact bel_of3 (by with_reducible assumption)) | ((with_reducible refine Bel.alloc ?_ _); exact bel_of3 (by with_reducible assumption)) | exact Bel.swap (bel_of3 (by with_reducible assumption)) hle1 _))
        (first | (go_at_call 12; refine (HWR.out _ (WsAt.bel hws.out (bel_of3 (by with_reducible assumption))) (KeysAt.bel hK.out (bel_of3 (by with_reducible assumption)))).mono ?_; rintro e w' ⟨D3, y3, rfl, hblk2, hy2, hb⟩; have hle1 := (Bel.b (Bel.on (w0 := V4) (bel_of3 (by with_reducible assumption)) hb)).size; (first | (have zh := Zh.first (by with_reducible exact hb) (by rfl); obtain ⟨⟨z0, z1, z2⟩, ⟨f0, f1, f2⟩, zlt⟩ := zh.open) | (have zh := Zh.firstd (by with_reducible exact hb) (by rfl); obtain ⟨⟨z0, z1, z2⟩, ⟨f0, f1, f2⟩, zlt⟩ := zh.open) | (have zh := Zh.on (by with_reducible assumption) hb; obtain ⟨⟨z0, z1, z2⟩, ⟨f0, f1, f2⟩, zlt⟩ := zh.open) | skip)))
      · have hh := HashAt.laid hblk2 y3 q2
        go_wp2_with fail
        go_meet
        exact ⟨_, _, y3, rfl, rfl, hh, hy2, bel_of3 (by with_reducible assumption)⟩
      all_goals
        have hh := zh.put hblk2 y3 q2
        go_wp2_with fail
        go_meet
        exact ⟨_, _, y3, rfl, rfl, hh, hy2, bel_of3 (by with_reducible assumption)⟩
    case rest =>
      obtain ⟨B5, D5, y2, rfl, rfl, hA, hy2, hbel⟩ := hcut
      obtain ⟨V5, rfl⟩ : ∃ V : World, V = wc := ⟨_, rfl⟩
      have hF := Lib.hid (hF.out.bel hbel); have hK := Lib.hid (hK.out.bel hbel); have hbs := Lib.hid (hbs.out.trans (hbel.b.mono hbs.out.size)); have hW := Lib.hid (hW.out.bel hbel)
      have hr1 := right_next HR2.out (hy2.trans HR2E.out.symm)
      rw [HQ2E.out] at hr1
      have hwr := fun W h1 h2 => write_good (some ⟨D5, 0, none⟩) 8 8 u2 y2 p3 q2 (by have := HQ2.out; omega) hr1 (by have := HS3.out; omega) W h1 h2
      have e1 : mixAll u2 (bl y2 ++ bl p3) = u := by rw [← HU2.out, hy2, ← HRR2.out, mix_app, ← HU.out, ← HCAT.out]; simp only [List.append_assoc]
      have e2 : restOf (bl y2 ++ bl p3) = r := by rw [hy2, ← HRR2.out, rest_app, ← HRR.out, ← HCAT.out]; simp only [List.append_assoc]
      have e3 : (q2 + p3.size) % 18446744073709551616 = q := by have h1 := HQ2.out; have h2 := HQ.out; have h3 := HSUM.out; omega
      rw [e1, e2, e3] at hwr
      have HWR := Lib.hid hwr; have HR3 := Lib.hid hr1; have hA2 := Lib.hid hA
      have hws := Lib.hid (hA.blk.ws 8 8 rfl)
      obtain ⟨c0, c1, c2⟩ := (⟨hA.c0, hA.c1, hA.c2⟩ : _ ∧ _ ∧ _)
      clear hwr hr1 hA hbel hsl2 e1 e2 e3 hy2
      go_wp2_with fail
      go_cut [15, 16] (WRel V5 u r q)
      case first =>
        have hb0 := Bel.refl V5
        go_region_held3 (fun w' => (w'.cell? ⟨B5, 0, none⟩ = some (.slice (some ⟨D5, 0, none⟩) 8 8) ∧ w'.cell? ⟨B5, 1, none⟩ = some (.string y2) ∧ w'.cell? ⟨B5, 2, none⟩ = some (.int .u64 (q2 : Int))) ∧ Bel V5 w')
          ((refine bel_three c0 c1 c2 ?_; (repeat ((with_reducible refine Bel.far ?_ ?far _); (case far => first | exact Nat.le_refl _ | assumption | (simp; done) | (simp; omega) | omega))); first | with_reducible assumption | exact bel_of3 (by with_reducible assumption) | ((with_reducible refine Bel.drew ?_); with_reducible assumption) | ((with_reducible refine Bel.drew ?_); (with_reducible refine Bel.alloc ?_ _); with_reducible assumption) | ((with_reducible refine Bel.on ?_ hb); exact bel_of3 (by with_reducible assumption)) | ((with_reducible refine Bel.alloc ?_ _); exact bel_of3 (by with_reducible assumption)) | exact Bel.swap (bel_of3 (by with_reducible assumption)) hle1 _))
          (first | (go_at_call 12; refine (HWR.out _ (WsAt.bel hws.out (bel_of3 (by with_reducible assumption))) (KeysAt.bel hK.out (bel_of3 (by with_reducible assumption)))).mono ?_; rintro e w' ⟨D3, y3, rfl, hblk2, hy2, hb⟩; have hle1 := (Bel.b (Bel.on (w0 := V5) (bel_of3 (by with_reducible assumption)) hb)).size; (first | (have zh := Zh.first (by with_reducible exact hb) (by rfl); obtain ⟨⟨z0, z1, z2⟩, ⟨f0, f1, f2⟩, zlt⟩ := zh.open) | (have zh := Zh.firstd (by with_reducible exact hb) (by rfl); obtain ⟨⟨z0, z1, z2⟩, ⟨f0, f1, f2⟩, zlt⟩ := zh.open) | (have zh := Zh.on (by with_reducible assumption) hb; obtain ⟨⟨z0, z1, z2⟩, ⟨f0, f1, f2⟩, zlt⟩ := zh.open) | skip)))
        · have hh := HashAt.laid hblk2 y3 q
          go_wp2_with fail
          go_meet
          exact ⟨_, _, y3, rfl, rfl, hh, hy2, bel_of3 (by with_reducible assumption)⟩
        all_goals
          have hh := zh.put hblk2 y3 q
          go_wp2_with fail
          go_meet
          exact ⟨_, _, y3, rfl, rfl, hh, hy2, bel_of3 (by with_reducible assumption)⟩
      case rest =>
        obtain ⟨B6, D6, y5, rfl, rfl, hC, hy5, hbel⟩ := hcut
        obtain ⟨V6, rfl⟩ : ∃ V : World, V = wc := ⟨_, rfl⟩
        obtain rfl : y5 = y3 := bl_inj (hy5.trans HY3.out.symm)
        have hF := Lib.hid (hF.out.bel hbel); have hK := Lib.hid (hK.out.bel hbel); have hbs := Lib.hid (hbs.out.trans (hbel.b.mono hbs.out.size)); have hW := hW.out.bel hbel; have hA2 := hA2.out.bel hbel
        have hry := right_next HR.out (hy5.trans HRR.out.symm)
        rw [HQ.out] at hry
        have hqlt : q < 18446744073709551616 := by have := HQ.out; omega
        have hyl : y5.size < 64 := by unfold rightB at hry; simp at hry; omega
        have hsm := fun D W h1 h2 => sum_good (some ⟨D, 0, none⟩) 8 8 u y5 q hqlt hry W h1 h2
        obtain ⟨S, hSS⟩ : ∃ S, strL (sumL u (bl y5) q) = S := ⟨_, rfl⟩
        rw [hSS] at hsm
        have hS32 : S.size = 32 := by rw [← hSS, strL_size, sumL_length]
        have hsame := fun D D' W h1 h2 => same_any (some ⟨D, 0, none⟩) (some ⟨D', 0, none⟩) 8 8 8 8 u.l u.l y5 y5 q q (by unfold maxLen; omega) (by unfold maxLen; omega) W h1 h2
        have hst : sameB u.l u.l y5 y5 q q = true := by unfold sameB; simp
        rw [hst] at hsame
        have hright := fun D W => right_any (some ⟨D, 0, none⟩) 8 8 y5 q hqlt (by unfold maxLen; omega) W
        rw [hry] at hright
        have hright2 := fun D W => right_any (some ⟨D, 0, none⟩) 8 8 y2 q2 (by have := HQ2.out; omega) (by have := HR3.out; unfold rightB at this; simp at this; unfold maxLen; omega) W
        rw [HR3.out] at hright2
        have HSM := Lib.hid hsm; have HSAME := Lib.hid hsame; have HRI := Lib.hid hright; have HRI2 := Lib.hid hright2
        have hC := Lib.hid hC; have hW := Lib.hid hW; have hA2 := Lib.hid hA2
        have hsz : (S.size : Int) = 32 := by omega
        have HSZ := Lib.hid hsz
        clear hsm hsame hright hright2 hst hry hSS hS32 hsz hbel hsl3 hy5 hqlt hyl
        clear HWR HR3 HU2 HRR2 HQ2 HR2E HQ2E HR2 HU1 HR1 HQ1 HS1 HS2 HS3 HCAT HSUM HQ HU HRR HR HY3 hws c0 c1 c2
        obtain ⟨c0, c1, c2⟩ := (⟨hC.out.c0, hC.out.c1, hC.out.c2⟩ : _ ∧ _ ∧ _)
        go_wp2_with fail
        refine (HSM.out D6 _ (hC.out.blk.ws 8 8 rfl) hK.out).mono ?_
        rintro e X1 ⟨rfl, hb⟩
        have hF := Lib.hid (hF.out.on hb); have hK := Lib.hid (hK.out.on hb); have hbs := Lib.hid (hbs.out.trans (hb.mono hbs.out.size)); have hW := Lib.hid (hW.out.on hb); have hC := Lib.hid (hC.out.on hb); have hA2 := Lib.hid (hA2.out.on hb)
        clear hb c0 c1 c2
        obtain ⟨c0, c1, c2⟩ := (⟨hW.out.c0, hW.out.c1, hW.out.c2⟩ : _ ∧ _ ∧ _)
        go_wp2_with fail
        refine (HSM.out D3 _ (hW.out.blk.ws 8 8 rfl) hK.out).mono ?_
        rintro e X2 ⟨rfl, hb⟩
        have hF := Lib.hid (hF.out.on hb); have hK := Lib.hid (hK.out.on hb); have hbs := Lib.hid (hbs.out.trans (hb.mono hbs.out.size)); have hW := Lib.hid (hW.out.on hb); have hC := Lib.hid (hC.out.on hb); have hA2 := Lib.hid (hA2.out.on hb)
        clear hb c0 c1 c2
        obtain ⟨c0, c1, c2⟩ := (⟨hW.out.c0, hW.out.c1, hW.out.c2⟩ : _ ∧ _ ∧ _)
        go_wp2_with fail
        refine (HSM.out D3 _ (hW.out.blk.ws 8 8 rfl) hK.out).mono ?_
        rintro e X3 ⟨rfl, hb⟩
        have hF := Lib.hid (hF.out.on hb); have hK := Lib.hid (hK.out.on hb); have hbs := Lib.hid (hbs.out.trans (hb.mono hbs.out.size)); have hW := Lib.hid (hW.out.on hb); have hC := Lib.hid (hC.out.on hb); have hA2 := Lib.hid (hA2.out.on hb)
        clear hb c0 c1 c2 HSM
        have HA := Lib.hid (alive_any X3 hF.out hK.out)
        go_wp2_with fail
        refine HA.out.mono ?_
        rintro e X4 ⟨rfl, hb⟩
        have hbs := Lib.hid (hbs.out.trans (hb.mono hbs.out.size)); have hW := Lib.hid (hW.out.on hb); have hC := Lib.hid (hC.out.on hb); have hA2 := Lib.hid (hA2.out.on hb)
        clear hb HA
        obtain ⟨c0, c1, c2⟩ := (⟨hW.out.c0, hW.out.c1, hW.out.c2⟩ : _ ∧ _ ∧ _)
        obtain ⟨d0, d1, d2⟩ := (⟨hC.out.c0, hC.out.c1, hC.out.c2⟩ : _ ∧ _ ∧ _)
        go_wp2_with fail
        refine (HSAME.out D6 D3 _ (WSl.of8 hC.out.blk 8 rfl) (WSl.of8 hW.out.blk 8 rfl)).mono ?_
        rintro e X5 ⟨rfl, hb⟩
        have hbs := Lib.hid (hbs.out.trans (hb.mono hbs.out.size)); have hW := Lib.hid (hW.out.on hb); have hA2 := Lib.hid (hA2.out.on hb)
        clear hb c0 c1 c2 d0 d1 d2 HSAME hC
        obtain ⟨c0, c1, c2⟩ := (⟨hW.out.c0, hW.out.c1, hW.out.c2⟩ : _ ∧ _ ∧ _)
        have hsz := HSZ.out
        go_wp2_with fail
        refine (HRI.out D3 _).mono ?_
        rintro e X6 ⟨rfl, hb⟩
        have hbs := Lib.hid (hbs.out.trans (hb.mono hbs.out.size)); have hA2 := Lib.hid (hA2.out.on hb)
        clear hb c0 c1 c2 hsz HSZ
        obtain ⟨c0, c1, c2⟩ := (⟨hA2.out.c0, hA2.out.c1, hA2.out.c2⟩ : _ ∧ _ ∧ _)
        go_wp2_with fail
        refine (HRI2.out D5 _).mono ?_
        rintro e X7 ⟨rfl, hb⟩
        clear c0 c1 c2
        go_wp2_with fail
        go_ret
        exact ⟨rfl, hbs.out.trans (hb.mono hbs.out.size)⟩

set_option maxRecDepth 100000 in
set_option maxHeartbeats 4000000 in
theorem parts_bad (a : Option Addr) (n c : Nat) (x s : ByteArray) (m : Nat) (i j : Int) (hx : x.size ≤ maxLen) (hn : n ≤ maxLen) (hnc : n ≤ c) (h0 : a = none → n = 0 ∧ c = 0) (hs : s.size ≤ maxLen) (hm : m < 18446744073709551616)
    (w : World) (hr : rightB (min n 9) (cutS x 66).size m = false) (hF : FirstAt w) (hK : KeysAt w) :
    Calls Tryd.prog 5 #[.agg #[.slice a n c, .string x, .int .u64 (m : Int)], .string s, .int .i64 i, .int .i64 j] w fun e w' => e = .returned (.bool true) ∧ Below w.heap.size w w' := by
  have hfew := few_any a n c x m hx hn hnc h0
  have hcut0 := cut_any s hs
  have hy66 := cutS_size x 66
  generalize cutS s 300 = b at hcut0
  generalize cutS x 66 = y0 at hfew hr hy66
  generalize min n 9 = n' at hfew hr
  have hwr := fun W => write_bad a n' c y0 b m hm (by unfold maxLen; omega) hr W
  have HFew := Lib.hid hfew; have HCut := Lib.hid hcut0; have HWR := Lib.hid hwr; have hF := Lib.hid hF; have hK := Lib.hid hK
  clear hfew hcut0 hr hx hs hn hnc h0 hwr hy66
  go_enter Tryd.func5, Tryd.ntmps5
  go_upto_region 2 with (first | (go_at_call 10; refine (HFew.out _).mono ?_; rintro e w1 ⟨rfl, hb1⟩; obtain ⟨hz, ⟨f0, f1, f2⟩, hzl, hzb⟩ := box3 hb1; obtain ⟨z0, z1, z2⟩ := id hz; clear hb1) | (go_at_call 11; refine (HCut.out _).mono ?_; rintro e w' ⟨rfl, rfl⟩))
  have hs3 := set3 hz (.slice a n' c) (.string y0) (.int .u64 (m : Int))
  have hbs : Below w.heap.size w _ := ((hzb.setCell (p := ⟨w.heap.size, 0, none⟩) (Nat.le_refl _) (.slice a n' c)).setCell (p := ⟨w.heap.size, 1, none⟩) (Nat.le_refl _) (.string y0)).setCell (p := ⟨w.heap.size, 2, none⟩) (Nat.le_refl _) (.int .u64 (m : Int))
  clear hz f0 f1 f2 z0 z1 z2 hzl hzb HFew HCut
  generalize World.setCell (World.setCell (World.setCell w1 _ _) _ _) _ _ = V at hs3 hbs ⊢
  obtain ⟨c0, c1, c2⟩ := hs3
  have hF := Lib.hid (hF.out.on hbs)
  have hK := Lib.hid (hK.out.on hbs)
  go_upto_region 3 with (go_at_call 12; refine (HWR.out _).mono ?_; rintro e w2 ⟨rfl, hb⟩)
  have d0 : (w2.alloc (.cells #[.slice none 0 0, .string ⟨#[]⟩, .int .u64 0] 25)).cell? ⟨w2.heap.size, 0, none⟩ = some (.slice none 0 0) := by simp
  have hbel : Bel V (w2.alloc (.cells #[.slice none 0 0, .string ⟨#[]⟩, .int .u64 0] 25)) := ((Bel.refl V).on hb).alloc _
  generalize World.alloc w2 _ = V2 at d0 hbel ⊢
  generalize w2.heap.size = B3 at d0 ⊢
  have hF := Lib.hid (hF.out.bel hbel); have hK := Lib.hid (hK.out.bel hbel)
  have hbs := Lib.hid (hbs.trans (hbel.b.mono hbs.size))
  clear c0 c1 c2 hb HWR hbel
  have HA := Lib.hid (alive_any V2 hF.out hK.out)
  have hlt := World.block_lt_of_cell? V2 _ d0
  have HD := Lib.hid d0
  clear d0
  go_wp2_with fail
  refine HA.out.mono ?_
  rintro e V3 ⟨rfl, hb⟩
  have d0 : V3.cell? ⟨B3, 0, none⟩ = some (.slice none 0 0) := by rw [hb.cell (p := ⟨B3, 0, none⟩) hlt]; exact HD.out
  clear HA HD hlt
  go_wp2_with fail
  go_ret
  exact ⟨rfl, hbs.out.trans (hb.mono hbs.out.size)⟩
end Go.Proofs.YtohoenkdfconpaaDoor
