/- DigestNew: a text's sum is that of a new one behind it, however it is cut. -/
import Derived.Test.YtdbjjbhlgheamaaDoorDcut
namespace Go.Proofs.YtdbjjbhlgheamaaDoor
open Go.RowKit

theorem FirstAt.bel {w0 w : World} (h : FirstAt w0) (hb : Bel w0 w) : FirstAt w := h.on hb.b
theorem KeysAt.bel {w0 w : World} (h : KeysAt w0) (hb : Bel w0 w) : KeysAt w := h.on hb.b
theorem WsAt.bel {w0 w : World} {v : Value} {l : List (BitVec 32)} (h : WsAt w0 v l) (hb : Bel w0 w) : WsAt w v l := h.on hb.b
theorem bel_three {w0 w : World} {B : Nat} {a b c : Value} (h0 : w0.cell? ⟨B, 0, none⟩ = some a) (h1 : w0.cell? ⟨B, 1, none⟩ = some b) (h2 : w0.cell? ⟨B, 2, none⟩ = some c) (hb : Bel w0 w) :
    (w.cell? ⟨B, 0, none⟩ = some a ∧ w.cell? ⟨B, 1, none⟩ = some b ∧ w.cell? ⟨B, 2, none⟩ = some c) ∧ Bel w0 w := by
  have hlt := World.block_lt_of_cell? w0 _ h0
  exact ⟨⟨by rw [hb.b.cell (p := ⟨B, 0, none⟩) hlt]; exact h0, by rw [hb.b.cell (p := ⟨B, 1, none⟩) hlt]; exact h1, by rw [hb.b.cell (p := ⟨B, 2, none⟩) hlt]; exact h2⟩, hb⟩
theorem bel_of3 {w0 w : World} {B : Nat} {a b c : Value} (h : (w.cell? ⟨B, 0, none⟩ = some a ∧ w.cell? ⟨B, 1, none⟩ = some b ∧ w.cell? ⟨B, 2, none⟩ = some c) ∧ Bel w0 w) : Bel w0 w := h.2
def NewRel3 (w : World) (p : List UInt8) (q : Nat) (s5 s6 : Value) (W : World) : Prop :=
  ∃ (B D : Nat) (x : ByteArray), s5 = .pointer (some ⟨B, 0, none⟩) ∧ s6 = .int .i64 0 ∧ HashAt W B D (mixAll firstS p) x q ∧ bl x = restOf p ∧ Bel w W

set_option maxRecDepth 100000 in
set_option maxHeartbeats 8000000 in
theorem digestNew_any (s : ByteArray) (i : Int) (hs : s.size ≤ maxLen) (hi : -9223372036854775808 ≤ i ∧ i ≤ 9223372036854775807) (w : World) (hF : FirstAt w) (hK : KeysAt w) :
    Calls Tryd.prog 6 #[.string s, .int .i64 i] w fun e w' => e = .returned (.bool true) ∧ Below w.heap.size w w' := by
  have hcut := cut_any s hs
  have hx := cutS_size s 300
  obtain ⟨x, hxx⟩ : ∃ x, cutS s 300 = x := ⟨_, rfl⟩
  rw [hxx] at hcut hx
  have HC := Lib.hid hcut
  clear hcut hxx hs
  obtain ⟨t, k, e1, t0, t1, e2, hk⟩ := part_ex x.size hx i hi
  have e3 : IntKind.i64.wrap t = t := IntWalk.i64_in _ (by omega)
  have t3 : (0 : Int) ≤ t + (x.size : Int) + 1 := by omega
  have HX := Lib.hid hx
  have hk1 : (k : Int) ≤ (x.size : Int) := by omega
  have hx1 : (x.size : Int) ≤ 300 := by omega
  clear hx hi
  go_enter Tryd.func6, Tryd.ntmps6
  go_upto_region 3 with (go_at_call 8; refine (HC.out _).mono ?_; rintro e w' ⟨rfl, rfl⟩)
  simp only [e2]
  clear e1 e2 e3 t0 t1 t3 HC
  obtain ⟨W0, hW0⟩ : ∃ W0, w = W0 := ⟨_, rfl⟩
  subst hW0
  obtain ⟨p, hp⟩ : ∃ p, p = x.extract 0 k := ⟨_, rfl⟩
  have hps : p.size = k := by rw [hp, ByteArray.size_extract]; omega
  have hsl : ∀ W : World, (Instr.slice 9 (.string x) none (some (.int .i64 (k : Int))) none).run Tryd.prog W = .ok (.string p) W := by
    intro W; rw [hp]; go_simp
  have hpx : p.size ≤ 300 := by rw [hps]; have := HX.out; omega
  have hwr := fun D W h1 h2 => write_good (some ⟨D, 0, none⟩) 8 8 firstS ⟨#[]⟩ p 0 (by omega) (by rfl) (by omega) W h1 h2
  have hbe : bl ⟨#[]⟩ ++ bl p = bl p := rfl
  rw [hbe] at hwr
  have hz : ((0 : Nat) : Int) = 0 := rfl
  rw [hz] at hwr
  obtain ⟨q, hq⟩ : ∃ q, (0 + p.size) % 18446744073709551616 = q := ⟨_, rfl⟩
  rw [hq] at hwr
  have hqk : q = k := by omega
  subst hqk
  have HWR := Lib.hid hwr; have HP := Lib.hid hp; have HPS := Lib.hid hps
  clear hwr hbe hz hp hps hq
  go_cut [5, 6] (NewRel3 w (bl p) q)
  case first =>
    have hbel := Bel.refl w
    go_region_held3 (fun w' => Bel w w')
      (((repeat ((with_reducible refine Bel.far ?_ ?far _); (case far => first | exact Nat.le_refl _ | assumption | (simp; done) | (simp; omega) | omega))); first | with_reducible assumption | ((with_reducible refine Bel.drew ?_); with_reducible assumption) | ((with_reducible refine Bel.drew ?_); (with_reducible refine Bel.alloc ?_ _); with_reducible assumption) | ((with_reducible refine Bel.on ?_ hb); with_reducible assumption) | ((with_reducible refine Bel.alloc ?_ _); with_reducible assumption) | exact Bel.swap (by with_reducible assumption) hle1 _))
      (first | (go_at_call 20; refine (new_any _ (hF.bel (by with_reducible assumption))).mono ?_; rintro e w' ⟨D, y, rfl, hblk, hy, hb⟩; obtain rfl : y = ⟨#[]⟩ := bl_inj hy; have hle1 := (Bel.b (Bel.on (w0 := w) (by with_reducible assumption) hb)).size; (first | have zh := Zh.first (by with_reducible exact hb) (by rfl) | have zh := Zh.firstd (by with_reducible exact hb) (by rfl) | have zh := Zh.on (by with_reducible assumption) hb | skip)) | (go_at_call 9; refine (HWR.out _ _ (by first | exact hblk.ws 8 8 rfl | exact (hblk.alloc _).ws 8 8 rfl) (hK.bel (by with_reducible assumption))).mono ?_; rintro e w' ⟨D2, y2, rfl, hblk2, hy2, hb⟩; have hle1 := (Bel.b (Bel.on (w0 := w) (by with_reducible assumption) hb)).size; (first | (have zh := Zh.first (by with_reducible exact hb) (by rfl); obtain ⟨⟨z0, z1, z2⟩, ⟨f0, f1, f2⟩, zlt⟩ := zh.open) | (have zh := Zh.firstd (by with_reducible exact hb) (by rfl); obtain ⟨⟨z0, z1, z2⟩, ⟨f0, f1, f2⟩, zlt⟩ := zh.open) | (have zh := Zh.on (by with_reducible assumption) hb; obtain ⟨⟨z0, z1, z2⟩, ⟨f0, f1, f2⟩, zlt⟩ := zh.open) | skip)))
    · have hh := HashAt.laid hblk2 y2 q
      go_wp2_with fail
      go_meet
      exact ⟨_, _, y2, rfl, rfl, hh, hy2, by with_reducible assumption⟩
    all_goals
      have hh := zh.put hblk2 y2 q
      go_wp2_with fail
      go_meet
      exact ⟨_, _, y2, rfl, rfl, hh, hy2, by with_reducible assumption⟩
  case rest =>
    obtain ⟨B, D, y, rfl, rfl, hH, hy, hbel⟩ := hcut
    have hFc := hF.bel hbel
    have hKc := hK.bel hbel
    clear HWR hF hK hsl
    obtain ⟨p2, hp2⟩ : ∃ p2, p2 = x.extract q x.size := ⟨_, rfl⟩
    have hsl : ∀ W : World, (Instr.slice 9 (.string x) (some (.int .i64 (q : Int))) none none).run Tryd.prog W = .ok (.string p2) W := by
      intro W; rw [hp2]; go_simp
    have hpp : bl p ++ bl p2 = bl x := by
      rw [HP.out, hp2, bl_extract, bl_extract, List.drop_zero, List.take_of_length_le (i := x.size) (by rw [bl_length]; exact Nat.le_refl _)]
      exact List.take_append_drop _ _
    have hp2s : p2.size ≤ 300 := by rw [hp2, ByteArray.size_extract]; have := HX.out; omega
    have hps2 : p.size + p2.size = x.size := by
      rw [← bl_length p, ← bl_length p2, ← List.length_append, hpp, bl_length]
    have hr64 : rightB 8 y.size q = true := by
      unfold rightB
      have := restOf_length (bl p)
      rw [← hy, bl_length, bl_length] at this
      have := HPS.out
      simp; omega
    have hwr := fun W h1 h2 => write_good (some ⟨D, 0, none⟩) 8 8 (mixAll firstS (bl p)) y p2 q (by have := HX.out; omega) hr64 (by omega) W h1 h2
    rw [hy, mix_app, rest_app, hpp, show (q + p2.size) % 18446744073709551616 = x.size by have := HPS.out; have := HX.out; omega] at hwr
    have HWR := Lib.hid hwr
    have hws := Lib.hid (hH.blk.ws 8 8 rfl)
    have c0 := hH.c0; have c1 := hH.c1; have c2 := hH.c2
    have hlt := hH.lt
    have hKc := Lib.hid hKc; have hFc := Lib.hid hFc; have hbel := Lib.hid hbel; have HH := Lib.hid hH
    clear hwr hp2 hpp hp2s hps2 hr64 hH hy hpx HP HPS hk
    go_wp2_with fail
    obtain ⟨V, rfl⟩ : ∃ V : World, V = wc := ⟨_, rfl⟩
    go_cut [7, 8] (NewRel3 V (bl x) x.size)
    case first =>
      have hb0 := Bel.refl V
      go_region_held3 (fun w' => (w'.cell? ⟨B, 0, none⟩ = some (.slice (some ⟨D, 0, none⟩) 8 8) ∧ w'.cell? ⟨B, 1, none⟩ = some (.string y) ∧ w'.cell? ⟨B, 2, none⟩ = some (.int .u64 (q : Int))) ∧ Bel V w')
      ((refine bel_three c0 c1 c2 ?_; (repeat ((with_reducible refine Bel.far ?_ ?far _); (case far => first | exact Nat.le_refl _ | assumption | (simp; done) | (simp; omega) | omega))); first | with_reducible assumption | exact bel_of3 (by with_reducible assumption) | ((with_reducible refine Bel.drew ?_); with_reducible assumption) | ((with_reducible refine Bel.drew ?_); (with_reducible refine Bel.alloc ?_ _); with_reducible assumption) | ((with_reducible refine Bel.on ?_ hb); exact bel_of3 (by with_reducible assumption)) | ((with_reducible refine Bel.alloc ?_ _); exact bel_of3 (by with_reducible assumption)) | exact Bel.swap (bel_of3 (by with_reducible assumption)) hle1 _))
      (first | (go_at_call 9; refine (HWR.out _ (WsAt.bel hws.out (bel_of3 (by with_reducible assumption))) (KeysAt.bel hKc.out (bel_of3 (by with_reducible assumption)))).mono ?_; rintro e w' ⟨D3, y3, rfl, hblk2, hy2, hb⟩; have hle1 := (Bel.b (Bel.on (w0 := V) (bel_of3 (by with_reducible assumption)) hb)).size; (first | (have zh := Zh.first (by with_reducible exact hb) (by rfl); obtain ⟨⟨z0, z1, z2⟩, ⟨f0, f1, f2⟩, zlt⟩ := zh.open) | (have zh := Zh.firstd (by with_reducible exact hb) (by rfl); obtain ⟨⟨z0, z1, z2⟩, ⟨f0, f1, f2⟩, zlt⟩ := zh.open) | (have zh := Zh.on (by with_reducible assumption) hb; obtain ⟨⟨z0, z1, z2⟩, ⟨f0, f1, f2⟩, zlt⟩ := zh.open) | skip)))
      · have hh := HashAt.laid hblk2 y3 x.size
        go_wp2_with fail
        go_meet
        exact ⟨_, _, y3, rfl, rfl, hh, hy2, bel_of3 (by with_reducible assumption)⟩
      all_goals
        have hh := zh.put hblk2 y3 x.size
        go_wp2_with fail
        go_meet
        exact ⟨_, _, y3, rfl, rfl, hh, hy2, bel_of3 (by with_reducible assumption)⟩
    case rest =>
      clear HWR hws hsl c0 c1 c2 hlt HH
      obtain ⟨B2, D2, y2, rfl, rfl, hH2, hy2, hbel2⟩ := hcut
      have hF2 := hFc.out.bel hbel2
      have hK2 := hKc.out.bel hbel2
      have hbl : Below w.heap.size w wc := hbel.out.b.trans (hbel2.b.mono hbel.out.b.size)
      have hr64 : rightB 8 y2.size x.size = true := by
        unfold rightB
        have := restOf_length (bl x)
        rw [← hy2, bl_length, bl_length] at this
        simp; omega
      have hsm := fun W h1 h2 => sum_good (some ⟨D2, 0, none⟩) 8 8 (mixAll firstS (bl x)) y2 x.size (by have := HX.out; omega) hr64 W h1 h2
      rw [hy2] at hsm
      have hof := fun W h1 h2 => of_any x (by have := HX.out; omega) W h1 h2
      obtain ⟨S, hSS⟩ : ∃ S, strL (sumL (mixAll firstS (bl x)) (restOf (bl x)) x.size) = S := ⟨_, rfl⟩
      rw [hSS] at hsm hof
      have HSM := Lib.hid hsm; have HOF := Lib.hid hof; have hbl := Lib.hid hbl; have hF2 := Lib.hid hF2; have hK2 := Lib.hid hK2
      have hws := Lib.hid (hH2.blk.ws 8 8 rfl)
      have c0 := hH2.c0; have c1 := hH2.c1; have c2 := hH2.c2
      have hlt := hH2.lt
      clear hsm hof hH2 hy2 hbel2 hr64 hSS hFc hKc hbel
      go_wp2_with fail
      refine (HSM.out _ hws.out hK2.out).mono ?_
      rintro e W1 ⟨rfl, hb1⟩
      have HA := Lib.hid (alive_any W1 (hF2.out.on hb1) (hK2.out.on hb1))
      clear c0 c1 c2 hlt
      go_wp2_with fail
      refine HA.out.mono ?_
      rintro e W2 ⟨rfl, hb2⟩
      have hb12 := hb1.trans (hb2.mono hb1.size)
      have HO := Lib.hid (HOF.out W2 (hF2.out.on hb12) (hK2.out.on hb12))
      clear HA HOF HSM
      go_wp2_with fail
      refine HO.out.mono ?_
      rintro e W3 ⟨rfl, hb3⟩
      go_wp2_with fail
      go_ret
      exact ⟨rfl, hbl.out.trans ((hb12.trans (hb3.mono hb12.size)).mono hbl.out.size)⟩
end Go.Proofs.YtdbjjbhlgheamaaDoor
