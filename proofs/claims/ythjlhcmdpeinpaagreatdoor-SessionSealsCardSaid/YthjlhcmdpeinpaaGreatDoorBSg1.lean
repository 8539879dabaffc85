/- The texts Ja, Jb0, Jc, Jd, Je, one behind the other. -/
import Derived.Test.YthjlhcmdpeinpaaGreatDoorBg11
import Derived.Test.YthjlhcmdpeinpaaGreatDoorBg6
import Derived.Deep.DeepCutAuto
import Derived.Test.YthjlhcmdpeinpaaGreatDoorBg12
/- The contracts of the reference's smallest: rol, Quarter, May, word. -/
namespace Go.Proofs.YthjlhcmdpeinpaaGreatDoor
open Go.RowKit
set_option maxRecDepth 100000
set_option maxHeartbeats 400000 in
theorem rol5_any (x : BitVec 32) (n : Nat) (h0 : 0 < n) (h1 : n < 32) (w : World) :
    Calls Tryz.prog 221 #[.int .u32 (x.toNat : Int), .int .u32 (n : Int)] w fun e w' => e = .returned (.int .u32 ((rl x n).toNat : Int)) ∧ w = w' := by
  have es : ((32 : Int) - (n : Int)).toNat = 32 - n := by omega
  have hm1 : (n : Int) < 32 := by omega
  have hm0 : (0 : Int) < (n : Int) := by omega
  have ew : IntKind.u32.wrap (32 - (n : Int)) = 32 - (n : Int) := by rw [IntKind.wrap_u32]; omega
  have e1 := shl32 x n
  have e2 := shr32 x (32 - n)
  have e3 := bits_or32 (x <<< n) (x >>> (32 - n))
  change _ = (((rl x n).toNat : Nat) : Int) at e3
  generalize rl x n = r at e3 ⊢
  generalize x <<< n = s at e1 e3 ⊢
  generalize x >>> (32 - n) = t at e2 e3 ⊢
  go_enter Tryz.func221, Tryz.ntmps221
  go_wp2
  go_ret
  exact ⟨rfl, rfl⟩

/-- four words as a struct -/
def Q4.s (q : Q4) : Value := .agg #[.int .u32 (q.a.toNat : Int), .int .u32 (q.b.toNat : Int), .int .u32 (q.c.toNat : Int), .int .u32 (q.d.toNat : Int)]
set_option maxHeartbeats 400000 in
theorem quarter5_any (a b c d : BitVec 32) (w : World) :
    Calls Tryz.prog 202 #[.agg #[.int .u32 (a.toNat : Int), .int .u32 (b.toNat : Int), .int .u32 (c.toNat : Int), .int .u32 (d.toNat : Int)]] w fun e w' => e = .returned (qtr ⟨a, b, c, d⟩).s ∧ Below w.heap.size w w' := by
  obtain ⟨a1, ea1⟩ : ∃ z, a + b = z := ⟨_, rfl⟩
  obtain ⟨x1, ex1⟩ : ∃ z, d ^^^ a1 = z := ⟨_, rfl⟩
  obtain ⟨d1, ed1⟩ : ∃ z, rl x1 16 = z := ⟨_, rfl⟩
  obtain ⟨c1, ec1⟩ : ∃ z, c + d1 = z := ⟨_, rfl⟩
  obtain ⟨y1, ey1⟩ : ∃ z, b ^^^ c1 = z := ⟨_, rfl⟩
  obtain ⟨b1, eb1⟩ : ∃ z, rl y1 12 = z := ⟨_, rfl⟩
  obtain ⟨a2, ea2⟩ : ∃ z, a1 + b1 = z := ⟨_, rfl⟩
  obtain ⟨x2, ex2⟩ : ∃ z, d1 ^^^ a2 = z := ⟨_, rfl⟩
  obtain ⟨d2, ed2⟩ : ∃ z, rl x2 8 = z := ⟨_, rfl⟩
  obtain ⟨c2, ec2⟩ : ∃ z, c1 + d2 = z := ⟨_, rfl⟩
  obtain ⟨y2, ey2⟩ : ∃ z, b1 ^^^ c2 = z := ⟨_, rfl⟩
  obtain ⟨b2, eb2⟩ : ∃ z, rl y2 7 = z := ⟨_, rfl⟩
  have hq : qtr ⟨a, b, c, d⟩ = ⟨a2, b2, c2, d2⟩ := by
    show qB 7 (qA 8 (qB 12 (qA 16 ⟨a, b, c, d⟩))) = _
    simp only [qA, qB, ea1, ex1, ed1, ec1, ey1, eb1, ea2, ex2, ed2, ec2, ey2, eb2]
  rw [hq]
  have h1 := add_mod32 a b a1 ea1
  have h2 := bits_xor32 d a1
  have h3 := Lib.hid (rol5_any x1 16 (by omega) (by omega))
  have h4 := add_mod32 c d1 c1 ec1
  have h5 := bits_xor32 b c1
  have h6 := Lib.hid (rol5_any y1 12 (by omega) (by omega))
  have h7 := add_mod32 a1 b1 a2 ea2
  have h8 := bits_xor32 d1 a2
  have h9 := Lib.hid (rol5_any x2 8 (by omega) (by omega))
  have h10 := add_mod32 c1 d2 c2 ec2
  have h11 := bits_xor32 b1 c2
  have h12 := Lib.hid (rol5_any y2 7 (by omega) (by omega))
  rw [ex1] at h2
  rw [ed1] at h3
  rw [ey1] at h5
  rw [eb1] at h6
  rw [ex2] at h8
  rw [ed2] at h9
  rw [ey2] at h11
  rw [eb2] at h12
  clear hq ea1 ex1 ed1 ec1 ey1 eb1 ea2 ex2 ed2 ec2 ey2 eb2
  go_enter Tryz.func202, Tryz.ntmps202
  go_wp2_with fail
  simp only [h1]
  refine (h3.out _).mono ?_
  rintro e w' ⟨rfl, rfl⟩
  go_wp2_with fail
  simp only [h4]
  refine (h6.out _).mono ?_
  rintro e w' ⟨rfl, rfl⟩
  go_wp2_with fail
  simp only [h7]
  refine (h9.out _).mono ?_
  rintro e w' ⟨rfl, rfl⟩
  go_wp2_with fail
  simp only [h10]
  refine (h12.out _).mono ?_
  rintro e w' ⟨rfl, rfl⟩
  go_wp2_with fail
  refine bodyPost_ret (v := .agg #[.int .u32 (a2.toNat : Int), .int .u32 (b2.toNat : Int), .int .u32 (c2.toNat : Int), .int .u32 (d2.toNat : Int)]) (by simp [results, Tryz.results202, go_sem]) rfl ⟨rfl, by go_grown⟩

set_option maxHeartbeats 400000 in
theorem word5_any (s : ByteArray) (h : s.size = 4) (w : World) :
    Calls Tryz.prog 201 #[.string s] w fun e w' => e = .returned (.int .u32 ((wordLE s[0] s[1] s[2] s[3]).toNat : Int)) ∧ ∃ n, w' = w.drewN n := by
  have b1 : (0 : Int) < (s.size : Int) := by omega
  have b2 : (1 : Int) < (s.size : Int) := by omega
  have b3 : (2 : Int) < (s.size : Int) := by omega
  have b4 : (3 : Int) < (s.size : Int) := by omega
  have c1 := s[0].toNat_lt
  have c2 := s[1].toNat_lt
  have c3 := s[2].toNat_lt
  have c4 := s[3].toNat_lt
  have g0 : s[0]? = some s[0] := by simp
  have hw := wordLE_toNat s[0] s[1] s[2] s[3]
  go_enter Tryz.func201, Tryz.ntmps201
  go_wp2
  go_quiet (fail)
  go_wp2
  go_ret
  refine ⟨ret_u32 ?_, _, rfl⟩
  rw [hw]; omega
theorem word5_at (s : ByteArray) (t : Nat) (h : 4 * t + 4 ≤ s.size) (w : World) :
    Calls Tryz.prog 201 #[.string (s.extract (4 * t) (4 * t + 4))] w fun e w' => e = .returned (.int .u32 ((leW (bl s) t).toNat : Int)) ∧ ∃ n, w' = w.drewN n := by
  have hs : (s.extract (4 * t) (4 * t + 4)).size = 4 := by rw [ByteArray.size_extract]; omega
  have e : wordLE (s.extract (4 * t) (4 * t + 4))[0] (s.extract (4 * t) (4 * t + 4))[1] (s.extract (4 * t) (4 * t + 4))[2] (s.extract (4 * t) (4 * t + 4))[3] = leW (bl s) t := by
    unfold leW
    rw [bl_get s (4 * t) (by omega), bl_get s (4 * t + 1) (by omega), bl_get s (4 * t + 2) (by omega), bl_get s (4 * t + 3) (by omega)]
    simp only [ByteArray.getElem_extract]
    rfl
  rw [← e]
  exact word5_any _ hs w
end Go.Proofs.YthjlhcmdpeinpaaGreatDoor

/- The contract of the reference's mix. -/
namespace Go.Proofs.YthjlhcmdpeinpaaGreatDoor
open Go.RowKit
set_option maxRecDepth 100000
theorem bel_four {w0 w : World} {p0 p1 p2 p3 : Addr} {v0 v1 v2 v3 : Value} (h : w0.cell? p0 = some v0 ∧ w0.cell? p1 = some v1 ∧ w0.cell? p2 = some v2 ∧ w0.cell? p3 = some v3) (hb : Bel w0 w) :
    (w.cell? p0 = some v0 ∧ w.cell? p1 = some v1 ∧ w.cell? p2 = some v2 ∧ w.cell? p3 = some v3) ∧ Bel w0 w := by
  have f : ∀ p v, w0.cell? p = some v → w.cell? p = some v := fun p v h => by rw [hb.b.cell (World.block_lt_of_cell? w0 _ h)]; exact h
  obtain ⟨h0, h1, h2, h3⟩ := h
  exact ⟨⟨f _ _ h0, f _ _ h1, f _ _ h2, f _ _ h3⟩, hb⟩
theorem bel_of4 {w0 w : World} {p0 p1 p2 p3 : Addr} {v0 v1 v2 v3 : Value} (h : (w.cell? p0 = some v0 ∧ w.cell? p1 = some v1 ∧ w.cell? p2 = some v2 ∧ w.cell? p3 = some v3) ∧ Bel w0 w) : Bel w0 w := h.2
theorem OwnW.rebase {w : World} {base base' g n cap : Nat} {l : List (BitVec 32)} (h : OwnW w base (.slice (some ⟨g, 0, none⟩) n cap) l) (hb : base' ≤ base) : OwnW w base' (.slice (some ⟨g, 0, none⟩) n cap) l := by
  refine ⟨h.1, ?_⟩
  rcases h.2 with ⟨e, -⟩ | ⟨g', cap', cur, e, hg, h3⟩
  · cases e
  · exact Or.inr ⟨g', cap', cur, e, by omega, h3⟩
/-- four words of nought in a block -/
structure Zq (w : World) (B : Nat) : Prop where
  blk : w.heap[B]? = some (.cells #[.int .u32 0, .int .u32 0, .int .u32 0, .int .u32 0] 250)
theorem Zq.first {w w' : World} {o : Obj} (hb : Below (w.alloc o).heap.size (w.alloc o) w') (ho : o = .cells #[.int .u32 0, .int .u32 0, .int .u32 0, .int .u32 0] 250) : Zq w' w.heap.size := by
  subst ho
  exact ⟨by rw [hb.block _ (by simp)]; exact heap_alloc_new _ _⟩
theorem Zq.firstd {w w' : World} {o : Obj} (hb : Below (w.alloc o).drew.heap.size (w.alloc o).drew w') (ho : o = .cells #[.int .u32 0, .int .u32 0, .int .u32 0, .int .u32 0] 250) : Zq w' w.heap.size := by
  subst ho
  refine ⟨?_⟩
  rw [hb.block w.heap.size (by show w.heap.size < (w.alloc _).heap.size; simp)]
  exact heap_alloc_new _ _
theorem Zq.on {w w' : World} {B : Nat} (h : Zq w B) (hb : Below w.heap.size w w') : Zq w' B := ⟨by rw [hb.block _ (Array.getElem?_eq_some_iff.1 h.blk).1]; exact h.blk⟩
theorem Zq.open {w : World} {B : Nat} (h : Zq w B) : (w.cell? ⟨B, 0, none⟩ = some (.int .u32 0) ∧ w.cell? ⟨B, 1, none⟩ = some (.int .u32 0) ∧ w.cell? ⟨B, 2, none⟩ = some (.int .u32 0) ∧ w.cell? ⟨B, 3, none⟩ = some (.int .u32 0)) ∧
    (w.frozen? ⟨B, 0, none⟩ = false ∧ w.frozen? ⟨B, 1, none⟩ = false ∧ w.frozen? ⟨B, 2, none⟩ = false ∧ w.frozen? ⟨B, 3, none⟩ = false) ∧ B < w.heap.size :=
  ⟨⟨by rw [cell_of_row _ _ _ _ _ _ h.blk]; rfl, by rw [cell_of_row _ _ _ _ _ _ h.blk]; rfl, by rw [cell_of_row _ _ _ _ _ _ h.blk]; rfl, by rw [cell_of_row _ _ _ _ _ _ h.blk]; rfl⟩,
   ⟨frozen_of_row _ _ _ _ _ h.blk, frozen_of_row _ _ _ _ _ h.blk, frozen_of_row _ _ _ _ _ h.blk, frozen_of_row _ _ _ _ _ h.blk⟩, (Array.getElem?_eq_some_iff.1 h.blk).1⟩
/-- four words that lie in a block -/
structure QAt (w : World) (B : Nat) (q : Q4) : Prop where
  c0 : w.cell? ⟨B, 0, none⟩ = some (.int .u32 (q.a.toNat : Int))
  c1 : w.cell? ⟨B, 1, none⟩ = some (.int .u32 (q.b.toNat : Int))
  c2 : w.cell? ⟨B, 2, none⟩ = some (.int .u32 (q.c.toNat : Int))
  c3 : w.cell? ⟨B, 3, none⟩ = some (.int .u32 (q.d.toNat : Int))
theorem QAt.laid (w : World) (q : Q4) (t : TypeId) : QAt (w.alloc (.cells #[.int .u32 (q.a.toNat : Int), .int .u32 (q.b.toNat : Int), .int .u32 (q.c.toNat : Int), .int .u32 (q.d.toNat : Int)] t)) w.heap.size q :=
  ⟨by rw [cell_of_row _ _ _ _ _ (0, 0) (heap_alloc_new _ _)]; rfl, by rw [cell_of_row _ _ _ _ _ (0, 0) (heap_alloc_new _ _)]; rfl, by rw [cell_of_row _ _ _ _ _ (0, 0) (heap_alloc_new _ _)]; rfl, by rw [cell_of_row _ _ _ _ _ (0, 0) (heap_alloc_new _ _)]; rfl⟩
theorem Zq.put {w : World} {B : Nat} (z : Zq w B) (q : Q4) :
    QAt ((((w.setCell ⟨B, 0, none⟩ (.int .u32 (q.a.toNat : Int))).setCell ⟨B, 1, none⟩ (.int .u32 (q.b.toNat : Int))).setCell ⟨B, 2, none⟩ (.int .u32 (q.c.toNat : Int))).setCell ⟨B, 3, none⟩ (.int .u32 (q.d.toNat : Int))) B q := by
  obtain ⟨⟨d0, d1, d2, d3⟩, -, -⟩ := z.open
  exact ⟨setCell_far (setCell_far (setCell_far (World.cell?_setCell_same _ ⟨B, 0, none⟩ _ d0) (by omega)) (by omega)) (by omega), setCell_far (setCell_far (World.cell?_setCell_same _ ⟨B, 1, none⟩ _ (setCell_far d1 (by omega))) (by omega)) (by omega),
    setCell_far (World.cell?_setCell_same _ ⟨B, 2, none⟩ _ (setCell_far (setCell_far d2 (by omega)) (by omega))) (by omega), World.cell?_setCell_same _ ⟨B, 3, none⟩ _ (setCell_far (setCell_far (setCell_far d3 (by omega)) (by omega)) (by omega))⟩
theorem QAt.lt {w : World} {B : Nat} {q : Q4} (h : QAt w B q) : B < w.heap.size := World.block_lt_of_cell? w _ h.c0
theorem QAt.on {w w' : World} {B : Nat} {q : Q4} (h : QAt w B q) (hb : Below w.heap.size w w') : QAt w' B q := by
  have f : ∀ j v, w.cell? ⟨B, j, none⟩ = some v → w'.cell? ⟨B, j, none⟩ = some v := fun j v hh => by rw [hb.cell (p := ⟨B, j, none⟩) h.lt]; exact hh
  exact ⟨f _ _ h.c0, f _ _ h.c1, f _ _ h.c2, f _ _ h.c3⟩
theorem QAt.grown {w w' : World} {B : Nat} {q : Q4} {row : Option Nat} (h : QAt w B q) (hg : w.grownBy w' row) (hne : some B ≠ row) : QAt w' B q :=
  ⟨hg.cell h.c0 hne, hg.cell h.c1 hne, hg.cell h.c2 hne, hg.cell h.c3 hne⟩
theorem QAt.far {w : World} {B : Nat} {q : Q4} (h : QAt w B q) (p : Addr) (hne : B ≠ p.block) (v : Value) : QAt (w.setCell p v) B q := by
  have f : ∀ j u, w.cell? ⟨B, j, none⟩ = some u → (w.setCell p v).cell? ⟨B, j, none⟩ = some u := fun j u hh => by
    rw [World.cell?_setCell_other _ _ _ _ (fun e => hne (by rw [e]))]; exact hh
  exact ⟨f _ _ h.c0, f _ _ h.c1, f _ _ h.c2, f _ _ h.c3⟩
def QRel (V : World) (q : Q4) (t : Value) (wr : World) : Prop := ∃ B : Nat, t = .pointer (some ⟨B, 0, none⟩) ∧ QAt wr B q ∧ Bel V wr
end Go.Proofs.YthjlhcmdpeinpaaGreatDoor

/- The contract of the reference's mix: the walk. -/
namespace Go.Proofs.YthjlhcmdpeinpaaGreatDoor
open Go.RowKit
set_option maxRecDepth 100000
set_option maxHeartbeats 4000000 in
theorem mix5_any (gv ov cv : Nat) (l : List (BitVec 32)) (a b c d : Nat) (hl : l.length = 16) (ha : a < 16) (hb : b < 16) (hc : c < 16) (hd : d < 16) (w : World) (hv : WsAt w (.slice (some ⟨gv, ov, none⟩) 16 cv) l) :
    Calls Tryz.prog 179 #[.slice (some ⟨gv, ov, none⟩) 16 cv, .int .i64 (a : Int), .int .i64 (b : Int), .int .i64 (c : Int), .int .i64 (d : Int)] w fun e w' => ∃ g cap, e = .returned (.slice (some ⟨g, 0, none⟩) 16 cap) ∧ OwnW w' w.heap.size (.slice (some ⟨g, 0, none⟩) 16 cap) (mixC l a b c d) ∧ Below w.heap.size w w' := by
  obtain ⟨q, hq⟩ : ∃ q, qtr ⟨l.getD a 0, l.getD b 0, l.getD c 0, l.getD d 0⟩ = q := ⟨_, rfl⟩
  have HQ := quarter5_any (l.getD a 0) (l.getD b 0) (l.getD c 0) (l.getD d 0)
  rw [hq] at HQ
  have hmix : mixC l a b c d = (((l.set a q.a).set b q.b).set c q.c).set d q.d := by unfold mixC; rw [hq]
  rw [hmix]
  clear hq hmix
  have HV := Lib.hid hv
  obtain ⟨gv', ov', cv', e, hgv, hcv⟩ := hv
  obtain ⟨rfl, rfl⟩ : gv = gv' ∧ ov = ov' := by simp at e; exact e.1
  clear e
  have x1 := hcv a (by omega)
  have x2 := hcv b (by omega)
  have x3 := hcv c (by omega)
  have x4 := hcv d (by omega)
  generalize l.getD a 0 = la at HQ x1
  generalize l.getD b 0 = lb at HQ x2
  generalize l.getD c 0 = lc at HQ x3
  generalize l.getD d 0 = ld at HQ x4
  replace HQ := Lib.hid HQ
  have i1 : (a : Int) < 16 := by omega
  have i2 : (b : Int) < 16 := by omega
  have i3 : (c : Int) < 16 := by omega
  have i4 : (d : Int) < 16 := by omega
  clear hcv
  have H4 : Hid (w.cell? ⟨gv, ov + a, none⟩ = some (.int .u32 (la.toNat : Int)) ∧ w.cell? ⟨gv, ov + b, none⟩ = some (.int .u32 (lb.toNat : Int)) ∧ w.cell? ⟨gv, ov + c, none⟩ = some (.int .u32 (lc.toNat : Int)) ∧ w.cell? ⟨gv, ov + d, none⟩ = some (.int .u32 (ld.toNat : Int))) := Lib.hid ⟨x1, x2, x3, x4⟩
  obtain ⟨V, hV⟩ : ∃ V : World, V = w := ⟨_, rfl⟩
  go_enter Tryz.func179, Tryz.ntmps179
  go_upto_region 1 with fail
  go_cut [11] (QRel w q)
  case first =>
    have hb0 := Bel.refl w
    go_region_held3 (fun w' => (w'.cell? ⟨gv, ov + a, none⟩ = some (.int .u32 (la.toNat : Int)) ∧ w'.cell? ⟨gv, ov + b, none⟩ = some (.int .u32 (lb.toNat : Int)) ∧ w'.cell? ⟨gv, ov + c, none⟩ = some (.int .u32 (lc.toNat : Int)) ∧ w'.cell? ⟨gv, ov + d, none⟩ = some (.int .u32 (ld.toNat : Int))) ∧ Bel w w')
      ((refine bel_four H4.out ?_; (repeat ((with_reducible refine Bel.far ?_ ?far _); (case far => first | exact Nat.le_refl _ | assumption | (simp; done) | (simp; omega) | omega))); first | with_reducible assumption | exact bel_of4 (by with_reducible assumption) | ((with_reducible refine Bel.drew ?_); with_reducible assumption) | ((with_reducible refine Bel.drew ?_); (with_reducible refine Bel.alloc ?_ _); with_reducible assumption) | ((with_reducible refine Bel.on ?_ hb); exact bel_of4 (by with_reducible assumption)) | ((with_reducible refine Bel.alloc ?_ _); exact bel_of4 (by with_reducible assumption)) | exact Bel.swap (bel_of4 (by with_reducible assumption)) hle1 _))
      (first | (go_at_call 202; refine (HQ.out _).mono ?_; rintro e w' ⟨rfl, hb⟩; simp only [Q4.s]; have hle1 := (Bel.b (Bel.on (w0 := w) (bel_of4 (by with_reducible assumption)) hb)).size; (first | (have zh := Zq.first (by with_reducible exact hb) (by rfl); obtain ⟨⟨z0, z1, z2, z3⟩, ⟨f0, f1, f2, f3⟩, zlt⟩ := zh.open) | (have zh := Zq.firstd (by with_reducible exact hb) (by rfl); obtain ⟨⟨z0, z1, z2, z3⟩, ⟨f0, f1, f2, f3⟩, zlt⟩ := zh.open) | (have zh := Zq.on (by with_reducible assumption) hb; obtain ⟨⟨z0, z1, z2, z3⟩, ⟨f0, f1, f2, f3⟩, zlt⟩ := zh.open) | skip)))
    · have hh := QAt.laid w' q 250
      go_wp2_with fail
      go_meet
      exact ⟨_, rfl, hh, bel_of4 (by with_reducible assumption)⟩
    · have hh := zh.put q
      go_wp2_with fail
      go_meet
      exact ⟨_, rfl, hh, bel_of4 (by with_reducible assumption)⟩
  case rest =>
    obtain ⟨B, rfl, hQ, hbel⟩ := hcut
    have HB := Lib.hid hbel.b
    have HW := Lib.hid (HV.out.on hbel.b)
    have HQA := Lib.hid hQ
    have hsz := hbel.b.size
    clear hQ hbel HV H4 HQ x1 x2 x3 x4 hgv hV
    go_upto_region 3 with fail
    have hO := OwnW.empty wc wc.heap.size (Nat.le_refl _)
    have hb1 : Below wc.heap.size wc (wc.alloc (.cells #[] 112)) := by go_grown
    have hQ := HQA.out.on hb1
    have hW := HW.out.on hb1
    have hlt := HQA.out.lt
    have hB := HB.out.trans (hb1.mono hsz)
    have hs1 : wc.heap.size ≤ (wc.alloc (.cells #[] 112)).heap.size := hb1.size
    clear HB HW HQA hb1
    generalize World.alloc wc _ = W at hO hQ hW hB hs1 ⊢
    generalize wc.heap.size = n at hO hlt hs1 hsz ⊢
    have HO := Lib.hid hO; have HQA := Lib.hid hQ; have HW := Lib.hid hW; have HB := Lib.hid hB
    clear hO hQ hW hB
    refine wp_region_lit ?_
    iterate 2 (refine wpList_step (fun K hK => ?_); go_simp; refine hK _ _ ?_; clear hK K)
    refine append_ws rfl _ _ rfl n (.slice (some ⟨n, 0, none⟩) 0 0) [] l gv ov cv 16 rfl HO.out rfl hl.symm (by omega) HW.out (by simp) hs1 ?_
    intro g cap W5 hO5 hgr
    have hQ5 := HQA.out.grown hgr (by simp [Value.ownBlock]; omega)
    have hB5 : Below w.heap.size w W5 := HB.out.grown hgr (by omega) (fun i hi => by have := (World.ownsRow.lt HO.out i hi).1; omega)
    simp only [List.nil_append, List.length_nil, Nat.zero_add] at hO5 ⊢
    have hgb : n ≤ g := by
      rcases hO5.2 with ⟨e, -⟩ | ⟨g', cap', cur, e, hb', -⟩
      · cases e
      · have : g = g' := by simp at e; exact e.1
        omega
    clear HO HW HQA HB hgr
    have c1 := hQ5.c0
    have z1 := hO5.cell (hl.symm) a (by omega)
    have f1 := hO5.frozen a
    have hO6 := hO5.set a (by omega) q.a
    have hQ6 := hQ5.far ⟨g, a, none⟩ (by simp; omega) (.int .u32 (q.a.toNat : Int))
    have hB6 := hB5.setCell (p := ⟨g, a, none⟩) (by simp; omega) (.int .u32 (q.a.toNat : Int))
    obtain ⟨V1, e1⟩ : ∃ V, W5.setCell ⟨g, a, none⟩ (.int .u32 (q.a.toNat : Int)) = V := ⟨_, rfl⟩
    rw [e1] at hO6 hQ6 hB6
    have c2 := hQ6.c1
    have z2 := hO6.cell (by simp; exact hl.symm) b (by simp; omega)
    have f2 := hO6.frozen b
    have hO7 := hO6.set b (by simp; omega) q.b
    have hQ7 := hQ6.far ⟨g, b, none⟩ (by simp; omega) (.int .u32 (q.b.toNat : Int))
    have hB7 := hB6.setCell (p := ⟨g, b, none⟩) (by simp; omega) (.int .u32 (q.b.toNat : Int))
    obtain ⟨V2, e2⟩ : ∃ V, V1.setCell ⟨g, b, none⟩ (.int .u32 (q.b.toNat : Int)) = V := ⟨_, rfl⟩
    rw [e2] at hO7 hQ7 hB7
    have c3 := hQ7.c2
    have z3 := hO7.cell (by simp; exact hl.symm) c (by simp; omega)
    have f3 := hO7.frozen c
    have hO8 := hO7.set c (by simp; omega) q.c
    have hQ8 := hQ7.far ⟨g, c, none⟩ (by simp; omega) (.int .u32 (q.c.toNat : Int))
    have hB8 := hB7.setCell (p := ⟨g, c, none⟩) (by simp; omega) (.int .u32 (q.c.toNat : Int))
    obtain ⟨V3, e3⟩ : ∃ V, V2.setCell ⟨g, c, none⟩ (.int .u32 (q.c.toNat : Int)) = V := ⟨_, rfl⟩
    rw [e3] at hO8 hQ8 hB8
    have c4 := hQ8.c3
    have z4 := hO8.cell (by simp; exact hl.symm) d (by simp; omega)
    have f4 := hO8.frozen d
    have hO9 := hO8.set d (by simp; omega) q.d
    have hB9 := hB8.setCell (p := ⟨g, d, none⟩) (by simp; omega) (.int .u32 (q.d.toNat : Int))
    have hO9' := OwnW.rebase hO9 (show w.heap.size ≤ n by omega)
    have HO9 := Lib.hid hO9'; have HB9 := Lib.hid hB9
    clear hO5 hO6 hO7 hO8 hO9 hO9' hQ5 hQ6 hQ7 hQ8 hB5 hB6 hB7 hB8 hB9
    go_wp2_with fail
    go_ret
    exact ⟨g, cap, rfl, HO9.out, HB9.out⟩
end Go.Proofs.YthjlhcmdpeinpaaGreatDoor

/- The contract of the reference's first. -/
namespace Go.Proofs.YthjlhcmdpeinpaaGreatDoor
open Go.RowKit
set_option maxRecDepth 100000
def fourJ : List (BitVec 32) := [1634760805, 857760878, 2036477234, 1797285236]
def FiR (n p : Nat) (w : World) (pre : List (BitVec 32)) (b : List UInt8) (m : Nat) (v i : Value) (wr : World) : Prop :=
  ∃ k g cap : Nat, k ≤ m ∧ i = .int .i64 (k : Int) ∧ v = .slice (some ⟨g, 0, none⟩) (p + k) cap ∧ OwnW wr n v (pre ++ leWs b k) ∧ Below n w wr
theorem OwnW.lit4 (w : World) (base : Nat) (hb : base ≤ w.heap.size) : OwnW (w.alloc (.cells (Wd fourJ).toArray 112)) base (.slice (some ⟨w.heap.size, 0, none⟩) 4 4) fourJ :=
  World.ownsRow_lit w (Wd fourJ).toArray 4 hb (by decide) rfl
set_option maxHeartbeats 2000000 in
theorem first5_any (k5 nc : ByteArray) (n : BitVec 32) (hk : k5.size = 32) (hn : nc.size = 12) (w : World) :
    Calls Tryz.prog 178 #[.string k5, .int .u32 (n.toNat : Int), .string nc] w fun e w' => ∃ g cap, e = .returned (.slice (some ⟨g, 0, none⟩) 16 cap) ∧ OwnW w' w.heap.size (.slice (some ⟨g, 0, none⟩) 16 cap) (firstC (bl k5) n (bl nc)) ∧ Below w.heap.size w w' := by
  go_enter Tryz.func178, Tryz.ntmps178
  go_upto_region 2 with fail
  have hO := OwnW.lit4 w w.heap.size (Nat.le_refl _)
  have hB : Below w.heap.size w (w.alloc (.cells (Wd fourJ).toArray 112)) := by go_grown
  change Code.wp Tryz.prog _ _ _ (w.alloc (.cells (Wd fourJ).toArray 112))
  generalize World.alloc w _ = W0 at hO hB ⊢
  obtain ⟨g0, eg⟩ : ∃ g0, w.heap.size = g0 := ⟨_, rfl⟩
  have HO := Lib.hid hO; have HB := Lib.hid hB
  clear hO hB
  go_wp2_with fail
  go_loopw [7, 8] (FiR w.heap.size 4 w fourJ (bl k5) 8) (fun _ i _ => 8 - (intOf i).toNat)
  case atStart => exact ⟨0, w.heap.size, 4, by omega, rfl, rfl, by have := HO.out; simpa [leWs] using this, HB.out⟩
  case round =>
    clear HO HB eg
    obtain ⟨k, g, cap, hk8, rfl, rfl, hO, hB⟩ := hrel
    by_cases hlt : k < 8
    · have h1 : (k : Int) < 8 := by omega
      have e1 : IntKind.i64.wrap (4 * (k : Int)) = 4 * (k : Int) := IntWalk.i64_in _ (by omega)
      have e2 : IntKind.i64.wrap (4 * (k : Int) + 4) = 4 * (k : Int) + 4 := IntWalk.i64_in _ (by omega)
      have e3 : (4 * (k : Int)).toNat = 4 * k := by omega
      have e4 : (4 * (k : Int) + 4).toNat = 4 * k + 4 := by omega
      have hsl := fun W : World => str_slice (P := Tryz.prog) 9 Tryz.underlying9 k5 (4 * (k : Int)) (4 * (k : Int) + 4) (4 * k) (4 * k + 4) (by omega) (by omega) (by omega) (by omega) W
      have hwd := word5_at k5 k (by omega)
      obtain ⟨x, hx⟩ : ∃ x, leW (bl k5) k = x := ⟨_, rfl⟩
      rw [hx] at hwd
      have hst : fourJ ++ leWs (bl k5) (k + 1) = (fourJ ++ leWs (bl k5) k) ++ [x] := by rw [← hx, List.append_assoc]; rfl
      have hln : (fourJ ++ leWs (bl k5) k).length = 4 + k := by rw [List.length_append, leWs_length]; rfl
      obtain ⟨L, eL⟩ : ∃ L, fourJ ++ leWs (bl k5) k = L := ⟨_, rfl⟩
      rw [eL] at hst hln hO
      clear eL
      have hsz := hB.size
      have HW := Lib.hid hwd; have HST := Lib.hid hst; have HLN := Lib.hid hln
      have HO := Lib.hid hO; have HB := Lib.hid hB
      clear hO hB hwd hst hln hx
      go_wp2_with fail
      refine (HW.out _).mono ?_
      rintro e w1 ⟨rfl, m1, rfl⟩
      have hO : OwnW (wr.drewN m1) w.heap.size (.slice (some ⟨g, 0, none⟩) (4 + k) cap) L := HO.out
      have hB := below_drewN HB.out m1
      have hsz : w.heap.size ≤ (wr.drewN m1).heap.size := hsz
      clear HO HB HW hsl
      generalize wr.drewN m1 = W at hO hB hsz ⊢
      have HO := Lib.hid hO; have HB := Lib.hid hB
      clear hO hB
      go_wp2_with (at_builtin; refine append_w rfl _ _ rfl w.heap.size _ L x W.heap.size rfl ?c0 ?c1 ?c2 ?c3 ?c4 ?_)
      case c0 => exact OwnW.alloc HO.out _
      case c1 => rfl
      case c2 => simp
      case c3 => rw [HLN.out]; omega
      case c4 => first | omega | (simp; omega)
      intro g' cap' w' hO' hg'
      have hB' := HO.out.below HB.out hsz hg'
      rw [← HST.out, HLN.out] at hO'
      rw [HLN.out]
      have HO' := Lib.hid hO'; have HB' := Lib.hid hB'
      clear hO' hB' hg' HO HB
      go_wp2_with fail
      exact ⟨⟨k + 1, g', cap', by omega, by simp, rfl, HO'.out, HB'.out⟩, by simp [intOf]; omega⟩
    · obtain rfl : k = 8 := by omega
      have hln : (fourJ ++ leWs (bl k5) 8).length = 12 := by rw [List.length_append, leWs_length]; rfl
      have hln2 : (fourJ ++ leWs (bl k5) 8 ++ [n]).length = 13 := by rw [List.length_append, hln]; rfl
      obtain ⟨L, eL⟩ : ∃ L, fourJ ++ leWs (bl k5) 8 = L := ⟨_, rfl⟩
      rw [eL] at hln hln2 hO
      have EL := Lib.hid eL
      clear eL
      have hsz := hB.size
      have HO := Lib.hid hO; have HB := Lib.hid hB; have HLN := Lib.hid hln; have HLN2 := Lib.hid hln2
      clear hO hB hln hln2
      go_wp2_with (at_builtin; refine append_w rfl _ _ rfl w.heap.size _ L n wr.heap.size rfl ?c0 ?c1 ?c2 ?c3 ?c4 ?_)
      case c0 => exact OwnW.alloc HO.out _
      case c1 => rfl
      case c2 => simp
      case c3 => rw [HLN.out]; omega
      case c4 => first | omega | (simp; omega)
      intro g' cap' w' hO' hg'
      have hB' := HO.out.below HB.out hsz hg'
      rw [HLN.out] at hO' ⊢
      clear hg' HO HB hsz
      obtain ⟨pre, hpre⟩ : ∃ p, L ++ [n] = p := ⟨_, rfl⟩
      rw [hpre] at hO' HLN2
      have hfin : pre ++ leWs (bl nc) 3 = firstC (bl k5) n (bl nc) := by rw [← hpre, ← EL.out]; rfl
      have HFIN := Lib.hid hfin
      have HO := Lib.hid hO'; have HB := Lib.hid hB'
      clear hO' hB' hpre hfin
      go_wp2_with fail
      go_loopw [7, 9] (FiR w.heap.size 13 w pre (bl nc) 3) (fun _ i _ => 3 - (intOf i).toNat)
      case atStart => exact ⟨0, g', cap', by omega, rfl, rfl, by have := HO.out; simpa [leWs] using this, HB.out⟩
      case round =>
        clear HO HB
        obtain ⟨k, g, cap, hk3, rfl, rfl, hO, hB⟩ := hrel
        by_cases hlt : k < 3
        · have h1 : (k : Int) < 3 := by omega
          have e1 : IntKind.i64.wrap (4 * (k : Int)) = 4 * (k : Int) := IntWalk.i64_in _ (by omega)
          have e2 : IntKind.i64.wrap (4 * (k : Int) + 4) = 4 * (k : Int) + 4 := IntWalk.i64_in _ (by omega)
          have e3 : (4 * (k : Int)).toNat = 4 * k := by omega
          have e4 : (4 * (k : Int) + 4).toNat = 4 * k + 4 := by omega
          have hsl := fun W : World => str_slice (P := Tryz.prog) 9 Tryz.underlying9 nc (4 * (k : Int)) (4 * (k : Int) + 4) (4 * k) (4 * k + 4) (by omega) (by omega) (by omega) (by omega) W
          have hwd := word5_at nc k (by omega)
          obtain ⟨x, hx⟩ : ∃ x, leW (bl nc) k = x := ⟨_, rfl⟩
          rw [hx] at hwd
          have hst : pre ++ leWs (bl nc) (k + 1) = (pre ++ leWs (bl nc) k) ++ [x] := by rw [← hx, List.append_assoc]; rfl
          have hln : (pre ++ leWs (bl nc) k).length = 13 + k := by rw [List.length_append, leWs_length, HLN2.out]
          obtain ⟨L, eL⟩ : ∃ L, pre ++ leWs (bl nc) k = L := ⟨_, rfl⟩
          rw [eL] at hst hln hO
          clear eL
          have hsz := hB.size
          have HW := Lib.hid hwd; have HST := Lib.hid hst; have HLN := Lib.hid hln
          have HO := Lib.hid hO; have HB := Lib.hid hB
          clear hO hB hwd hst hln hx
          go_wp2_with fail
          refine (HW.out _).mono ?_
          rintro e w1 ⟨rfl, m1, rfl⟩
          have hO : OwnW (wr.drewN m1) w.heap.size (.slice (some ⟨g, 0, none⟩) (13 + k) cap) L := HO.out
          have hB := below_drewN HB.out m1
          have hsz : w.heap.size ≤ (wr.drewN m1).heap.size := hsz
          clear HO HB HW hsl
          generalize wr.drewN m1 = W at hO hB hsz ⊢
          have HO := Lib.hid hO; have HB := Lib.hid hB
          clear hO hB
          go_wp2_with (at_builtin; refine append_w rfl _ _ rfl w.heap.size _ L x W.heap.size rfl ?c0 ?c1 ?c2 ?c3 ?c4 ?_)
          case c0 => exact OwnW.alloc HO.out _
          case c1 => rfl
          case c2 => simp
          case c3 => rw [HLN.out]; omega
          case c4 => first | omega | (simp; omega)
          intro g' cap' w' hO' hg'
          have hB' := HO.out.below HB.out hsz hg'
          rw [← HST.out, HLN.out] at hO'
          rw [HLN.out]
          have HO' := Lib.hid hO'; have HB' := Lib.hid hB'
          clear hO' hB' hg' HO HB
          go_wp2_with fail
          refine ⟨⟨.slice (some ⟨g', 0, none⟩) (13 + k + 1) cap', .int .i64 ((k : Int) + 1), _, _, _, _, _, _, _, _, _, _, _, _, _, _, _, ⟨k + 1, g', cap', by omega, by simp, rfl, HO'.out, HB'.out⟩, rfl⟩, ?_⟩
          simp [intOf]; omega
        · obtain rfl : k = 3 := by omega
          rw [HFIN.out] at hO
          have HO := Lib.hid hO; have HB := Lib.hid hB
          clear hO hB
          go_wp2_with fail
          go_ret
          exact ⟨g, cap, rfl, HO.out, HB.out⟩
end Go.Proofs.YthjlhcmdpeinpaaGreatDoor

/- The contract of the reference's Block. -/
namespace Go.Proofs.YthjlhcmdpeinpaaGreatDoor
open Go.RowKit
set_option maxRecDepth 100000
/-- sixteen words of the call's own, and what lay below -/
structure Ox (w : World) (n g cap : Nat) (l : List (BitVec 32)) (wr : World) : Prop where
  own : OwnW wr n (.slice (some ⟨g, 0, none⟩) 16 cap) l
  len : l.length = 16
  bel : Below n w wr
  siz : n ≤ wr.heap.size
theorem mix5_lit {w wr : World} {n g cap : Nat} {l : List (BitVec 32)} (h : Ox w n g cap l wr) (a b c d : Int) (na nb nc nd : Nat) (ea : a = na) (eb : b = nb) (ec : c = nc) (ed : d = nd) (hlt : na < 16 ∧ nb < 16 ∧ nc < 16 ∧ nd < 16) :
    Calls Tryz.prog 179 #[.slice (some ⟨g, 0, none⟩) 16 cap, .int .i64 a, .int .i64 b, .int .i64 c, .int .i64 d] wr fun e w' => ∃ g' cap', e = .returned (.slice (some ⟨g', 0, none⟩) 16 cap') ∧ Ox w n g' cap' (mixC l na nb nc nd) w' := by
  subst ea eb ec ed
  obtain ⟨h1, h2, h3, h4⟩ := hlt
  refine (mix5_any g 0 cap l na nb nc nd h.len h1 h2 h3 h4 wr (h.own.ws (by rw [h.len]; omega))).mono ?_
  rintro e w' ⟨g', cap', rfl, hO, hB⟩
  exact ⟨g', cap', rfl, hO.rebase h.siz, by rw [mixC_length]; exact h.len, h.bel.trans (hB.mono h.siz), Nat.le_trans h.siz hB.size⟩
def BkR (n : Nat) (w : World) (f : List (BitVec 32)) (v i : Value) (wr : World) : Prop :=
  ∃ k g cap : Nat, k ≤ 10 ∧ i = .int .i64 (k : Int) ∧ v = .slice (some ⟨g, 0, none⟩) 16 cap ∧ Ox w n g cap (roundsC f k) wr
theorem OwnW.grownF {w w' : World} {base g n cap : Nat} {l : List (BitVec 32)} {row : Option Nat} (h : OwnW w base (.slice (some ⟨g, 0, none⟩) n cap) l) (hg : w.grownBy w' row) (hne : some g ≠ row) : OwnW w' base (.slice (some ⟨g, 0, none⟩) n cap) l := by
  refine ⟨h.1, ?_⟩
  rcases h.2 with ⟨e, -⟩ | ⟨g', cap', cur, e, hb, hc, h3⟩
  · cases e
  · have : g = g' := by simp at e; exact e.1
    subst this
    exact Or.inr ⟨g, cap', cur, e, hb, by rw [hg.block g (Array.getElem?_eq_some_iff.1 hc).1 hne]; exact hc, h3⟩
theorem OwnW.blkB {w : World} {base base' g n cap G N C : Nat} {l : List (BitVec 32)} {b : List UInt8} (h : OwnW w base (.slice (some ⟨g, 0, none⟩) n cap) l) (hB : Own w base' (.slice (some ⟨G, 0, none⟩) N C) b) : g ≠ G := by
  rintro rfl
  rcases h.2 with ⟨e, -⟩ | ⟨g', cap', cur, e, -, hc, -⟩
  · cases e
  · have : g = g' := by simp at e; exact e.1
    subst this
    rcases hB.2 with ⟨e2, -⟩ | ⟨G', cap2, cur2, e2, -, hc2, -⟩
    · cases e2
    · have : g = G' := by simp at e2; exact e2.1
      subst this
      rw [hc] at hc2
      simp at hc2
theorem World.grownBy.andAlloc {w w' : World} {o : Obj} {row : Option Nat} (h : (w.alloc o).grownBy w' row) : w.grownBy w' row :=
  ⟨h.os, h.tape, h.output, by have := h.size; simp at this; omega, fun k hk hne => by rw [h.block k (by simp; omega) hne, Below.heap_alloc _ _ _ hk]⟩
def BtR (n : Nat) (w : World) (g1 c1 g2 c2 : Nat) (f m : List (BitVec 32)) (v i : Value) (wr : World) : Prop :=
  ∃ k g cap : Nat, k ≤ 16 ∧ i = .int .i64 (k : Int) ∧ v = .slice (some ⟨g, 0, none⟩) (4 * k) cap ∧ Own wr n v (sumC f m k) ∧ OwnW wr n (.slice (some ⟨g1, 0, none⟩) 16 c1) f ∧ OwnW wr n (.slice (some ⟨g2, 0, none⟩) 16 c2) m ∧ Below n w wr

set_option maxHeartbeats 4000000 in
theorem Block5_any (k5 nc : ByteArray) (n : BitVec 32) (hk : k5.size = 32) (hn : nc.size = 12) (w : World) :
    Calls Tryz.prog 149 #[.string k5, .int .u32 (n.toNat : Int), .string nc] w fun e w' => e = .returned (.string (strL (blockC (bl k5) n (bl nc)))) ∧ Below w.heap.size w w' := by
  have HF := Lib.hid (first5_any k5 nc n hk hn)
  obtain ⟨f, ef⟩ : ∃ f, firstC (bl k5) n (bl nc) = f := ⟨_, rfl⟩
  have hfl : f.length = 16 := by rw [← ef]; exact firstC_length _ _ _
  have hbk : blockC (bl k5) n (bl nc) = sumC f (roundsC f 10) 16 := by rw [← ef]; rfl
  rw [ef] at HF
  rw [hbk]
  have HFL := Lib.hid hfl
  clear hbk ef hfl
  go_enter Tryz.func149, Tryz.ntmps149
  go_wp2_with fail
  refine (HF.out _).mono ?_
  rintro e w1 ⟨g1, c1, rfl, hO, hB⟩
  have HO := Lib.hid (Ox.mk hO HFL.out hB hB.size)
  clear hO hB
  go_wp2_with fail
  go_loopw [7, 8] (BkR w.heap.size w f) (fun _ i _ => 10 - (intOf i).toNat)
  case atStart => exact ⟨0, g1, c1, by omega, rfl, rfl, HO.out⟩
  case round =>
    clear HO
    obtain ⟨k, g, cap, hk10, rfl, rfl, hO⟩ := hrel
    by_cases hlt : k < 10
    · have h1 : (k : Int) < 10 := by omega
      obtain ⟨r0, er⟩ : ∃ r, roundsC f k = r := ⟨_, rfl⟩
      have hst : roundsC f (k + 1) = roundC r0 := by rw [← er]; rfl
      rw [er] at hO
      have HS := Lib.hid hst
      have H := Lib.hid hO
      clear hst hO er
      go_wp2_with fail
      refine (mix5_lit H.out 0 4 8 12 0 4 8 12 rfl rfl rfl rfl (by decide)).mono ?_
      clear H
      rintro e v0 ⟨g0', c0', rfl, h⟩
      have H := Lib.hid h
      clear h
      go_wp2_with fail
      refine (mix5_lit H.out 1 5 9 13 1 5 9 13 rfl rfl rfl rfl (by decide)).mono ?_
      clear H
      rintro e v1 ⟨g1', c1', rfl, h⟩
      have H := Lib.hid h
      clear h
      go_wp2_with fail
      refine (mix5_lit H.out 2 6 10 14 2 6 10 14 rfl rfl rfl rfl (by decide)).mono ?_
      clear H
      rintro e v2 ⟨g2', c2', rfl, h⟩
      have H := Lib.hid h
      clear h
      go_wp2_with fail
      refine (mix5_lit H.out 3 7 11 15 3 7 11 15 rfl rfl rfl rfl (by decide)).mono ?_
      clear H
      rintro e v3 ⟨g3', c3', rfl, h⟩
      have H := Lib.hid h
      clear h
      go_wp2_with fail
      refine (mix5_lit H.out 0 5 10 15 0 5 10 15 rfl rfl rfl rfl (by decide)).mono ?_
      clear H
      rintro e v4 ⟨g4', c4', rfl, h⟩
      have H := Lib.hid h
      clear h
      go_wp2_with fail
      refine (mix5_lit H.out 1 6 11 12 1 6 11 12 rfl rfl rfl rfl (by decide)).mono ?_
      clear H
      rintro e v5 ⟨g5', c5', rfl, h⟩
      have H := Lib.hid h
      clear h
      go_wp2_with fail
      refine (mix5_lit H.out 2 7 8 13 2 7 8 13 rfl rfl rfl rfl (by decide)).mono ?_
      clear H
      rintro e v6 ⟨g6', c6', rfl, h⟩
      have H := Lib.hid h
      clear h
      go_wp2_with fail
      refine (mix5_lit H.out 3 4 9 14 3 4 9 14 rfl rfl rfl rfl (by decide)).mono ?_
      clear H
      rintro e v7 ⟨g7', c7', rfl, h⟩
      have H := Lib.hid h
      clear h
      go_wp2_with fail
      exact ⟨⟨k + 1, g7', c7', by omega, by simp, rfl, by rw [HS.out]; exact H.out⟩, by simp [intOf]; omega⟩
    · obtain rfl : k = 10 := by omega
      obtain ⟨m, em⟩ : ∃ m, roundsC f 10 = m := ⟨_, rfl⟩
      rw [em] at hO
      have EM := Lib.hid em
      have HO := Lib.hid hO
      clear hO em
      go_wp2_with fail
      have hE := Own.empty wr w.heap.size HO.out.siz
      have hbA : Below wr.heap.size wr (wr.alloc (.cells #[] 5)) := by go_grown
      have hMm := HO.out.own.on hbA
      have hBb := HO.out.bel.trans (hbA.mono HO.out.siz)
      have hs2 : w.heap.size ≤ (wr.alloc (.cells #[] 5)).heap.size := Nat.le_trans HO.out.siz hbA.size
      clear HO hbA
      generalize World.alloc wr _ = W2 at hE hMm hBb hs2 ⊢
      obtain ⟨ge, ege⟩ : ∃ ge, wr.heap.size = ge := ⟨_, rfl⟩
      rw [ege] at hE ⊢
      clear ege
      have HE := Lib.hid hE; have HM := Lib.hid hMm; have HB := Lib.hid hBb
      clear hE hMm hBb
      refine (HF.out _).mono ?_
      rintro e w2 ⟨g2, c2, rfl, hO2, hB2⟩
      have hO3 := hO2.rebase hs2
      have hE := HE.out.onB hB2
      have hMm := HM.out.on hB2
      have hBb := HB.out.trans (hB2.mono hs2)
      clear HE HM HB hO2 hB2 HF hs2
      have HE := Lib.hid hE; have HM := Lib.hid hMm; have HB := Lib.hid hBb; have HFf := Lib.hid hO3
      clear hE hMm hBb hO3
      have hlm : m.length = 16 := by rw [← EM.out, roundsC_length]; exact HFL.out
      have HLM := Lib.hid hlm
      clear hlm
      go_wp2_with fail
      go_loopw [9, 37] (BtR w.heap.size w g2 c2 g cap f m) (fun _ i _ => 16 - (intOf i).toNat)
      case atStart => exact ⟨0, ge, 0, by omega, rfl, rfl, HE.out, HFf.out, HM.out, HB.out⟩
      case round =>
        clear HE HM HB HFf
        obtain ⟨k, G, C, hk16, rfl, rfl, hO, hFo, hMo, hB⟩ := hrel
        by_cases hlt2 : k < 16
        · have h1 : (k : Int) < 16 := by omega
          have d1 := hFo.cell HFL.out.symm k (by rw [HFL.out]; exact hlt2)
          have d2 := hMo.cell HLM.out.symm k (by rw [HLM.out]; exact hlt2)
          obtain ⟨a, ea⟩ : ∃ a, f.getD k 0 = a := ⟨_, rfl⟩
          obtain ⟨b, eb⟩ : ∃ b, m.getD k 0 = b := ⟨_, rfl⟩
          rw [ea] at d1
          rw [eb] at d2
          obtain ⟨x, ex⟩ : ∃ x, a + b = x := ⟨_, rfl⟩
          have hx := add_mod32 a b x ex
          have hst : sumC f m (k + 1) = sumC f m k ++ le4 x := by rw [show sumC f m (k + 1) = sumC f m k ++ le4 (f.getD k 0 + m.getD k 0) from rfl, ea, eb, ex]
          have hln : (sumC f m k).length = 4 * k := sumC_length _ _ _
          obtain ⟨L, eL⟩ : ∃ L, sumC f m k = L := ⟨_, rfl⟩
          rw [eL] at hO hst hln
          have HST := Lib.hid hst; have HLN := Lib.hid hln
          have hsz : w.heap.size ≤ wr.heap.size := hB.size
          have n1 := hFo.blkB hO
          have n2 := hMo.blkB hO
          have HO := Lib.hid hO; have HFo := Lib.hid hFo; have HMo := Lib.hid hMo; have HB := Lib.hid hB; have HN := Lib.hid (And.intro n1 n2)
          clear hO hFo hMo hB ea eb ex hst hln eL n1 n2
          go_upto_region 12 with fail
          simp only [hx]
          clear d1 d2 hx
          obtain ⟨y0, ey0⟩ : ∃ y, UInt8.ofNat x.toNat = y := ⟨_, rfl⟩
          obtain ⟨y1, ey1⟩ : ∃ y, UInt8.ofNat (x.toNat / 256) = y := ⟨_, rfl⟩
          obtain ⟨y2, ey2⟩ : ∃ y, UInt8.ofNat (x.toNat / 65536) = y := ⟨_, rfl⟩
          obtain ⟨y3, ey3⟩ : ∃ y, UInt8.ofNat (x.toNat / 16777216) = y := ⟨_, rfl⟩
          have HLE : Hid (le4 x = [y0, y1, y2, y3]) := by rw [← ey0, ← ey1, ← ey2, ← ey3]; rfl
          have hx3 : x.toNat / 16777216 < 256 := by have := x.isLt; omega
          have xlt := x.isLt
          have v0 : IntKind.u8.wrap ((x.toNat : Int).tmod 256) = (y0.toNat : Int) := by rw [IntKind.wrap_u8, Int.tmod_eq_emod_of_nonneg (by omega), ← ey0, UInt8.toNat_ofNat']; omega
          have v1 : IntKind.u8.wrap ((IntKind.u32.wrap ((x.toNat : Int) / 256)).tmod 256) = (y1.toNat : Int) := by rw [IntKind.wrap_u8, IntKind.wrap_u32, Int.tmod_eq_emod_of_nonneg (by omega), ← ey1, UInt8.toNat_ofNat']; omega
          have v2 : IntKind.u8.wrap ((IntKind.u32.wrap ((x.toNat : Int) / 65536)).tmod 256) = (y2.toNat : Int) := by rw [IntKind.wrap_u8, IntKind.wrap_u32, Int.tmod_eq_emod_of_nonneg (by omega), ← ey2, UInt8.toNat_ofNat']; omega
          have v3 : IntKind.u8.wrap (IntKind.u32.wrap ((x.toNat : Int) / 16777216)) = (y3.toNat : Int) := by rw [IntKind.wrap_u8, IntKind.wrap_u32, ← ey3, UInt8.toNat_ofNat']; omega
          clear xlt
          clear ey0 ey1 ey2 ey3 hx3
          refine wp_region_lit ?_
          iterate 16 (refine wpList_step (fun K hK => ?_); go_simp; refine hK _ _ ?_; clear hK K)
          refine append_bytes rfl _ _ rfl w.heap.size (.slice (some ⟨G, 0, none⟩) (4 * k) C) L [y0, y1, y2, y3] wr.heap.size rfl (Own.alloc HO.out _) 4 rfl rfl (by omega) (lit_bytes _ _ _ _ rfl) (by rw [HLN.out]; omega) (by simp; omega) ?_
          intro g' cap' w' hY hg
          have hgA := World.grownBy.andAlloc hg
          have hB' := HO.out.below HB.out hsz hg
          have hF' := HFo.out.grownF hgA (by simp [Value.ownBlock]; exact HN.out.1)
          have hM' := HMo.out.grownF hgA (by simp [Value.ownBlock]; exact HN.out.2)
          rw [← HLE.out, ← HST.out, HLN.out] at hY
          rw [HLN.out]
          have HY := Lib.hid hY; have HF' := Lib.hid hF'; have HM' := Lib.hid hM'; have HB' := Lib.hid hB'
          clear hY hF' hM' hB' hg hgA v0 v1 v2 v3 HO HFo HMo HB
          go_wp2_with fail
          exact ⟨⟨k + 1, g', cap', by omega, by simp, rfl, HY.out, HF'.out, HM'.out, HB'.out⟩, by simp [intOf]; omega⟩
        · obtain rfl : k = 16 := by omega
          have ht := hO.text (by rw [sumC_length])
          have HB := Lib.hid hB
          clear hO hFo hMo hB
          go_wp2_with fail
          go_ret
          exact ⟨by rw [EM.out]; rfl, HB.out⟩
end Go.Proofs.YthjlhcmdpeinpaaGreatDoor
