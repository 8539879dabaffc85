/- The texts Ja, Jb0, one behind the other. -/
import Derived.Test.YtikgefcbmoomjaaDoorHa
import Derived.Test.YtikgefcbmoomjaaDoorZb
/- The contracts of the reference's smallest: rol, Quarter, May, word. -/
namespace Go.Proofs.YtikgefcbmoomjaaDoor
open Go.RowKit
set_option maxRecDepth 100000
set_option maxHeartbeats 400000 in
theorem rol5_any (x : BitVec 32) (n : Nat) (h0 : 0 < n) (h1 : n < 32) (w : World) :
    Calls Tryd.prog 75 #[.int .u32 (x.toNat : Int), .int .u32 (n : Int)] w fun e w' => e = .returned (.int .u32 ((rl x n).toNat : Int)) ∧ w = w' := by
  have es : ((32 : Int) - (n : Int)).toNat = 32 - n := by omega
  have hm1 : (n : Int) < 32 := by omega
  have hm0 : (0 : Int) < (n : Int) := by omega
  have ew : IntKind.u32.wrap (32 - (n : Int)) = 32 - (n : Int) := by rw [IntKind.wrap_u32]; omega
  have e1 := shl32 x n
  have e2 := shr32 x (32 - n)
  have e3 := bits_or32 (x <<< n) (x >>> (32 - n))
  change _ = (((rl x n).toNat : Nat) : Int) at e3
  generalize rl x n = r at e3 ⊢
  generalize x <<< n = s at e1 e3 ⊢
  generalize x >>> (32 - n) = t at e2 e3 ⊢
  go_enter Tryd.func75, Tryd.ntmps75
  go_wp2
  go_ret
  exact ⟨rfl, rfl⟩

/-- four words as a struct -/
def Q4.s (q : Q4) : Value := .agg #[.int .u32 (q.a.toNat : Int), .int .u32 (q.b.toNat : Int), .int .u32 (q.c.toNat : Int), .int .u32 (q.d.toNat : Int)]
set_option maxHeartbeats 400000 in
theorem quarter5_any (a b c d : BitVec 32) (w : World) :
    Calls Tryd.prog 65 #[.agg #[.int .u32 (a.toNat : Int), .int .u32 (b.toNat : Int), .int .u32 (c.toNat : Int), .int .u32 (d.toNat : Int)]] w fun e w' => e = .returned (qtr ⟨a, b, c, d⟩).s ∧ Below w.heap.size w w' := by
  obtain ⟨a1, ea1⟩ : ∃ z, a + b = z := ⟨_, rfl⟩
  obtain ⟨x1, ex1⟩ : ∃ z, d ^^^ a1 = z := ⟨_, rfl⟩
  obtain ⟨d1, ed1⟩ : ∃ z, rl x1 16 = z := ⟨_, rfl⟩
  obtain ⟨c1, ec1⟩ : ∃ z, c + d1 = z := ⟨_, rfl⟩
  obtain ⟨y1, ey1⟩ : ∃ z, b ^^^ c1 = z := ⟨_, rfl⟩
  obtain ⟨b1, eb1⟩ : ∃ z, rl y1 12 = z := ⟨_, rfl⟩
  obtain ⟨a2, ea2⟩ : ∃ z, a1 + b1 = z := ⟨_, rfl⟩
  obtain ⟨x2, ex2⟩ : ∃ z, d1 ^^^ a2 = z := ⟨_, rfl⟩
  obtain ⟨d2, ed2⟩ : ∃ z, rl x2 8 = z := ⟨_, rfl⟩
  obtain ⟨c2, ec2⟩ : ∃ z, c1 + d2 = z := ⟨_, rfl⟩
  obtain ⟨y2, ey2⟩ : ∃ z, b1 ^^^ c2 = z := ⟨_, rfl⟩
  obtain ⟨b2, eb2⟩ : ∃ z, rl y2 7 = z := ⟨_, rfl⟩
  have hq : qtr ⟨a, b, c, d⟩ = ⟨a2, b2, c2, d2⟩ := by
    show qB 7 (qA 8 (qB 12 (qA 16 ⟨a, b, c, d⟩))) = _
    simp only [qA, qB, ea1, ex1, ed1, ec1, ey1, eb1, ea2, ex2, ed2, ec2, ey2, eb2]
  rw [hq]
  have h1 := add_mod32 a b a1 ea1
  have h2 := bits_xor32 d a1
  have h3 := Lib.hid (rol5_any x1 16 (by omega) (by omega))
  have h4 := add_mod32 c d1 c1 ec1
  have h5 := bits_xor32 b c1
  have h6 := Lib.hid (rol5_any y1 12 (by omega) (by omega))
  have h7 := add_mod32 a1 b1 a2 ea2
  have h8 := bits_xor32 d1 a2
  have h9 := Lib.hid (rol5_any x2 8 (by omega) (by omega))
  have h10 := add_mod32 c1 d2 c2 ec2
  have h11 := bits_xor32 b1 c2
  have h12 := Lib.hid (rol5_any y2 7 (by omega) (by omega))
  rw [ex1] at h2
  rw [ed1] at h3
  rw [ey1] at h5
  rw [eb1] at h6
  rw [ex2] at h8
  rw [ed2] at h9
  rw [ey2] at h11
  rw [eb2] at h12
  clear hq ea1 ex1 ed1 ec1 ey1 eb1 ea2 ex2 ed2 ec2 ey2 eb2
  go_enter Tryd.func65, Tryd.ntmps65
  go_wp2_with fail
  simp only [h1]
  refine (h3.out _).mono ?_
  rintro e w' ⟨rfl, rfl⟩
  go_wp2_with fail
  simp only [h4]
  refine (h6.out _).mono ?_
  rintro e w' ⟨rfl, rfl⟩
  go_wp2_with fail
  simp only [h7]
  refine (h9.out _).mono ?_
  rintro e w' ⟨rfl, rfl⟩
  go_wp2_with fail
  simp only [h10]
  refine (h12.out _).mono ?_
  rintro e w' ⟨rfl, rfl⟩
  go_wp2_with fail
  refine bodyPost_ret (v := .agg #[.int .u32 (a2.toNat : Int), .int .u32 (b2.toNat : Int), .int .u32 (c2.toNat : Int), .int .u32 (d2.toNat : Int)]) (by simp [results, Tryd.results65, go_sem]) rfl ⟨rfl, by go_grown⟩

set_option maxHeartbeats 400000 in
theorem word5_any (s : ByteArray) (h : s.size = 4) (w : World) :
    Calls Tryd.prog 64 #[.string s] w fun e w' => e = .returned (.int .u32 ((wordLE s[0] s[1] s[2] s[3]).toNat : Int)) ∧ ∃ n, w' = w.drewN n := by
  have b1 : (0 : Int) < (s.size : Int) := by omega
  have b2 : (1 : Int) < (s.size : Int) := by omega
  have b3 : (2 : Int) < (s.size : Int) := by omega
  have b4 : (3 : Int) < (s.size : Int) := by omega
  have c1 := s[0].toNat_lt
  have c2 := s[1].toNat_lt
  have c3 := s[2].toNat_lt
  have c4 := s[3].toNat_lt
  have g0 : s[0]? = some s[0] := by simp
  have hw := wordLE_toNat s[0] s[1] s[2] s[3]
  go_enter Tryd.func64, Tryd.ntmps64
  go_wp2
  go_quiet (fail)
  go_wp2
  go_ret
  refine ⟨ret_u32 ?_, _, rfl⟩
  rw [hw]; omega
theorem word5_at (s : ByteArray) (t : Nat) (h : 4 * t + 4 ≤ s.size) (w : World) :
    Calls Tryd.prog 64 #[.string (s.extract (4 * t) (4 * t + 4))] w fun e w' => e = .returned (.int .u32 ((leW (bl s) t).toNat : Int)) ∧ ∃ n, w' = w.drewN n := by
  have hs : (s.extract (4 * t) (4 * t + 4)).size = 4 := by rw [ByteArray.size_extract]; omega
  have e : wordLE (s.extract (4 * t) (4 * t + 4))[0] (s.extract (4 * t) (4 * t + 4))[1] (s.extract (4 * t) (4 * t + 4))[2] (s.extract (4 * t) (4 * t + 4))[3] = leW (bl s) t := by
    unfold leW
    rw [bl_get s (4 * t) (by omega), bl_get s (4 * t + 1) (by omega), bl_get s (4 * t + 2) (by omega), bl_get s (4 * t + 3) (by omega)]
    simp only [ByteArray.getElem_extract]
    rfl
  rw [← e]
  exact word5_any _ hs w
end Go.Proofs.YtikgefcbmoomjaaDoor

/- The contract of the reference's mix. -/
namespace Go.Proofs.YtikgefcbmoomjaaDoor
open Go.RowKit
set_option maxRecDepth 100000
theorem bel_four {w0 w : World} {p0 p1 p2 p3 : Addr} {v0 v1 v2 v3 : Value} (h : w0.cell? p0 = some v0 ∧ w0.cell? p1 = some v1 ∧ w0.cell? p2 = some v2 ∧ w0.cell? p3 = some v3) (hb : Bel w0 w) :
    (w.cell? p0 = some v0 ∧ w.cell? p1 = some v1 ∧ w.cell? p2 = some v2 ∧ w.cell? p3 = some v3) ∧ Bel w0 w := by
  have f : ∀ p v, w0.cell? p = some v → w.cell? p = some v := fun p v h => by rw [hb.b.cell (World.block_lt_of_cell? w0 _ h)]; exact h
  obtain ⟨h0, h1, h2, h3⟩ := h
  exact ⟨⟨f _ _ h0, f _ _ h1, f _ _ h2, f _ _ h3⟩, hb⟩
theorem bel_of4 {w0 w : World} {p0 p1 p2 p3 : Addr} {v0 v1 v2 v3 : Value} (h : (w.cell? p0 = some v0 ∧ w.cell? p1 = some v1 ∧ w.cell? p2 = some v2 ∧ w.cell? p3 = some v3) ∧ Bel w0 w) : Bel w0 w := h.2
theorem OwnW.rebase {w : World} {base base' g n cap : Nat} {l : List (BitVec 32)} (h : OwnW w base (.slice (some ⟨g, 0, none⟩) n cap) l) (hb : base' ≤ base) : OwnW w base' (.slice (some ⟨g, 0, none⟩) n cap) l := by
  refine ⟨h.1, ?_⟩
  rcases h.2 with ⟨e, -⟩ | ⟨g', cap', cur, e, hg, h3⟩
  · cases e
  · exact Or.inr ⟨g', cap', cur, e, by omega, h3⟩
/-- four words of nought in a block -/
structure Zq (w : World) (B : Nat) : Prop where
  blk : w.heap[B]? = some (.cells #[.int .u32 0, .int .u32 0, .int .u32 0, .int .u32 0] 99)
theorem Zq.first {w w' : World} {o : Obj} (hb : Below (w.alloc o).heap.size (w.alloc o) w') (ho : o = .cells #[.int .u32 0, .int .u32 0, .int .u32 0, .int .u32 0] 99) : Zq w' w.heap.size := by
  subst ho
  exact ⟨by rw [hb.block _ (by simp)]; exact heap_alloc_new _ _⟩
theorem Zq.firstd {w w' : World} {o : Obj} (hb : Below (w.alloc o).drew.heap.size (w.alloc o).drew w') (ho : o = .cells #[.int .u32 0, .int .u32 0, .int .u32 0, .int .u32 0] 99) : Zq w' w.heap.size := by
  subst ho
  refine ⟨?_⟩
  rw [hb.block w.heap.size (by show w.heap.size < (w.alloc _).heap.size; simp)]
  exact heap_alloc_new _ _
theorem Zq.on {w w' : World} {B : Nat} (h : Zq w B) (hb : Below w.heap.size w w') : Zq w' B := ⟨by rw [hb.block _ (Array.getElem?_eq_some_iff.1 h.blk).1]; exact h.blk⟩
theorem Zq.open {w : World} {B : Nat} (h : Zq w B) : (w.cell? ⟨B, 0, none⟩ = some (.int .u32 0) ∧ w.cell? ⟨B, 1, none⟩ = some (.int .u32 0) ∧ w.cell? ⟨B, 2, none⟩ = some (.int .u32 0) ∧ w.cell? ⟨B, 3, none⟩ = some (.int .u32 0)) ∧
    (w.frozen? ⟨B, 0, none⟩ = false ∧ w.frozen? ⟨B, 1, none⟩ = false ∧ w.frozen? ⟨B, 2, none⟩ = false ∧ w.frozen? ⟨B, 3, none⟩ = false) ∧ B < w.heap.size :=
  ⟨⟨by rw [cell_of_row _ _ _ _ _ _ h.blk]; rfl, by rw [cell_of_row _ _ _ _ _ _ h.blk]; rfl, by rw [cell_of_row _ _ _ _ _ _ h.blk]; rfl, by rw [cell_of_row _ _ _ _ _ _ h.blk]; rfl⟩,
   ⟨frozen_of_row _ _ _ _ _ h.blk, frozen_of_row _ _ _ _ _ h.blk, frozen_of_row _ _ _ _ _ h.blk, frozen_of_row _ _ _ _ _ h.blk⟩, (Array.getElem?_eq_some_iff.1 h.blk).1⟩
/-- four words that lie in a block -/
structure QAt (w : World) (B : Nat) (q : Q4) : Prop where
  c0 : w.cell? ⟨B, 0, none⟩ = some (.int .u32 (q.a.toNat : Int))
  c1 : w.cell? ⟨B, 1, none⟩ = some (.int .u32 (q.b.toNat : Int))
  c2 : w.cell? ⟨B, 2, none⟩ = some (.int .u32 (q.c.toNat : Int))
  c3 : w.cell? ⟨B, 3, none⟩ = some (.int .u32 (q.d.toNat : Int))
theorem QAt.laid (w : World) (q : Q4) (t : TypeId) : QAt (w.alloc (.cells #[.int .u32 (q.a.toNat : Int), .int .u32 (q.b.toNat : Int), .int .u32 (q.c.toNat : Int), .int .u32 (q.d.toNat : Int)] t)) w.heap.size q :=
  ⟨by rw [cell_of_row _ _ _ _ _ (0, 0) (heap_alloc_new _ _)]; rfl, by rw [cell_of_row _ _ _ _ _ (0, 0) (heap_alloc_new _ _)]; rfl, by rw [cell_of_row _ _ _ _ _ (0, 0) (heap_alloc_new _ _)]; rfl, by rw [cell_of_row _ _ _ _ _ (0, 0) (heap_alloc_new _ _)]; rfl⟩
theorem Zq.put {w : World} {B : Nat} (z : Zq w B) (q : Q4) :
    QAt ((((w.setCell ⟨B, 0, none⟩ (.int .u32 (q.a.toNat : Int))).setCell ⟨B, 1, none⟩ (.int .u32 (q.b.toNat : Int))).setCell ⟨B, 2, none⟩ (.int .u32 (q.c.toNat : Int))).setCell ⟨B, 3, none⟩ (.int .u32 (q.d.toNat : Int))) B q := by
  obtain ⟨⟨d0, d1, d2, d3⟩, -, -⟩ := z.open
  exact ⟨setCell_far (setCell_far (setCell_far (World.cell?_setCell_same _ ⟨B, 0, none⟩ _ d0) (by omega)) (by omega)) (by omega), setCell_far (setCell_far (World.cell?_setCell_same _ ⟨B, 1, none⟩ _ (setCell_far d1 (by omega))) (by omega)) (by omega),
    setCell_far (World.cell?_setCell_same _ ⟨B, 2, none⟩ _ (setCell_far (setCell_far d2 (by omega)) (by omega))) (by omega), World.cell?_setCell_same _ ⟨B, 3, none⟩ _ (setCell_far (setCell_far (setCell_far d3 (by omega)) (by omega)) (by omega))⟩
theorem QAt.lt {w : World} {B : Nat} {q : Q4} (h : QAt w B q) : B < w.heap.size := World.block_lt_of_cell? w _ h.c0
theorem QAt.on {w w' : World} {B : Nat} {q : Q4} (h : QAt w B q) (hb : Below w.heap.size w w') : QAt w' B q := by
  have f : ∀ j v, w.cell? ⟨B, j, none⟩ = some v → w'.cell? ⟨B, j, none⟩ = some v := fun j v hh => by rw [hb.cell (p := ⟨B, j, none⟩) h.lt]; exact hh
  exact ⟨f _ _ h.c0, f _ _ h.c1, f _ _ h.c2, f _ _ h.c3⟩
theorem QAt.grown {w w' : World} {B : Nat} {q : Q4} {row : Option Nat} (h : QAt w B q) (hg : w.grownBy w' row) (hne : some B ≠ row) : QAt w' B q :=
  ⟨hg.cell h.c0 hne, hg.cell h.c1 hne, hg.cell h.c2 hne, hg.cell h.c3 hne⟩
theorem QAt.far {w : World} {B : Nat} {q : Q4} (h : QAt w B q) (p : Addr) (hne : B ≠ p.block) (v : Value) : QAt (w.setCell p v) B q := by
  have f : ∀ j u, w.cell? ⟨B, j, none⟩ = some u → (w.setCell p v).cell? ⟨B, j, none⟩ = some u := fun j u hh => by
    rw [World.cell?_setCell_other _ _ _ _ (fun e => hne (by rw [e]))]; exact hh
  exact ⟨f _ _ h.c0, f _ _ h.c1, f _ _ h.c2, f _ _ h.c3⟩
def QRel (V : World) (q : Q4) (t : Value) (wr : World) : Prop := ∃ B : Nat, t = .pointer (some ⟨B, 0, none⟩) ∧ QAt wr B q ∧ Bel V wr
end Go.Proofs.YtikgefcbmoomjaaDoor
