/- The texts Dtot, Dbeh, one behind the other. -/
import Derived.Test.YtdnjieffbgmagaaDoorBg3
import Derived.Test.YtdnjieffbgmagaaDoorBg1
import Derived.Lib.QuietBelow
import Derived.Deep.DeepCutAuto
/- The contracts of digest's total and behind. -/
namespace Go.Proofs.YtdnjieffbgmagaaDoor
open Go.RowKit
/-- a sum on its way, read in a block of its own; of what was there below n + d nothing has turned -/
structure HashIn (d : Nat) (w0 w : World) (n : Nat) (v : Value) (x : ByteArray) (m : Nat) (l : List (BitVec 32)) : Prop where
  c0 : w.cell? ⟨n, 0, none⟩ = some v
  c1 : w.cell? ⟨n, 1, none⟩ = some (.string x)
  c2 : w.cell? ⟨n, 2, none⟩ = some (.int .u64 (m : Int))
  ws : WsAt w v l
  blk : ∀ a k c, v = .slice (some a) k c → a.block < n
  keys : KeysAt w
  kn : 2 < n
  bel : Below (n + d) w0 w
  top : n + d ≤ w.heap.size
section
variable {d : Nat} {w0 w w' : World} {n : Nat} {v : Value} {x : ByteArray} {m : Nat} {l : List (BitVec 32)}
theorem HashIn.lt (h : HashIn d w0 w n v x m l) : n + d ≤ w.heap.size := h.top
theorem HashIn.below {k : Nat} (h : HashIn d w0 w n v x m l) (hb : Below k w w') (hk : n + d ≤ k) (hd : n < k) : HashIn d w0 w' n v x m l :=
  ⟨by rw [hb.cell (p := ⟨n, 0, none⟩) hd]; exact h.c0, by rw [hb.cell (p := ⟨n, 1, none⟩) hd]; exact h.c1, by rw [hb.cell (p := ⟨n, 2, none⟩) hd]; exact h.c2,
   h.ws.below hb (fun a k' c e => Nat.lt_trans (h.blk a k' c e) hd), h.blk, h.keys.below hb (Nat.lt_trans h.kn hd), h.kn, h.bel.trans (hb.mono hk), Nat.le_trans h.top hb.size⟩
theorem HashIn.on (h : HashIn d w0 w n v x m l) (hb : Below w.heap.size w w') : HashIn d w0 w' n v x m l := h.below hb h.top (World.block_lt_of_cell? w _ h.c0)
theorem HashIn.drew (h : HashIn d w0 w n v x m l) : HashIn d w0 w.drew n v x m l := h.on ((Below.refl _ _).drew)
theorem HashIn.alloc (h : HashIn d w0 w n v x m l) (o : Obj) : HashIn d w0 (w.alloc o) n v x m l := h.on ((Below.refl _ _).alloc (Nat.le_refl _) o)
theorem HashIn.far (h : HashIn d w0 w n v x m l) {p : Addr} (hp : n + d ≤ p.block) (hd : n < p.block) (u : Value) : HashIn d w0 (w.setCell p u) n v x m l :=
  h.below (k := p.block) ((Below.refl _ _).setCell (Nat.le_refl _) u) hp hd
theorem HashIn.swap {o : Obj} (h : HashIn d w0 (w.alloc o) n v x m l) (hn : n + d ≤ w.heap.size) (hd : n < w.heap.size) (o' : Obj) : HashIn d w0 (w.alloc o') n v x m l :=
  have q := h.below (w' := w.alloc o') (k := w.heap.size) ⟨rfl, rfl, rfl, by simp, fun k hk => by rw [Below.heap_alloc _ _ _ hk, Below.heap_alloc _ _ _ hk]⟩ hn hd
  q
theorem HashIn.four (h : HashIn d w0 w n v x m l) :
    (w.cell? ⟨n, 0, none⟩ = some v ∧ w.cell? ⟨n, 1, none⟩ = some (.string x) ∧ w.cell? ⟨n, 2, none⟩ = some (.int .u64 (m : Int))) ∧ HashIn d w0 w n v x m l := ⟨⟨h.c0, h.c1, h.c2⟩, h⟩
theorem HashIn.of4
    (h : (w.cell? ⟨n, 0, none⟩ = some v ∧ w.cell? ⟨n, 1, none⟩ = some (.string x) ∧ w.cell? ⟨n, 2, none⟩ = some (.int .u64 (m : Int))) ∧ HashIn d w0 w n v x m l) : HashIn d w0 w n v x m l := h.2
end
theorem read_lit (v : Value) (s : S8) (w : World) (hv : WsAt w v s.l) :
    Calls Tryd.prog 97 #[v] w fun e w' => e = .returned (.agg #[.int .u32 (s.a.toNat : Int), .int .u32 (s.b.toNat : Int), .int .u32 (s.c.toNat : Int), .int .u32 (s.d.toNat : Int), .int .u32 (s.e.toNat : Int), .int .u32 (s.f.toNat : Int), .int .u32 (s.g.toNat : Int), .int .u32 (s.h.toNat : Int)]) ∧ Below w.heap.size w w' :=
  read_any v s w hv
theorem mixedAll_lit (s u : S8) (x : ByteArray) (hx : x.size ≤ maxLen) (hu : mixAll s (bl x) = u) (w : World) (hK : KeysAt w) :
    Calls Tryd.prog 98 #[.agg #[.int .u32 (s.a.toNat : Int), .int .u32 (s.b.toNat : Int), .int .u32 (s.c.toNat : Int), .int .u32 (s.d.toNat : Int), .int .u32 (s.e.toNat : Int), .int .u32 (s.f.toNat : Int), .int .u32 (s.g.toNat : Int), .int .u32 (s.h.toNat : Int)], .string x] w fun e w' =>
      ∃ y : ByteArray, e = .returned (.tuple #[.agg #[.int .u32 (u.a.toNat : Int), .int .u32 (u.b.toNat : Int), .int .u32 (u.c.toNat : Int), .int .u32 (u.d.toNat : Int), .int .u32 (u.e.toNat : Int), .int .u32 (u.f.toNat : Int), .int .u32 (u.g.toNat : Int), .int .u32 (u.h.toNat : Int)], .string y]) ∧ bl y = restOf (bl x) ∧ Below w.heap.size w w' := by
  subst hu
  exact mixedAll_any s x hx w hK

def zeroS : S8 := ⟨0, 0, 0, 0, 0, 0, 0, 0⟩
/-- a block of zeros that the region has made: kept over a call -/
structure Zb (w : World) (B : Nat) : Prop where
  blk : BlkW w B 144 zeroS.l
theorem Zb.first {w w' : World} {o : Obj} (hb : Below (w.alloc o).heap.size (w.alloc o) w') (ho : o = .cells #[.int .u32 0, .int .u32 0, .int .u32 0, .int .u32 0, .int .u32 0, .int .u32 0, .int .u32 0, .int .u32 0] 144) : Zb w' w.heap.size := by
  subst ho
  exact ⟨BlkW.on (BlkW.fresh w 144 zeroS.l _ rfl _ rfl) hb⟩
theorem Zb.firstd {w w' : World} {o : Obj} (hb : Below (w.alloc o).drew.heap.size (w.alloc o).drew w') (ho : o = .cells #[.int .u32 0, .int .u32 0, .int .u32 0, .int .u32 0, .int .u32 0, .int .u32 0, .int .u32 0, .int .u32 0] 144) : Zb w' w.heap.size := by
  subst ho
  exact ⟨BlkW.on (BlkW.drew (BlkW.fresh w 144 zeroS.l _ rfl _ rfl)) hb⟩
theorem Zb.on {w w' : World} {B : Nat} (h : Zb w B) (hb : Below w.heap.size w w') : Zb w' B := ⟨BlkW.on h.blk hb⟩
theorem Zb.put {w' : World} {B : Nat} (z : Zb w' B) (u : S8) : BlkW ((((((((w'.setCell ⟨B, 0, none⟩ (.int .u32 (u.a.toNat : Int))).setCell ⟨B, 1, none⟩ (.int .u32 (u.b.toNat : Int))).setCell ⟨B, 2, none⟩ (.int .u32 (u.c.toNat : Int))).setCell ⟨B, 3, none⟩ (.int .u32 (u.d.toNat : Int))).setCell ⟨B, 4, none⟩ (.int .u32 (u.e.toNat : Int))).setCell ⟨B, 5, none⟩ (.int .u32 (u.f.toNat : Int))).setCell ⟨B, 6, none⟩ (.int .u32 (u.g.toNat : Int))).setCell ⟨B, 7, none⟩ (.int .u32 (u.h.toNat : Int))) B 144 u.l := z.blk.stored u.l rfl
theorem tell_lit (s : S8) (w : World) :
    Calls Tryd.prog 100 #[.agg #[.int .u32 (s.a.toNat : Int), .int .u32 (s.b.toNat : Int), .int .u32 (s.c.toNat : Int), .int .u32 (s.d.toNat : Int), .int .u32 (s.e.toNat : Int), .int .u32 (s.f.toNat : Int), .int .u32 (s.g.toNat : Int), .int .u32 (s.h.toNat : Int)]] w fun e w' => e = .returned (.string ⟨(tellL s.l).toArray⟩) ∧ Below w.heap.size w w' := tell_any s w
def TotPost (s : S8) (x : ByteArray) (m : Nat) (w : World) (e : Ending) (w' : World) : Prop := e = .returned (.string ⟨(tellL (mixAll s (bl x ++ padL m)).l).toArray⟩) ∧ Below w.heap.size w w'

set_option maxRecDepth 100000 in
set_option maxHeartbeats 4000000 in
theorem total_any (v : Value) (s : S8) (x : ByteArray) (hx : x.size ≤ 1000000) (m : Nat) (hm : m < 18446744073709551616) (w : World) (hv : WsAt w v s.l) (hK : KeysAt w) :
    Calls Tryd.prog 92 #[.agg #[v, .string x, .int .u64 (m : Int)]] w (TotPost s x m w) := by
  have hkn := hK.lt
  go_enter Tryd.func92, Tryd.ntmps92
  go_wp2_with fail
  have hb0 : Below w.heap.size w (w.alloc (.cells #[v, .string x, .int .u64 (m : Int)] 118)) := by go_grown
  have hH : HashIn 1 (w.alloc (.cells #[v, .string x, .int .u64 (m : Int)] 118)) (w.alloc (.cells #[v, .string x, .int .u64 (m : Int)] 118)) w.heap.size v x m s.l := by
    refine ⟨by simp, by simp, by simp, hv.on hb0, ?_, hK.on hb0, hkn, Below.refl _ _, by simp⟩
    rintro a k c rfl
    obtain ⟨b, off, cap, e, hlt, -⟩ := hv
    cases e
    exact hlt
  generalize World.alloc w _ = W0 at hH hb0 ⊢
  clear hv hK
  obtain ⟨pad, hpad⟩ : ∃ pad : ByteArray, (⟨(padL m).toArray⟩ : ByteArray) = pad := ⟨_, rfl⟩
  have hp := padding_any m hm
  rw [hpad] at hp
  have hps : pad.size ≤ 100 := by
    rw [← hpad]
    show (padL m).toArray.size ≤ 100
    rw [List.size_toArray, padL_length]; unfold padZ; omega
  obtain ⟨u, hu⟩ : ∃ u, mixAll s (bl (x ++ pad)) = u := ⟨_, rfl⟩
  have hmx := mixedAll_lit s u (x ++ pad) (by rw [ByteArray.size_append]; unfold maxLen; omega) hu
  have HP := Lib.hid hp; have HMX := Lib.hid hmx; have HU := Lib.hid hu; have HPAD := Lib.hid hpad
  have c0 := hH.c0; have c1 := hH.c1; have c2 := hH.c2
  have hcat : ∀ W : World, (Op.stringOp .add x pad).run Tryd.prog W = .ok (.string (x ++ pad)) W := fun W => run_string_add_sum W x pad (by omega)
  have hns : (9223372036854775807 < x.size + pad.size) = False := by simp; omega
  clear hp hmx hu hpad
  have hlt := hH.lt
  have hS : (fun w' : World => (w'.cell? ⟨w.heap.size, 0, none⟩ = some v ∧ w'.cell? ⟨w.heap.size, 1, none⟩ = some (.string x) ∧ w'.cell? ⟨w.heap.size, 2, none⟩ = some (.int .u64 (m : Int))) ∧ HashIn 1 W0 w' w.heap.size v x m s.l) W0 := ⟨⟨c0, c1, c2⟩, hH⟩
  go_region_held3 (fun w' => (w'.cell? ⟨w.heap.size, 0, none⟩ = some v ∧ w'.cell? ⟨w.heap.size, 1, none⟩ = some (.string x) ∧ w'.cell? ⟨w.heap.size, 2, none⟩ = some (.int .u64 (m : Int))) ∧ HashIn 1 W0 w' w.heap.size v x m s.l)
    ((refine HashIn.four ?_; (repeat ((with_reducible refine HashIn.far ?_ ?far ?far2 _); (case far => first | assumption | (simp; omega)); (case far2 => first | assumption | (simp; omega) | omega))); first | assumption | ((with_reducible refine HashIn.drew ?_); assumption) | ((with_reducible refine HashIn.drew ?_); (with_reducible refine HashIn.alloc ?_ _); assumption) | ((with_reducible refine HashIn.on ?_ hb); exact HashIn.of4 (by assumption)) | ((with_reducible refine HashIn.alloc ?_ _); exact HashIn.of4 (by assumption)) | exact HashIn.of4 (by assumption) | exact HashIn.swap (HashIn.of4 (by assumption)) hlt1 (by omega) _))
    (first | (go_at_call 97; refine (read_lit v s _ ?_).mono ?_; exact HashIn.ws (HashIn.of4 (d := 1) (w0 := W0) (m := m) (n := w.heap.size) (x := x) (by assumption)); rintro e w' ⟨rfl, hb⟩; have hlt1 : w.heap.size + 1 ≤ w'.heap.size := HashIn.lt (HashIn.on (HashIn.of4 (d := 1) (w0 := W0) (m := m) (x := x) (v := v) (l := s.l) (by assumption)) hb); (first | have zb := Zb.first (by with_reducible exact hb) (by rfl) | have zb := Zb.firstd (by with_reducible exact hb) (by rfl) | have zb := Zb.on (by with_reducible assumption) hb | skip)) | (go_at_call 99; refine (HP.out _).mono ?_; rintro e w' ⟨rfl, hb⟩; have hlt1 : w.heap.size + 1 ≤ w'.heap.size := HashIn.lt (HashIn.on (HashIn.of4 (d := 1) (w0 := W0) (m := m) (x := x) (v := v) (l := s.l) (by assumption)) hb); (first | have zb := Zb.first (by with_reducible exact hb) (by rfl) | have zb := Zb.firstd (by with_reducible exact hb) (by rfl) | have zb := Zb.on (by with_reducible assumption) hb | skip)) | (go_at_call 98; refine (HMX.out _ ?_).mono ?_; exact HashIn.keys (HashIn.of4 (d := 1) (w0 := W0) (m := m) (n := w.heap.size) (x := x) (v := v) (l := s.l) (by assumption)); rintro e w' ⟨y, rfl, hy, hb⟩; have hlt1 : w.heap.size + 1 ≤ w'.heap.size := HashIn.lt (HashIn.on (HashIn.of4 (d := 1) (w0 := W0) (m := m) (x := x) (v := v) (l := s.l) (by assumption)) hb); (first | (have zb := Zb.first (by with_reducible exact hb) (by rfl); obtain ⟨⟨z0, z1, z2, z3, z4, z5, z6, z7⟩, ⟨f0, f1, f2, f3, f4, f5, f6, f7⟩⟩ := BlkW.eight zb.blk; have zlt := BlkW.lt zb.blk) | (have zb := Zb.on (by with_reducible assumption) hb; obtain ⟨⟨z0, z1, z2, z3, z4, z5, z6, z7⟩, ⟨f0, f1, f2, f3, f4, f5, f6, f7⟩⟩ := BlkW.eight zb.blk; have zlt := BlkW.lt zb.blk) | skip)))
  · have hU : BlkW (w'.alloc (.cells #[.int .u32 (u.a.toNat : Int), .int .u32 (u.b.toNat : Int), .int .u32 (u.c.toNat : Int), .int .u32 (u.d.toNat : Int), .int .u32 (u.e.toNat : Int), .int .u32 (u.f.toNat : Int), .int .u32 (u.g.toNat : Int), .int .u32 (u.h.toNat : Int)] 144)) w'.heap.size 144 u.l := BlkW.fresh w' 144 u.l _ rfl _ rfl
    have hF := HashIn.bel (HashIn.of4 (d := 1) (w0 := W0) (m := m) (n := w.heap.size) (x := x) (v := v) (l := s.l) (by assumption))
    clear hb hlt1 hS
    generalize World.alloc w' _ = W at hU hF ⊢
    generalize w'.heap.size = B at hU ⊢
    obtain ⟨⟨z0, z1, z2, z3, z4, z5, z6, z7⟩, -⟩ := hU.eight
    clear hU
    have htl := Lib.hid (tell_lit u)
    go_wp2_with fail
    refine (htl.out _).mono ?_
    rintro e W2 ⟨rfl, hb2⟩
    go_wp2_with fail
    go_ret
    refine ⟨?_, hb0.trans ((hF.mono (by omega)).trans (hb2.mono (Nat.le_trans hb0.size hF.size)))⟩
    rw [← HU.out, bl_append, ← HPAD.out]
    rfl
  all_goals
    have hU := Zb.put zb u
    have hF := HashIn.bel (HashIn.of4 (d := 1) (w0 := W0) (m := m) (n := w.heap.size) (x := x) (v := v) (l := s.l) (by assumption))
    clear hb hlt1 hS
    generalize World.setCell (World.setCell (World.setCell (World.setCell (World.setCell (World.setCell (World.setCell (World.setCell w' _ _) _ _) _ _) _ _) _ _) _ _) _ _) _ _ = W at hU hF ⊢
    clear z0 z1 z2 z3 z4 z5 z6 z7 f0 f1 f2 f3 f4 f5 f6 f7 zlt
    obtain ⟨⟨z0, z1, z2, z3, z4, z5, z6, z7⟩, -⟩ := hU.eight
    clear hU
    have htl := Lib.hid (tell_lit u)
    go_wp2_with fail
    refine (htl.out _).mono ?_
    rintro e W2 ⟨rfl, hb2⟩
    go_wp2_with fail
    go_ret
    refine ⟨?_, hb0.trans ((hF.mono (by omega)).trans (hb2.mono (Nat.le_trans hb0.size hF.size)))⟩
    rw [← HU.out, bl_append, ← HPAD.out]
    rfl
end Go.Proofs.YtdnjieffbgmagaaDoor

/- The contract of digest's behind. -/
namespace Go.Proofs.YtdnjieffbgmagaaDoor
open Go.RowKit
theorem list_lit (s : S8) (w : World) :
    Calls Tryd.prog 101 #[.agg #[.int .u32 (s.a.toNat : Int), .int .u32 (s.b.toNat : Int), .int .u32 (s.c.toNat : Int), .int .u32 (s.d.toNat : Int), .int .u32 (s.e.toNat : Int), .int .u32 (s.f.toNat : Int), .int .u32 (s.g.toNat : Int), .int .u32 (s.h.toNat : Int)]] w fun e w' => e = .returned (.slice (some ⟨w.heap.size, 0, none⟩) 8 8) ∧ BlkW w' w.heap.size 144 s.l ∧ Below w.heap.size w w' := list_any s w

/-- a sum behind more bytes, as a value that lies in w' -/
def HashPost (u : S8) (r : List UInt8) (q : Nat) (w : World) (e : Ending) (w' : World) : Prop :=
  ∃ (B : Nat) (x : ByteArray), e = .returned (.agg #[.slice (some ⟨B, 0, none⟩) 8 8, .string x, .int .u64 (q : Int)]) ∧ BlkW w' B 144 u.l ∧ bl x = r ∧ Below w.heap.size w w'

/-- what the second statement of behind needs of a world: the words, the number, and the result's cells -/
structure Fin2 (w0 w : World) (n B R : Nat) (u : S8) (m : Nat) : Prop where
  blk : BlkW w B 144 u.l
  c2 : w.cell? ⟨n, 2, none⟩ = some (.int .u64 (m : Int))
  r0 : ∃ v, w.cell? ⟨R, 0, none⟩ = some v
  r1 : ∃ v, w.cell? ⟨R, 1, none⟩ = some v
  r2 : ∃ v, w.cell? ⟨R, 2, none⟩ = some v
  g0 : w.frozen? ⟨R, 0, none⟩ = false
  g1 : w.frozen? ⟨R, 1, none⟩ = false
  g2 : w.frozen? ⟨R, 2, none⟩ = false
  nR : n < R
  RB : R < B
  bel : Below n w0 w
section
variable {w0 w w' : World} {n B R : Nat} {u : S8} {m : Nat}
theorem Fin2.mk0 {v : Value} {x : ByteArray} {l : List (BitVec 32)} {w00 : World} {t : TypeId} {a b c : Value} (h : HashIn 2 w00 w n v x m l) (hb : Below n w0 w00) (hR : w00.heap[n + 1]? = some (.cells #[a, b, c] t)) (hU : BlkW w B 144 u.l) (hB : n + 1 < B) : Fin2 w0 w n B (n + 1) u m := by
  have hR' : w.heap[n + 1]? = some (.cells #[a, b, c] t) := by rw [h.bel.block (n + 1) (by omega)]; exact hR
  exact ⟨hU, h.c2, ⟨a, by rw [cell_of_row _ _ _ _ _ _ hR']; rfl⟩, ⟨b, by rw [cell_of_row _ _ _ _ _ _ hR']; rfl⟩, ⟨c, by rw [cell_of_row _ _ _ _ _ _ hR']; rfl⟩, frozen_of_row _ _ _ _ _ hR', frozen_of_row _ _ _ _ _ hR', frozen_of_row _ _ _ _ _ hR', by omega, hB, hb.trans (h.bel.mono (by omega))⟩
theorem Fin2.on (h : Fin2 w0 w n B R u m) (hb : Below w.heap.size w w') : Fin2 w0 w' n B R u m := by
  have hB := h.blk.lt
  have hR : R < w.heap.size := Nat.lt_trans h.RB hB
  have hn : n < w.heap.size := Nat.lt_trans h.nR hR
  refine ⟨h.blk.on hb, ?_, ?_, ?_, ?_, ?_, ?_, ?_, h.nR, h.RB, h.bel.trans (hb.mono (Nat.le_of_lt hn))⟩
  · rw [hb.cell (p := ⟨n, 2, none⟩) hn]; exact h.c2
  · rw [hb.cell (p := ⟨R, 0, none⟩) hR]; exact h.r0
  · rw [hb.cell (p := ⟨R, 1, none⟩) hR]; exact h.r1
  · rw [hb.cell (p := ⟨R, 2, none⟩) hR]; exact h.r2
  · rw [hb.frozen (p := ⟨R, 0, none⟩) hR]; exact h.g0
  · rw [hb.frozen (p := ⟨R, 1, none⟩) hR]; exact h.g1
  · rw [hb.frozen (p := ⟨R, 2, none⟩) hR]; exact h.g2
theorem Fin2.drew (h : Fin2 w0 w n B R u m) : Fin2 w0 w.drew n B R u m := h.on ((Below.refl _ _).drew)
theorem Fin2.set (h : Fin2 w0 w n B R u m) (i : Nat) (v : Value) : Fin2 w0 (w.setCell ⟨R, i, none⟩ v) n B R u m := by
  have h1 := h.nR; have h2 := h.RB
  refine ⟨h.blk.far _ (by show B ≠ R; omega) v, ?_, cell_set_some h.r0, cell_set_some h.r1, cell_set_some h.r2, by simpa using h.g0, by simpa using h.g1, by simpa using h.g2, h1, h2, h.bel.setCell (by show n ≤ R; omega) v⟩
  rw [World.cell?_setCell_other]
  · exact h.c2
  · intro e; cases e; omega
theorem Fin2.four (h : Fin2 w0 w n B R u m) : (w.cell? ⟨n, 2, none⟩ = some (.int .u64 (m : Int)) ∧ w.cell? ⟨B, 0, none⟩ = some (.int .u32 (u.a.toNat : Int)) ∧ w.cell? ⟨B, 1, none⟩ = some (.int .u32 (u.b.toNat : Int)) ∧ w.cell? ⟨B, 2, none⟩ = some (.int .u32 (u.c.toNat : Int)) ∧ w.cell? ⟨B, 3, none⟩ = some (.int .u32 (u.d.toNat : Int)) ∧ w.cell? ⟨B, 4, none⟩ = some (.int .u32 (u.e.toNat : Int)) ∧ w.cell? ⟨B, 5, none⟩ = some (.int .u32 (u.f.toNat : Int)) ∧ w.cell? ⟨B, 6, none⟩ = some (.int .u32 (u.g.toNat : Int)) ∧ w.cell? ⟨B, 7, none⟩ = some (.int .u32 (u.h.toNat : Int))) ∧ Fin2 w0 w n B R u m := ⟨⟨h.c2, h.blk.eight.1⟩, h⟩
theorem Fin2.of4 (h : (w.cell? ⟨n, 2, none⟩ = some (.int .u64 (m : Int)) ∧ w.cell? ⟨B, 0, none⟩ = some (.int .u32 (u.a.toNat : Int)) ∧ w.cell? ⟨B, 1, none⟩ = some (.int .u32 (u.b.toNat : Int)) ∧ w.cell? ⟨B, 2, none⟩ = some (.int .u32 (u.c.toNat : Int)) ∧ w.cell? ⟨B, 3, none⟩ = some (.int .u32 (u.d.toNat : Int)) ∧ w.cell? ⟨B, 4, none⟩ = some (.int .u32 (u.e.toNat : Int)) ∧ w.cell? ⟨B, 5, none⟩ = some (.int .u32 (u.f.toNat : Int)) ∧ w.cell? ⟨B, 6, none⟩ = some (.int .u32 (u.g.toNat : Int)) ∧ w.cell? ⟨B, 7, none⟩ = some (.int .u32 (u.h.toNat : Int))) ∧ Fin2 w0 w n B R u m) : Fin2 w0 w n B R u m := h.2
end
def BehRel (w : World) (b : List UInt8) (u : S8) (m : Nat) (s5 s6 : Value) (W : World) : Prop :=
  ∃ (B : Nat) (y : ByteArray), s5 = .pointer (some ⟨B, 0, none⟩) ∧ s6 = .string y ∧ bl y = restOf b ∧ Fin2 w W w.heap.size B (w.heap.size + 1) u m

set_option maxRecDepth 100000 in
set_option maxHeartbeats 8000000 in
theorem behind_any (v : Value) (s : S8) (x y : ByteArray) (hx : x.size ≤ 1000000) (hy1 : y.size ≤ 1000000) (m : Nat) (_hm : m < 18446744073709551616) (w : World) (hv : WsAt w v s.l) (hK : KeysAt w) :
    Calls Tryd.prog 93 #[.agg #[v, .string x, .int .u64 (m : Int)], .string y] w (HashPost (mixAll s (bl x ++ bl y)) (restOf (bl x ++ bl y)) ((m + y.size) % 18446744073709551616) w) := by
  have hkn := hK.lt
  go_enter Tryd.func93, Tryd.ntmps93
  go_wp2_with fail
  have hb0 : Below w.heap.size w ((w.alloc (.cells #[v, .string x, .int .u64 (m : Int)] 118)).alloc (.cells #[.slice none 0 0, .string ⟨#[]⟩, .int .u64 0] 118)) := by go_grown
  have hH : HashIn 2 ((w.alloc (.cells #[v, .string x, .int .u64 (m : Int)] 118)).alloc (.cells #[.slice none 0 0, .string ⟨#[]⟩, .int .u64 0] 118)) ((w.alloc (.cells #[v, .string x, .int .u64 (m : Int)] 118)).alloc (.cells #[.slice none 0 0, .string ⟨#[]⟩, .int .u64 0] 118)) w.heap.size v x m s.l := by
    refine ⟨by simp, by simp, by simp, hv.on hb0, ?_, hK.on hb0, hkn, Below.refl _ _, by simp⟩
    rintro a k c rfl
    obtain ⟨b, off, cap, e, hlt, -⟩ := hv
    cases e
    exact hlt
  have hR0 : ((w.alloc (.cells #[v, .string x, .int .u64 (m : Int)] 118)).alloc (.cells #[.slice none 0 0, .string ⟨#[]⟩, .int .u64 0] 118)).heap[w.heap.size + 1]? = some (.cells #[.slice none 0 0, .string ⟨#[]⟩, .int .u64 0] 118) := heap_alloc2_new _ _ _
  generalize World.alloc (World.alloc w _) _ = W0 at hH hb0 hR0 ⊢
  clear hv hK
  obtain ⟨u, hu⟩ : ∃ u, mixAll s (bl (x ++ y)) = u := ⟨_, rfl⟩
  have hmx := mixedAll_lit s u (x ++ y) (by rw [ByteArray.size_append]; unfold maxLen; omega) hu
  have hcat : ∀ W : World, (Op.stringOp .add x y).run Tryd.prog W = .ok (.string (x ++ y)) W := fun W => run_string_add_sum W x y (by omega)
  have hns : (9223372036854775807 < x.size + y.size) = False := by simp; omega
  have HMX := Lib.hid hmx; have HU := Lib.hid hu; have HR0 := Lib.hid hR0
  have c0 := hH.c0; have c1 := hH.c1; have c2 := hH.c2
  clear hmx hu hR0
  have hlt := hH.lt
  have hS : (fun w' : World => (w'.cell? ⟨w.heap.size, 0, none⟩ = some v ∧ w'.cell? ⟨w.heap.size, 1, none⟩ = some (.string x) ∧ w'.cell? ⟨w.heap.size, 2, none⟩ = some (.int .u64 (m : Int))) ∧ HashIn 2 W0 w' w.heap.size v x m s.l) W0 := ⟨⟨c0, c1, c2⟩, hH⟩
  go_cut [5, 6] (BehRel w (bl x ++ bl y) u m)
  case first =>
    go_region_held3 (fun w' => (w'.cell? ⟨w.heap.size, 0, none⟩ = some v ∧ w'.cell? ⟨w.heap.size, 1, none⟩ = some (.string x) ∧ w'.cell? ⟨w.heap.size, 2, none⟩ = some (.int .u64 (m : Int))) ∧ HashIn 2 W0 w' w.heap.size v x m s.l)
      ((refine HashIn.four ?_; (repeat ((with_reducible refine HashIn.far ?_ ?far ?far2 _); (case far => first | assumption | (simp; omega)); (case far2 => first | assumption | (simp; omega) | omega))); first | assumption | ((with_reducible refine HashIn.drew ?_); assumption) | ((with_reducible refine HashIn.drew ?_); (with_reducible refine HashIn.alloc ?_ _); assumption) | ((with_reducible refine HashIn.on ?_ hb); exact HashIn.of4 (by assumption)) | ((with_reducible refine HashIn.alloc ?_ _); exact HashIn.of4 (by assumption)) | exact HashIn.of4 (by assumption) | exact HashIn.swap (HashIn.of4 (by assumption)) hlt1 (by omega) _))
      (first | (go_at_call 97; refine (read_lit v s _ ?_).mono ?_; exact HashIn.ws (HashIn.of4 (d := 2) (w0 := W0) (m := m) (n := w.heap.size) (x := x) (by assumption)); rintro e w' ⟨rfl, hb⟩; have hlt1 : w.heap.size + 2 ≤ w'.heap.size := HashIn.lt (HashIn.on (HashIn.of4 (d := 2) (w0 := W0) (m := m) (x := x) (v := v) (l := s.l) (by assumption)) hb); (first | have zb := Zb.first (by with_reducible exact hb) (by rfl) | have zb := Zb.firstd (by with_reducible exact hb) (by rfl) | have zb := Zb.on (by with_reducible assumption) hb | skip)) | (go_at_call 98; refine (HMX.out _ ?_).mono ?_; exact HashIn.keys (HashIn.of4 (d := 2) (w0 := W0) (m := m) (n := w.heap.size) (x := x) (v := v) (l := s.l) (by assumption)); rintro e w' ⟨y', rfl, hy, hb⟩; have hlt1 : w.heap.size + 2 ≤ w'.heap.size := HashIn.lt (HashIn.on (HashIn.of4 (d := 2) (w0 := W0) (m := m) (x := x) (v := v) (l := s.l) (by assumption)) hb); (first | (have zb := Zb.first (by with_reducible exact hb) (by rfl); obtain ⟨⟨z0, z1, z2, z3, z4, z5, z6, z7⟩, ⟨f0, f1, f2, f3, f4, f5, f6, f7⟩⟩ := BlkW.eight zb.blk; have zlt := BlkW.lt zb.blk) | (have zb := Zb.on (by with_reducible assumption) hb; obtain ⟨⟨z0, z1, z2, z3, z4, z5, z6, z7⟩, ⟨f0, f1, f2, f3, f4, f5, f6, f7⟩⟩ := BlkW.eight zb.blk; have zlt := BlkW.lt zb.blk) | skip)))
    · have hU : BlkW (w'.alloc (.cells #[.int .u32 (u.a.toNat : Int), .int .u32 (u.b.toNat : Int), .int .u32 (u.c.toNat : Int), .int .u32 (u.d.toNat : Int), .int .u32 (u.e.toNat : Int), .int .u32 (u.f.toNat : Int), .int .u32 (u.g.toNat : Int), .int .u32 (u.h.toNat : Int)] 144)) w'.heap.size 144 u.l := BlkW.fresh w' 144 u.l _ rfl _ rfl
      have hF := Fin2.mk0 (HashIn.of4 (d := 2) (w0 := W0) (m := m) (n := w.heap.size) (x := x) (v := v) (l := s.l) (by with_reducible assumption)) hb0 HR0.out hU (by omega)
      go_wp2_with fail
      go_meet
      exact ⟨_, y', rfl, rfl, by rw [hy, bl_append], hF⟩
    all_goals
      have hU := Zb.put zb u
      have hF := Fin2.mk0 (HashIn.of4 (d := 2) (w0 := W0) (m := m) (n := w.heap.size) (x := x) (v := v) (l := s.l) (by with_reducible assumption)) hb0 HR0.out hU (by omega)
      go_wp2_with fail
      go_meet
      exact ⟨_, y', rfl, rfl, by rw [hy, bl_append], hF⟩
  case rest =>
    have hul : mixAll s (bl x ++ bl y) = u := by rw [← HU.out, bl_append]
    clear hH HR0 HMX hS hcat hns c0 c1 c2 hb0
    obtain ⟨B, y', rfl, rfl, hyl, hF⟩ := hcut
    have hys : y'.size ≤ 1000000 := by rw [← bl_length, hyl, restOf_length]; omega
    have HYL := Lib.hid hyl; have HUL := Lib.hid hul
    clear hyl hul HU
    have c2 := hF.c2
    obtain ⟨⟨d0, d1, d2, d3, d4, d5, d6, d7⟩, -⟩ := hF.blk.eight
    have hcl := clone_any y' hys
    have HCL := Lib.hid hcl
    clear hcl hys
    obtain ⟨q, hq⟩ : ∃ q, (m + y.size) % 18446744073709551616 = q := ⟨_, rfl⟩
    have wq : IntKind.u64.wrap ((m : Int) + (y.size : Int)) = (q : Int) := by rw [IntKind.wrap_u64]; omega
    have wy : IntKind.u64.wrap (y.size : Int) = (y.size : Int) := by rw [IntKind.wrap_u64]; omega
    have HQ := Lib.hid hq
    clear hq
    go_wp2_with fail
    go_region_held3 (fun w' => (w'.cell? ⟨w.heap.size, 2, none⟩ = some (.int .u64 (m : Int)) ∧ w'.cell? ⟨B, 0, none⟩ = some (.int .u32 (u.a.toNat : Int)) ∧ w'.cell? ⟨B, 1, none⟩ = some (.int .u32 (u.b.toNat : Int)) ∧ w'.cell? ⟨B, 2, none⟩ = some (.int .u32 (u.c.toNat : Int)) ∧ w'.cell? ⟨B, 3, none⟩ = some (.int .u32 (u.d.toNat : Int)) ∧ w'.cell? ⟨B, 4, none⟩ = some (.int .u32 (u.e.toNat : Int)) ∧ w'.cell? ⟨B, 5, none⟩ = some (.int .u32 (u.f.toNat : Int)) ∧ w'.cell? ⟨B, 6, none⟩ = some (.int .u32 (u.g.toNat : Int)) ∧ w'.cell? ⟨B, 7, none⟩ = some (.int .u32 (u.h.toNat : Int))) ∧ Fin2 w w' w.heap.size B (w.heap.size + 1) u m)
      ((refine Fin2.four ?_; (repeat (with_reducible refine Fin2.set ?_ _ _)); first | with_reducible assumption | ((with_reducible refine Fin2.drew ?_); with_reducible assumption) | ((with_reducible refine Fin2.on ?_ hb); exact Fin2.of4 (by with_reducible assumption)) | exact Fin2.of4 (by with_reducible assumption)))
      (first | (go_at_call 101; refine (list_lit u _).mono ?_; rintro e w' ⟨rfl, hbl, hb⟩) | (go_at_call 102; refine (HCL.out _).mono ?_; rintro e w' ⟨rfl, hb⟩; have hbl' := BlkW.on hbl hb; have hf2 := Fin2.on (Fin2.of4 (w0 := w) (n := w.heap.size) (B := B) (R := w.heap.size + 1) (u := u) (m := m) (by with_reducible assumption)) hb; obtain ⟨a0, ha0⟩ := hf2.r0; obtain ⟨a1, ha1⟩ := hf2.r1; obtain ⟨a2, ha2⟩ := hf2.r2; have g0 := hf2.g0; have g1 := hf2.g1; have g2 := hf2.g2; have HF2 := Lib.hid hf2; clear hf2))
    have hRB : w.heap.size + 1 < wc.heap.size := Nat.lt_trans hF.RB hF.blk.lt
    have p0 := World.cell?_setCell_same _ ⟨w.heap.size + 1, 0, none⟩ (.slice (some ⟨wc.heap.size, 0, none⟩) 8 8) ha0
    have p1 := World.cell?_setCell_same _ ⟨w.heap.size + 1, 1, none⟩ (.string y') (setCell_far (i := 0) (u := .slice (some ⟨wc.heap.size, 0, none⟩) 8 8) ha1 (by omega))
    have p2 := World.cell?_setCell_same _ ⟨w.heap.size + 1, 2, none⟩ (.int .u64 (q : Int)) (setCell_far (i := 1) (u := .string y') (setCell_far (i := 0) (u := .slice (some ⟨wc.heap.size, 0, none⟩) 8 8) ha2 (by omega)) (by omega))
    have e0 := setCell_far (i := 2) (u := .int .u64 (q : Int)) (setCell_far (i := 1) (u := .string y') p0 (by omega)) (by omega)
    have e1 := setCell_far (i := 2) (u := .int .u64 (q : Int)) p1 (by omega)
    have hblk := ((hbl'.far ⟨w.heap.size + 1, 0, none⟩ (by show wc.heap.size ≠ w.heap.size + 1; omega) (.slice (some ⟨wc.heap.size, 0, none⟩) 8 8)).far ⟨w.heap.size + 1, 1, none⟩ (by show wc.heap.size ≠ w.heap.size + 1; omega) (.string y')).far ⟨w.heap.size + 1, 2, none⟩ (by show wc.heap.size ≠ w.heap.size + 1; omega) (.int .u64 (q : Int))
    have hbel := (((HF2.out.set 0 (.slice (some ⟨wc.heap.size, 0, none⟩) 8 8)).set 1 (.string y')).set 2 (.int .u64 (q : Int))).bel
    clear hbl hbl' hb HF2 ha0 ha1 ha2 g0 g1 g2 p0 p1 wq wy HCL hF d0 d1 d2 d3 d4 d5 d6 d7 c2
    generalize World.setCell (World.setCell (World.setCell w' _ _) _ _) _ _ = V at e0 e1 p2 hblk hbel ⊢
    go_wp2_with fail
    refine bodyPost_ret (v := .agg #[.slice (some ⟨wc.heap.size, 0, none⟩) 8 8, .string y', .int .u64 (q : Int)]) (by simp [results, Tryd.results93, go_sem, e0, e1, p2]) rfl ?_
    rw [HQ.out, HUL.out]
    exact ⟨_, _, rfl, hblk, HYL.out, hbel⟩
end Go.Proofs.YtdnjieffbgmagaaDoor
