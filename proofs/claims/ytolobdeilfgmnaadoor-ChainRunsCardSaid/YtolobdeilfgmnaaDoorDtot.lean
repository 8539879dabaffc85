/- The contracts of digest's total and behind. -/
import Derived.Test.YtolobdeilfgmnaaDoorDpad
import Derived.Test.YtolobdeilfgmnaaDoorKa
import Derived.Lib.QuietBelow
namespace Go.Proofs.YtolobdeilfgmnaaDoor
open Go.RowKit
/-- a sum on its way, read in a block of its own; of what was there below n + d nothing has turned -/
structure HashIn (d : Nat) (w0 w : World) (n : Nat) (v : Value) (x : ByteArray) (m : Nat) (l : List (BitVec 32)) : Prop where
  c0 : w.cell? ⟨n, 0, none⟩ = some v
  c1 : w.cell? ⟨n, 1, none⟩ = some (.string x)
  c2 : w.cell? ⟨n, 2, none⟩ = some (.int .u64 (m : Int))
  ws : WsAt w v l
  blk : ∀ a k c, v = .slice (some a) k c → a.block < n
  keys : KeysAt w
  kn : 1 < n
  bel : Below (n + d) w0 w
  top : n + d ≤ w.heap.size
section
variable {d : Nat} {w0 w w' : World} {n : Nat} {v : Value} {x : ByteArray} {m : Nat} {l : List (BitVec 32)}
theorem HashIn.lt (h : HashIn d w0 w n v x m l) : n + d ≤ w.heap.size := h.top
theorem HashIn.below {k : Nat} (h : HashIn d w0 w n v x m l) (hb : Below k w w') (hk : n + d ≤ k) (hd : n < k) : HashIn d w0 w' n v x m l :=
  ⟨by rw [hb.cell (p := ⟨n, 0, none⟩) hd]; exact h.c0, by rw [hb.cell (p := ⟨n, 1, none⟩) hd]; exact h.c1, by rw [hb.cell (p := ⟨n, 2, none⟩) hd]; exact h.c2,
   h.ws.below hb (fun a k' c e => Nat.lt_trans (h.blk a k' c e) hd), h.blk, h.keys.below hb (Nat.lt_trans h.kn hd), h.kn, h.bel.trans (hb.mono hk), Nat.le_trans h.top hb.size⟩
theorem HashIn.on (h : HashIn d w0 w n v x m l) (hb : Below w.heap.size w w') : HashIn d w0 w' n v x m l := h.below hb h.top (World.block_lt_of_cell? w _ h.c0)
theorem HashIn.drew (h : HashIn d w0 w n v x m l) : HashIn d w0 w.drew n v x m l := h.on ((Below.refl _ _).drew)
theorem HashIn.alloc (h : HashIn d w0 w n v x m l) (o : Obj) : HashIn d w0 (w.alloc o) n v x m l := h.on ((Below.refl _ _).alloc (Nat.le_refl _) o)
theorem HashIn.far (h : HashIn d w0 w n v x m l) {p : Addr} (hp : n + d ≤ p.block) (hd : n < p.block) (u : Value) : HashIn d w0 (w.setCell p u) n v x m l :=
  h.below (k := p.block) ((Below.refl _ _).setCell (Nat.le_refl _) u) hp hd
theorem HashIn.swap {o : Obj} (h : HashIn d w0 (w.alloc o) n v x m l) (hn : n + d ≤ w.heap.size) (hd : n < w.heap.size) (o' : Obj) : HashIn d w0 (w.alloc o') n v x m l :=
  have q := h.below (w' := w.alloc o') (k := w.heap.size) ⟨rfl, rfl, rfl, by simp, fun k hk => by rw [Below.heap_alloc _ _ _ hk, Below.heap_alloc _ _ _ hk]⟩ hn hd
  q
theorem HashIn.four (h : HashIn d w0 w n v x m l) :
    (w.cell? ⟨n, 0, none⟩ = some v ∧ w.cell? ⟨n, 1, none⟩ = some (.string x) ∧ w.cell? ⟨n, 2, none⟩ = some (.int .u64 (m : Int))) ∧ HashIn d w0 w n v x m l := ⟨⟨h.c0, h.c1, h.c2⟩, h⟩
theorem HashIn.of4
    (h : (w.cell? ⟨n, 0, none⟩ = some v ∧ w.cell? ⟨n, 1, none⟩ = some (.string x) ∧ w.cell? ⟨n, 2, none⟩ = some (.int .u64 (m : Int))) ∧ HashIn d w0 w n v x m l) : HashIn d w0 w n v x m l := h.2
end
theorem read_lit (v : Value) (s : S8) (w : World) (hv : WsAt w v s.l) :
    Calls Tryd.prog 54 #[v] w fun e w' => e = .returned (.agg #[.int .u32 (s.a.toNat : Int), .int .u32 (s.b.toNat : Int), .int .u32 (s.c.toNat : Int), .int .u32 (s.d.toNat : Int), .int .u32 (s.e.toNat : Int), .int .u32 (s.f.toNat : Int), .int .u32 (s.g.toNat : Int), .int .u32 (s.h.toNat : Int)]) ∧ Below w.heap.size w w' :=
  read_any v s w hv
theorem mixedAll_lit (s u : S8) (x : ByteArray) (hx : x.size ≤ maxLen) (hu : mixAll s (bl x) = u) (w : World) (hK : KeysAt w) :
    Calls Tryd.prog 55 #[.agg #[.int .u32 (s.a.toNat : Int), .int .u32 (s.b.toNat : Int), .int .u32 (s.c.toNat : Int), .int .u32 (s.d.toNat : Int), .int .u32 (s.e.toNat : Int), .int .u32 (s.f.toNat : Int), .int .u32 (s.g.toNat : Int), .int .u32 (s.h.toNat : Int)], .string x] w fun e w' =>
      ∃ y : ByteArray, e = .returned (.tuple #[.agg #[.int .u32 (u.a.toNat : Int), .int .u32 (u.b.toNat : Int), .int .u32 (u.c.toNat : Int), .int .u32 (u.d.toNat : Int), .int .u32 (u.e.toNat : Int), .int .u32 (u.f.toNat : Int), .int .u32 (u.g.toNat : Int), .int .u32 (u.h.toNat : Int)], .string y]) ∧ bl y = restOf (bl x) ∧ Below w.heap.size w w' := by
  subst hu
  exact mixedAll_any s x hx w hK

def zeroS : S8 := ⟨0, 0, 0, 0, 0, 0, 0, 0⟩
/-- a block of zeros that the region has made: kept over a call -/
structure Zb (w : World) (B : Nat) : Prop where
  blk : BlkW w B 98 zeroS.l
theorem Zb.first {w w' : World} {o : Obj} (hb : Below (w.alloc o).heap.size (w.alloc o) w') (ho : o = .cells #[.int .u32 0, .int .u32 0, .int .u32 0, .int .u32 0, .int .u32 0, .int .u32 0, .int .u32 0, .int .u32 0] 98) : Zb w' w.heap.size := by
  subst ho
  exact ⟨BlkW.on (BlkW.fresh w 98 zeroS.l _ rfl _ rfl) hb⟩
theorem Zb.firstd {w w' : World} {o : Obj} (hb : Below (w.alloc o).drew.heap.size (w.alloc o).drew w') (ho : o = .cells #[.int .u32 0, .int .u32 0, .int .u32 0, .int .u32 0, .int .u32 0, .int .u32 0, .int .u32 0, .int .u32 0] 98) : Zb w' w.heap.size := by
  subst ho
  exact ⟨BlkW.on (BlkW.drew (BlkW.fresh w 98 zeroS.l _ rfl _ rfl)) hb⟩
theorem Zb.on {w w' : World} {B : Nat} (h : Zb w B) (hb : Below w.heap.size w w') : Zb w' B := ⟨BlkW.on h.blk hb⟩
theorem Zb.put {w' : World} {B : Nat} (z : Zb w' B) (u : S8) : BlkW ((((((((w'.setCell ⟨B, 0, none⟩ (.int .u32 (u.a.toNat : Int))).setCell ⟨B, 1, none⟩ (.int .u32 (u.b.toNat : Int))).setCell ⟨B, 2, none⟩ (.int .u32 (u.c.toNat : Int))).setCell ⟨B, 3, none⟩ (.int .u32 (u.d.toNat : Int))).setCell ⟨B, 4, none⟩ (.int .u32 (u.e.toNat : Int))).setCell ⟨B, 5, none⟩ (.int .u32 (u.f.toNat : Int))).setCell ⟨B, 6, none⟩ (.int .u32 (u.g.toNat : Int))).setCell ⟨B, 7, none⟩ (.int .u32 (u.h.toNat : Int))) B 98 u.l := z.blk.stored u.l rfl
theorem tell_lit (s : S8) (w : World) :
    Calls Tryd.prog 57 #[.agg #[.int .u32 (s.a.toNat : Int), .int .u32 (s.b.toNat : Int), .int .u32 (s.c.toNat : Int), .int .u32 (s.d.toNat : Int), .int .u32 (s.e.toNat : Int), .int .u32 (s.f.toNat : Int), .int .u32 (s.g.toNat : Int), .int .u32 (s.h.toNat : Int)]] w fun e w' => e = .returned (.string ⟨(tellL s.l).toArray⟩) ∧ Below w.heap.size w w' := tell_any s w
def TotPost (s : S8) (x : ByteArray) (m : Nat) (w : World) (e : Ending) (w' : World) : Prop := e = .returned (.string ⟨(tellL (mixAll s (bl x ++ padL m)).l).toArray⟩) ∧ Below w.heap.size w w'

set_option maxRecDepth 100000 in
set_option maxHeartbeats 4000000 in
theorem total_any (v : Value) (s : S8) (x : ByteArray) (hx : x.size ≤ 1000000) (m : Nat) (hm : m < 18446744073709551616) (w : World) (hv : WsAt w v s.l) (hK : KeysAt w) :
    Calls Tryd.prog 47 #[.agg #[v, .string x, .int .u64 (m : Int)]] w (TotPost s x m w) := by
  have hkn := hK.lt
  go_enter Tryd.func47, Tryd.ntmps47
  go_wp2_with fail
  have hb0 : Below w.heap.size w (w.alloc (.cells #[v, .string x, .int .u64 (m : Int)] 72)) := by go_grown
  have hH : HashIn 1 (w.alloc (.cells #[v, .string x, .int .u64 (m : Int)] 72)) (w.alloc (.cells #[v, .string x, .int .u64 (m : Int)] 72)) w.heap.size v x m s.l := by
    refine ⟨by simp, by simp, by simp, hv.on hb0, ?_, hK.on hb0, hkn, Below.refl _ _, by simp⟩
    rintro a k c rfl
    obtain ⟨b, off, cap, e, hlt, -⟩ := hv
    cases e
    exact hlt
  generalize World.alloc w _ = W0 at hH hb0 ⊢
  clear hv hK
  obtain ⟨pad, hpad⟩ : ∃ pad : ByteArray, (⟨(padL m).toArray⟩ : ByteArray) = pad := ⟨_, rfl⟩
  have hp := padding_any m hm
  rw [hpad] at hp
  have hps : pad.size ≤ 100 := by
    rw [← hpad]
    show (padL m).toArray.size ≤ 100
    rw [List.size_toArray, padL_length]; unfold padZ; omega
  obtain ⟨u, hu⟩ : ∃ u, mixAll s (bl (x ++ pad)) = u := ⟨_, rfl⟩
  have hmx := mixedAll_lit s u (x ++ pad) (by rw [ByteArray.size_append]; unfold maxLen; omega) hu
  have HP := Lib.hid hp; have HMX := Lib.hid hmx; have HU := Lib.hid hu; have HPAD := Lib.hid hpad
  have c0 := hH.c0; have c1 := hH.c1; have c2 := hH.c2
  have hcat : ∀ W : World, (Op.stringOp .add x pad).run Tryd.prog W = .ok (.string (x ++ pad)) W := fun W => run_string_add_sum W x pad (by omega)
  have hns : (9223372036854775807 < x.size + pad.size) = False := by simp; omega
  clear hp hmx hu hpad
  have hlt := hH.lt
  have hS : (fun w' : World => (w'.cell? ⟨w.heap.size, 0, none⟩ = some v ∧ w'.cell? ⟨w.heap.size, 1, none⟩ = some (.string x) ∧ w'.cell? ⟨w.heap.size, 2, none⟩ = some (.int .u64 (m : Int))) ∧ HashIn 1 W0 w' w.heap.size v x m s.l) W0 := ⟨⟨c0, c1, c2⟩, hH⟩
  go_region_held3 (fun w' => (w'.cell? ⟨w.heap.size, 0, none⟩ = some v ∧ w'.cell? ⟨w.heap.size, 1, none⟩ = some (.string x) ∧ w'.cell? ⟨w.heap.size, 2, none⟩ = some (.int .u64 (m : Int))) ∧ HashIn 1 W0 w' w.heap.size v x m s.l)
    ((refine HashIn.four ?_; (repeat ((with_reducible refine HashIn.far ?_ ?far ?far2 _); (case far => first | assumption | (simp; omega)); (case far2 => first | assumption | (simp; omega) | omega))); first | assumption | ((with_reducible refine HashIn.drew ?_); assumption) | ((with_reducible refine HashIn.drew ?_); (with_reducible refine HashIn.alloc ?_ _); assumption) | ((with_reducible refine HashIn.on ?_ hb); exact HashIn.of4 (by assumption)) | ((with_reducible refine HashIn.alloc ?_ _); exact HashIn.of4 (by assumption)) | exact HashIn.of4 (by assumption) | exact HashIn.swap (HashIn.of4 (by assumption)) hlt1 (by omega) _))
    (first | (go_at_call 54; refine (read_lit v s _ ?_).mono ?_; exact HashIn.ws (HashIn.of4 (d := 1) (w0 := W0) (m := m) (n := w.heap.size) (x := x) (by assumption)); rintro e w' ⟨rfl, hb⟩; have hlt1 : w.heap.size + 1 ≤ w'.heap.size := HashIn.lt (HashIn.on (HashIn.of4 (d := 1) (w0 := W0) (m := m) (x := x) (v := v) (l := s.l) (by assumption)) hb); (first | have zb := Zb.first (by with_reducible exact hb) (by rfl) | have zb := Zb.firstd (by with_reducible exact hb) (by rfl) | have zb := Zb.on (by with_reducible assumption) hb | skip)) | (go_at_call 56; refine (HP.out _).mono ?_; rintro e w' ⟨rfl, hb⟩; have hlt1 : w.heap.size + 1 ≤ w'.heap.size := HashIn.lt (HashIn.on (HashIn.of4 (d := 1) (w0 := W0) (m := m) (x := x) (v := v) (l := s.l) (by assumption)) hb); (first | have zb := Zb.first (by with_reducible exact hb) (by rfl) | have zb := Zb.firstd (by with_reducible exact hb) (by rfl) | have zb := Zb.on (by with_reducible assumption) hb | skip)) | (go_at_call 55; refine (HMX.out _ ?_).mono ?_; exact HashIn.keys (HashIn.of4 (d := 1) (w0 := W0) (m := m) (n := w.heap.size) (x := x) (v := v) (l := s.l) (by assumption)); rintro e w' ⟨y, rfl, hy, hb⟩; have hlt1 : w.heap.size + 1 ≤ w'.heap.size := HashIn.lt (HashIn.on (HashIn.of4 (d := 1) (w0 := W0) (m := m) (x := x) (v := v) (l := s.l) (by assumption)) hb); (first | (have zb := Zb.first (by with_reducible exact hb) (by rfl); obtain ⟨⟨z0, z1, z2, z3, z4, z5, z6, z7⟩, ⟨f0, f1, f2, f3, f4, f5, f6, f7⟩⟩ := BlkW.eight zb.blk; have zlt := BlkW.lt zb.blk) | (have zb := Zb.on (by with_reducible assumption) hb; obtain ⟨⟨z0, z1, z2, z3, z4, z5, z6, z7⟩, ⟨f0, f1, f2, f3, f4, f5, f6, f7⟩⟩ := BlkW.eight zb.blk; have zlt := BlkW.lt zb.blk) | skip)))
  · have hU : BlkW (w'.alloc (.cells #[.int .u32 (u.a.toNat : Int), .int .u32 (u.b.toNat : Int), .int .u32 (u.c.toNat : Int), .int .u32 (u.d.toNat : Int), .int .u32 (u.e.toNat : Int), .int .u32 (u.f.toNat : Int), .int .u32 (u.g.toNat : Int), .int .u32 (u.h.toNat : Int)] 98)) w'.heap.size 98 u.l := BlkW.fresh w' 98 u.l _ rfl _ rfl
    have hF := HashIn.bel (HashIn.of4 (d := 1) (w0 := W0) (m := m) (n := w.heap.size) (x := x) (v := v) (l := s.l) (by assumption))
    clear hb hlt1 hS
    generalize World.alloc w' _ = W at hU hF ⊢
    generalize w'.heap.size = B at hU ⊢
    obtain ⟨⟨z0, z1, z2, z3, z4, z5, z6, z7⟩, -⟩ := hU.eight
    clear hU
    have htl := Lib.hid (tell_lit u)
    go_wp2_with fail
    refine (htl.out _).mono ?_
    rintro e W2 ⟨rfl, hb2⟩
    go_wp2_with fail
    go_ret
    refine ⟨?_, hb0.trans ((hF.mono (by omega)).trans (hb2.mono (Nat.le_trans hb0.size hF.size)))⟩
    rw [← HU.out, bl_append, ← HPAD.out]
    rfl
  all_goals
    have hU := Zb.put zb u
    have hF := HashIn.bel (HashIn.of4 (d := 1) (w0 := W0) (m := m) (n := w.heap.size) (x := x) (v := v) (l := s.l) (by assumption))
    clear hb hlt1 hS
    generalize World.setCell (World.setCell (World.setCell (World.setCell (World.setCell (World.setCell (World.setCell (World.setCell w' _ _) _ _) _ _) _ _) _ _) _ _) _ _) _ _ = W at hU hF ⊢
    clear z0 z1 z2 z3 z4 z5 z6 z7 f0 f1 f2 f3 f4 f5 f6 f7 zlt
    obtain ⟨⟨z0, z1, z2, z3, z4, z5, z6, z7⟩, -⟩ := hU.eight
    clear hU
    have htl := Lib.hid (tell_lit u)
    go_wp2_with fail
    refine (htl.out _).mono ?_
    rintro e W2 ⟨rfl, hb2⟩
    go_wp2_with fail
    go_ret
    refine ⟨?_, hb0.trans ((hF.mono (by omega)).trans (hb2.mono (Nat.le_trans hb0.size hF.size)))⟩
    rw [← HU.out, bl_append, ← HPAD.out]
    rfl
end Go.Proofs.YtolobdeilfgmnaaDoor