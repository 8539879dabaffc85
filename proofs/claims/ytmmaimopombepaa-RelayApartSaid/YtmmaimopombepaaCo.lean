/- Worlds behind one another; chains that were laid; rows for slices.Concat; a struct in a result's cell. -/
import Derived.Test.YtmmaimopombepaaCi
import Derived.Test.YtmmaimopombepaaAh
namespace Go.Proofs.Ytmmaimopombepaa
open Go.RowKit
set_option maxRecDepth 100000

/-- V stands behind U -/
structure Bz (U V : World) : Prop where
  b : Below U.heap.size U V
theorem Bz.refl (U : World) : Bz U U := ⟨Below.refl _ _⟩
theorem Bz.al {U V : World} (h : Bz U V) (o : Obj) : Bz U (V.alloc o) := ⟨h.b.alloc h.b.size o⟩
theorem Bz.dr {U V : World} (h : Bz U V) : Bz U V.drew := ⟨h.b.drew⟩
theorem Bz.st {U V w : World} (h : Bz U V) (hb : Below V.heap.size V w) : Bz U w := ⟨h.b.trans (hb.mono h.b.size)⟩
theorem FS.oneN {w : World} {x : Flt} (h : IsF w x) (n : Nat) (hn : n = w.heap.size) : FS (w.alloc (.cells #[.func (.func x.N) #[] #[.pointer (some ⟨x.B, 0, none⟩)]] 106)) (some ⟨n, 0, none⟩) 1 [x] := by
  subst hn; exact FS.one h
theorem FS.al {w : World} {a : Option Addr} {c : Nat} {L : List Flt} (h : FS w a c L) (o : Obj) : FS (w.alloc o) a c L := h.on ((Below.refl _ _).alloc (Nat.le_refl _) o)
/-- a chain of two filters -/
theorem FS.two {w : World} {x y : Flt} (hx : IsF w x) (hy : IsF w y) (n : Nat) (hn : n = w.heap.size) : FS (w.alloc (.cells #[.func (.func x.N) #[] #[.pointer (some ⟨x.B, 0, none⟩)], .func (.func y.N) #[] #[.pointer (some ⟨y.B, 0, none⟩)]] 106)) (some ⟨n, 0, none⟩) 2 [x, y] := by
  subst hn
  refine ⟨?_, fun z hz => ?_, Nat.le_refl _, by simp⟩
  · intro _
    refine ⟨w.heap.size, 0, rfl, by simp, fun j u hu => ?_⟩
    have e : eFl.row [x, y] = [flV x, flV y] := rfl
    rw [e] at hu
    rw [Nat.zero_add, cell_of_row _ _ _ _ _ _ (heap_alloc_new w _)]
    rcases j with _ | _ | j
    · exact hu
    · exact hu
    · simp at hu
  · have hb : Below w.heap.size w (w.alloc (.cells #[.func (.func x.N) #[] #[.pointer (some ⟨x.B, 0, none⟩)], .func (.func y.N) #[] #[.pointer (some ⟨y.B, 0, none⟩)]] 106)) := (Below.refl _ w).alloc (Nat.le_refl _) _
    simp only [List.mem_cons, List.not_mem_nil, or_false] at hz
    rcases hz with rfl | rfl
    · exact hx.on hb
    · exact hy.on hb
/-- one struct that a block holds -/
theorem sl_blk {T : Type} {E : Enc T} {w : World} {g : Nat} {t : TypeId} {x : T} (h : BlkV w g t (E.enc x)) : Sl E w (some ⟨g, 0, none⟩) [x] := fun _ =>
  ⟨g, 0, rfl, h.lt, fun j u hu => by
    have e : E.row [x] = E.enc x := by rw [E.row_cons, E.row_nil, List.append_nil]
    rw [e] at hu
    rw [Nat.zero_add]
    exact h.cell j u hu⟩
theorem blk_bx {w : World} {g : Nat} {u n c : Nat} {a : Option Addr} {l : List Ml} (h : BlkV w g 101 [.int .u64 (u : Int), .slice a n c]) (hn : n = l.length) : Sl eBx w (some ⟨g, 0, none⟩) [⟨⟨u, l⟩, a, c⟩] := by
  subst hn
  exact sl_blk (E := eBx) (x := ⟨⟨u, l⟩, a, c⟩) h
/-- three rows in a block -/
theorem RwsAt.three {T : Type} {E : Enc T} {w : World} (t : TypeId) (r0 r1 r2 : Rw T) (h0 : RwAt E w r0) (h1 : RwAt E w r1) (h2 : RwAt E w r2) (n : Nat) (hn : n = w.heap.size) : RwsAt E (w.alloc (.cells #[.slice r0.a r0.l.length r0.c, .slice r1.a r1.l.length r1.c, .slice r2.a r2.l.length r2.c] t)) n [r0, r1, r2] := by
  subst hn
  have hb : Below w.heap.size w (w.alloc (.cells #[.slice r0.a r0.l.length r0.c, .slice r1.a r1.l.length r1.c, .slice r2.a r2.l.length r2.c] t)) := (Below.refl _ w).alloc (Nat.le_refl _) _
  refine ⟨by simp, fun i hi => ?_, fun r hr => ?_⟩
  · rw [cell_of_row _ _ _ _ _ _ (heap_alloc_new w _)]
    rcases i with _ | _ | _ | i
    · rfl
    · rfl
    · rfl
    · simp only [List.length_cons, List.length_nil] at hi; omega
  · simp only [List.mem_cons, List.not_mem_nil, or_false] at hr
    rcases hr with rfl | rfl | rfl
    · exact h0.on hb
    · exact h1.on hb
    · exact h2.on hb
theorem results_ctR {P : Program} {fn : Func} {p q : Tmp} {T : TypeId} (h : fn.results = #[.cell p T, .tmp q]) (tmps : Array Value) (w : World) (B : Nat) {t : TypeId} {l : List Value} {d : TypeDesc}
    (hp : tmps.getD p undef = .pointer (some ⟨B, 0, none⟩)) (hb : BlkV w B t l) (hu : P.underlying T = some d) (hd : d.isRow = true) (hi : (P.info? T).map (·.size) = some l.length) (v : Value) (hv : tmps.getD q undef = v) :
    (results fn tmps).run P w = .ok (.tuple #[.agg l.toArray, v]) w := by
  have hp' : tmps[p]?.getD undef = .pointer (some ⟨B, 0, none⟩) := by simpa using hp
  have hv' : tmps[q]?.getD undef = v := by simpa using hv
  have hl := run_loadVar_row (P := P) w B t T l.toArray (0, 0) d hb hu (by cases d <;> simp_all) (by rw [List.size_toArray]; exact hi)
  simp [results, h, hp', hv', asAddr, hl]
theorem BlkV.put3 {w : World} {B : Nat} {t : TypeId} {x0 x1 x2 : Value} (h : BlkV w B t [x0, x1, x2]) (y0 y1 y2 : Value) :
    BlkV (((w.setCell ⟨B, 0, none⟩ y0).setCell ⟨B, 1, none⟩ y1).setCell ⟨B, 2, none⟩ y2) B t [y0, y1, y2] := ((h.set 0 y0).set 1 y1).set 2 y2
theorem below_put3 {n : Nat} {a w : World} (h : Below n a w) (B : Nat) (hB : n ≤ B) (y0 y1 y2 : Value) :
    Below n a (((w.setCell ⟨B, 0, none⟩ y0).setCell ⟨B, 1, none⟩ y1).setCell ⟨B, 2, none⟩ y2) := ((h.setCell hB y0).setCell hB y1).setCell hB y2
theorem put3_far (w : World) (B : Nat) (y0 y1 y2 : Value) (k : Nat) (hk : k ≠ B) : (((w.setCell ⟨B, 0, none⟩ y0).setCell ⟨B, 1, none⟩ y1).setCell ⟨B, 2, none⟩ y2).heap[k]? = w.heap[k]? := by
  rw [heap_setCell_other _ ⟨B, 2, none⟩ k _ hk, heap_setCell_other _ ⟨B, 1, none⟩ k _ hk, heap_setCell_other _ ⟨B, 0, none⟩ k _ hk]
theorem put3_size (w : World) (B : Nat) (y0 y1 y2 : Value) : (((w.setCell ⟨B, 0, none⟩ y0).setCell ⟨B, 1, none⟩ y1).setCell ⟨B, 2, none⟩ y2).heap.size = w.heap.size := by
  rw [World.size_setCell, World.size_setCell, World.size_setCell]
theorem Sl_keepC {T : Type} {E : Enc T} {w w' : World} {a : Option Addr} {l : List T} (h : Sl E w a l) (hs : w.heap.size ≤ w'.heap.size) (hh : ∀ b off sp, a = some ⟨b, off, sp⟩ → b < w.heap.size → w'.heap[b]? = w.heap[b]?) : Sl E w' a l := by
  intro h0
  obtain ⟨b, off, ha, hlt, hc⟩ := h h0
  exact ⟨b, off, ha, Nat.lt_of_lt_of_le hlt hs, fun j u hu => by rw [World.cell?_of_block (w := w) (hh _ _ _ ha hlt)]; exact hc j u hu⟩
/-- boxes that can be read, where only blocks below n, and those beyond, turn -/
theorem SB_keep {w w' : World} {n : Nat} {v : Value} {a : Option Addr} {c : Nat} {K : List BxM} (h : OwnSB w n v K) (hv : v = .slice a K.length c) (hs : w.heap.size ≤ w'.heap.size) (hk : ∀ k, n ≤ k → k < w.heap.size → w'.heap[k]? = w.heap[k]?) : SB w' a c K := by
  obtain ⟨a', c', e, hsb, hge⟩ := h.sb
  rw [hv] at e
  injection e with e1 e2 e3
  subst e1
  subst e3
  refine ⟨Sl_keepC hsb.row hs fun b off sp e hb => hk b (hge b off sp e) hb, fun m hm => ?_, hsb.cap, hsb.nil⟩
  obtain ⟨a2, c2, e2, h1, h2, h3, h4⟩ := OwnE.sl (h.mls m hm)
  injection e2 with e4 e5 e6
  subst e4
  subst e6
  exact ⟨Sl_keepC h2 hs fun b off sp e hb => hk b (h4 b off sp e) hb, h1, h3⟩
end Go.Proofs.Ytmmaimopombepaa
