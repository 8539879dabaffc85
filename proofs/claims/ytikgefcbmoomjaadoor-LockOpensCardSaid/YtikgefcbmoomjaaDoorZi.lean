/- The texts Hf, Hg, one behind the other. -/
import Derived.Test.YtikgefcbmoomjaaDoorHe
/- A block of bytes, known whole: loads, stores, results; a word out of a row of sixteen. -/
namespace Go.Proofs.YtikgefcbmoomjaaDoor
open Go.RowKit
set_option maxRecDepth 100000
theorem BlkB.fresh (w : World) (t : TypeId) (l : List UInt8) (cs : Array Value) (hc : cs = (Lib.byteCells l).toArray) (n : Nat) (hn : n = w.heap.size) : BlkB (w.alloc (.cells cs t)) n t l := by
  subst hn hc; exact heap_alloc_new w _
theorem BlkB.below {n : Nat} {w w' : World} {B : Nat} {t : TypeId} {l : List UInt8} (h : BlkB w B t l) (hb : Below n w w') (hB : B < n) : BlkB w' B t l := by
  unfold BlkB
  rw [hb.block B hB]; exact h
theorem BlkB.far {w : World} {B : Nat} {t : TypeId} {l : List UInt8} (h : BlkB w B t l) (a : Addr) (hne : B ≠ a.block) (v : Value) : BlkB (w.setCell a v) B t l := by
  unfold BlkB
  rw [heap_setCell_other w a B v hne]; exact h
theorem BlkB.alloc {w : World} {B : Nat} {t : TypeId} {l : List UInt8} (h : BlkB w B t l) (o : Obj) : BlkB (w.alloc o) B t l :=
  h.below ((Below.refl _ _).alloc (Nat.le_refl _) o) h.lt
theorem BlkB.stored {w : World} {B : Nat} {t : TypeId} {l : List UInt8} (h : BlkB w B t l) (l' : List UInt8) (hl : l'.length = l.length) : BlkB (w.setCells B 0 (Lib.byteCells l')) B t l' := by
  have := heap_setCells_all B t (Lib.byteCells l') [] (Lib.byteCells l) w (by simp [Lib.byteCells, hl]) h
  simpa [BlkB] using this
theorem BlkB.there {w : World} {B : Nat} {t : TypeId} {l : List UInt8} (h : BlkB w B t l) (n : Nat) (hn : n ≤ l.length) : w.there B 0 n := by
  intro j hj
  rw [Nat.zero_add, h.cell j (by omega), h.frozen j]
  exact ⟨rfl, rfl⟩
theorem BlkB.range {w : World} {B : Nat} {t : TypeId} {l : List UInt8} (h : BlkB w B t l) : w.rangeAt B 0 (Lib.byteCells l) := by
  intro j v hv
  rw [Nat.zero_add, cell_of_row w B j _ t (0, 0) h]
  simpa using hv
theorem bc_cells (l : List UInt8) : ∀ v ∈ Lib.byteCells l, v.oneCell' = true := by
  intro v hv
  simp only [Lib.byteCells, List.mem_map] at hv
  obtain ⟨x, -, rfl⟩ := hv
  rfl
theorem load_bb {P : Program} {ops : Array Oper} {rest : List Oper} {o : Oper} {a : Act} {Q : Exit → Act → World → Prop} {w : World} (hgd : o.guard = none) (T : TypeId) (x : Operand) (ho : o.op = .load T x)
    (B : Nat) (hx : a.eval x = .pointer (some ⟨B, 0, none⟩)) {t : TypeId} {l : List UInt8} (hb : BlkB w B t l) {d : TypeDesc} (hu : P.underlying T = some d) (hd : d.isRow = true) (hi : (P.info? T).map (·.size) = some l.length)
    (h : wpList P ops Q rest (a.put o.dst (.agg (Lib.byteCells l).toArray)) w) : wpList P ops Q (o :: rest) a w :=
  wpList_load_mid hgd T x ho B 0 hx (Lib.byteCells l) d hb.range hu hd (by rw [Lib.byteCells_length]; exact hi) h
theorem store_bb {P : Program} {ops : Array Oper} {rest : List Oper} {o : Oper} {a : Act} {Q : Exit → Act → World → Prop} {w : World} (hgd : o.guard = none) (hdst : o.dst = none) (T : TypeId) (x y : Operand) (ho : o.op = .store T x y)
    (B : Nat) (hx : a.eval x = .pointer (some ⟨B, 0, none⟩)) {l' : List UInt8} (hy : a.eval y = .agg (Lib.byteCells l').toArray) {t : TypeId} {l : List UInt8} (hb : BlkB w B t l) (hl : l'.length = l.length)
    (hi : (P.info? T).map (·.size) = some l.length)
    (h : wpList P ops Q rest a (w.setCells B 0 (Lib.byteCells l'))) : wpList P ops Q (o :: rest) a w := by
  refine wpList_store_mid hgd T x y ho B 0 (Lib.byteCells l').toArray hx hy ?_ ?_ ?_ ?_
  · rw [List.size_toArray, Lib.byteCells_length, hl]; exact hb.there _ (Nat.le_refl _)
  · rw [List.size_toArray, Lib.byteCells_length, hl]; exact hi
  · exact all_oneCell_toArray (bc_cells l')
  · rw [hdst]; simpa [Act.put] using h
theorem results_bb {P : Program} {fn : Func} {p : Tmp} {T : TypeId} (h : fn.results = #[.cell p T]) (tmps : Array Value) (w : World) (B : Nat) {t : TypeId} {l : List UInt8} {d : TypeDesc}
    (hp : tmps.getD p undef = .pointer (some ⟨B, 0, none⟩)) (hb : BlkB w B t l) (hu : P.underlying T = some d) (hd : d.isRow = true) (hi : (P.info? T).map (·.size) = some l.length) :
    (results fn tmps).run P w = .ok (.agg (Lib.byteCells l).toArray) w :=
  results_cell_row h tmps w B t _ (0, 0) d hp hb hu (by cases d <;> simp_all) (by rw [List.size_toArray, Lib.byteCells_length]; exact hi)

theorem index_wd (l : List (BitVec 32)) (hl : l.length = 16) (k : Nat) (hk : k < 16) (w : World) :
    (Instr.index 86 (.agg (Wd l).toArray) (.int .i64 (k : Int))).run Tryd.prog w = .ok (.int .u32 ((l.getD k 0).toNat : Int)) w := by
  simp [Instr.index, asIntOf, part, Wd, hl, hk]
end Go.Proofs.YtikgefcbmoomjaaDoor

/- The contract of stream's block: 64 bytes of the words and a number. -/
namespace Go.Proofs.YtikgefcbmoomjaaDoor
open Go.RowKit
set_option maxRecDepth 100000
theorem set4 (S : List UInt8) (c n : Nat) (hn : S.length = n) (y0 y1 y2 y3 : UInt8) :
    ((((S ++ List.replicate (c + 4) 0).set n y0).set (n + 1) y1).set (n + 2) y2).set (n + 3) y3 = S ++ [y0, y1, y2, y3] ++ List.replicate c 0 := by
  subst hn
  simp [List.replicate_succ]
/-- the bytes put so far, behind them noughts -/
def part64 (f m : List (BitVec 32)) (k : Nat) : List UInt8 := sumC f m k ++ List.replicate (64 - 4 * k) 0
def BlR (n : Nat) (B0 B2 B6 : Nat) (w : World) (f m : List (BitVec 32)) (i : Value) (wr : World) : Prop :=
  ∃ k : Nat, k ≤ 16 ∧ i = .int .i64 (k : Int) ∧ BlkW wr B2 86 f ∧ BlkB wr B0 88 (List.replicate 64 0) ∧ BlkB wr B6 88 (part64 f m k) ∧ Below n w wr
set_option maxHeartbeats 1000000 in
theorem block_any (l : List (BitVec 32)) (hl : l.length = 16) (n : BitVec 32) (w : World) :
    Calls Tryd.prog 54 #[.agg (Wd l).toArray, .int .u32 (n.toNat : Int)] w fun e w' => e = .returned (.agg (Lib.byteCells (sumC (l.set 12 n) (roundsC (l.set 12 n) 10) 16)).toArray) ∧ Below w.heap.size w w' := by
  have hwl := Wd_length l
  rw [hl] at hwl
  obtain ⟨f, ef⟩ : ∃ f, l.set 12 n = f := ⟨_, rfl⟩
  have hf : f.length = 16 := by rw [← ef]; simpa using hl
  rw [ef]
  replace ef := Lib.hid ef
  go_enter Tryd.func54, Tryd.ntmps54
  go_upto_region 1 with fail
  have hW0 : BlkW ((w.alloc (.cells (Wd l).toArray 86)).alloc (.cells (Lib.byteCells (List.replicate 64 0)).toArray 88)) w.heap.size 86 l := (BlkW.fresh _ _ _ _ rfl _ rfl).alloc _
  have hR0 : BlkB ((w.alloc (.cells (Wd l).toArray 86)).alloc (.cells (Lib.byteCells (List.replicate 64 0)).toArray 88)) (w.heap.size + 1) 88 (List.replicate 64 0) := BlkB.fresh _ _ _ _ rfl _ (by simp)
  have hB0 : Below w.heap.size w ((w.alloc (.cells (Wd l).toArray 86)).alloc (.cells (Lib.byteCells (List.replicate 64 0)).toArray 88)) := by go_grown
  have hs0 : ((w.alloc (.cells (Wd l).toArray 86)).alloc (.cells (Lib.byteCells (List.replicate 64 0)).toArray 88)).heap.size = w.heap.size + 2 := by simp
  change Code.wp Tryd.prog _ _ _ ((w.alloc (.cells (Wd l).toArray 86)).alloc (.cells (Lib.byteCells (List.replicate 64 0)).toArray 88))
  generalize World.alloc (World.alloc w _) _ = W0 at hW0 hR0 hB0 hs0 ⊢
  have z1 := hW0.cell 12 (by omega)
  have z2 := hW0.frozen 12
  have hW1 := hW0.set 12 n
  have hR1 := hR0.far ⟨w.heap.size, 12, none⟩ (by simp) (.int .u32 (n.toNat : Int))
  have hB1 := hB0.setCell (p := ⟨w.heap.size, 12, none⟩) (Nat.le_refl _) (.int .u32 (n.toNat : Int))
  have hs1 : (W0.setCell ⟨w.heap.size, 12, none⟩ (.int .u32 (n.toNat : Int))).heap.size = w.heap.size + 2 := by simpa using hs0
  rw [ef.out] at hW1
  have HW := Lib.hid hW1; have HR := Lib.hid hR1; have HB := Lib.hid hB1
  clear hW0 hR0 hB0 hW1 hR1 hB1 ef
  go_upto_region 2 with fail
  clear z1 z2 hs0
  change Code.wp Tryd.prog _ _ _ (W0.setCell ⟨w.heap.size, 12, none⟩ (.int .u32 (n.toNat : Int)))
  generalize World.setCell W0 _ _ = W1 at HW HR HB hs1 ⊢
  refine wp_region_lit ?_
  refine load_blk rfl _ _ rfl w.heap.size rfl HW.out Tryd.underlying86 rfl (by rw [hf]; kernel_rfl) ?_
  have hFr : BlkW (W1.alloc (.cells (Wd (List.replicate 16 0)).toArray 86)) (w.heap.size + 2) 86 (List.replicate 16 0) := BlkW.fresh W1 _ _ _ rfl _ hs1.symm
  have HFr := Lib.hid hFr
  have HF := Lib.hid hf
  clear hFr hf hl hwl
  go_wp2_with (refine store_blk (by rfl) (by rfl) _ _ _ (by rfl) (w.heap.size + 2) (by rfl) (l' := f) (by rfl) HFr.out (by rw [HF.out]; rfl) (by kernel_rfl) ?_)
  have hM := HFr.out.stored f (by rw [HF.out]; rfl)
  have hb1 : Below (w.heap.size + 2) W1 ((W1.alloc (.cells (Wd (List.replicate 16 0)).toArray 86)).setCells (w.heap.size + 2) 0 (Wd f)) := below_setCells (Nat.le_refl _) _ _ _ ((Below.refl _ _).alloc (by omega) _)
  refine (mixAll_any (w.heap.size + 2) f HF.out _ hM).mono ?_
  rintro e w1 ⟨rfl, hM2, hb2⟩
  have hb3 := hb1.trans hb2
  have hW := HW.out.below hb3 (by omega)
  have hR := HR.out.below hb3 (by omega)
  have hB := HB.out.trans (hb3.mono (by omega))
  have hlm : (roundsC f 10).length = 16 := by rw [roundsC_length]; exact HF.out
  obtain ⟨m, em⟩ : ∃ m, roundsC f 10 = m := ⟨_, rfl⟩
  rw [em] at hM2 hlm
  have EM := Lib.hid em
  have hgt : w.heap.size + 2 < w1.heap.size := hM2.lt
  clear hM hb1 hb2 hb3 HW HR HB HFr em hs1
  have hsz := hB.size
  have HW := Lib.hid hW; have HR := Lib.hid hR; have HB := Lib.hid hB; have HM := Lib.hid hM2; have HLM := Lib.hid hlm
  clear hW hR hB hM2 hlm
  go_upto_region 5 with fail
  have hO : BlkB (w1.alloc (.cells (Lib.byteCells (List.replicate 64 0)).toArray 88)) w1.heap.size 88 (List.replicate 64 0) := BlkB.fresh _ _ _ _ rfl _ rfl
  have hW := HW.out.alloc (.cells (Lib.byteCells (List.replicate 64 0)).toArray 88)
  have hM := HM.out.alloc (.cells (Lib.byteCells (List.replicate 64 0)).toArray 88)
  have hR := HR.out.alloc (.cells (Lib.byteCells (List.replicate 64 0)).toArray 88)
  have hB := HB.out.alloc hsz (.cells (Lib.byteCells (List.replicate 64 0)).toArray 88)
  clear HW HM HR HB
  change Code.wp Tryd.prog _ _ _ (w1.alloc (.cells (Lib.byteCells (List.replicate 64 0)).toArray 88))
  generalize World.alloc w1 _ = W2 at hO hW hM hR hB ⊢
  obtain ⟨B6, hB6⟩ : ∃ B6, w1.heap.size = B6 := ⟨_, rfl⟩
  rw [hB6] at hO hgt ⊢
  clear hB6 hsz
  have HO := Lib.hid hO; have HW := Lib.hid hW; have HM := Lib.hid hM; have HR := Lib.hid hR; have HB := Lib.hid hB
  clear hO hW hM hR hB
  refine wp_region_lit ?_
  refine load_blk rfl _ _ rfl (w.heap.size + 2) rfl HM.out Tryd.underlying86 rfl (by rw [HLM.out]; kernel_rfl) ?_
  clear HM
  go_wp2_with fail
  go_loopw [14] (BlR w.heap.size (w.heap.size + 1) w.heap.size B6 w f m) (fun i _ => 16 - (intOf i).toNat)
  case atStart => exact ⟨0, by omega, rfl, HW.out, HR.out, HO.out, HB.out⟩
  case round =>
    clear HW HR HO HB
    obtain ⟨k, hk, rfl, hW, hR, hO, hB⟩ := hrel
    by_cases hlt : k < 16
    · have h1 : (k : Int) < 16 := by omega
      have hidx := fun W => index_wd m HLM.out k hlt W
      have c1 := hW.cell k (by rw [HF.out]; omega)
      have hfk : ∃ a, f.getD k 0 = a := ⟨_, rfl⟩
      obtain ⟨a, ea⟩ := hfk
      have hmk : ∃ b, m.getD k 0 = b := ⟨_, rfl⟩
      obtain ⟨b, eb⟩ := hmk
      rw [ea] at c1
      simp only [eb] at hidx
      obtain ⟨x, ex⟩ : ∃ x, b + a = x := ⟨_, rfl⟩
      have hx := add_mod32 b a x ex
      have HW := Lib.hid hW; have HR := Lib.hid hR; have HB := Lib.hid hB; have HO := Lib.hid hO
      have EA := Lib.hid ea; have EB := Lib.hid eb; have EX := Lib.hid ex
      clear hW hR hB hO ea eb ex
      go_upto_region 9 with fail
      simp only [hx]
      clear c1 hidx hx
      have hx3 : x.toNat / 16777216 < 256 := by have := x.isLt; omega
      obtain ⟨y0, ey0⟩ : ∃ y, UInt8.ofNat x.toNat = y := ⟨_, rfl⟩
      obtain ⟨y1, ey1⟩ : ∃ y, UInt8.ofNat (x.toNat / 256) = y := ⟨_, rfl⟩
      obtain ⟨y2, ey2⟩ : ∃ y, UInt8.ofNat (x.toNat / 65536) = y := ⟨_, rfl⟩
      obtain ⟨y3, ey3⟩ : ∃ y, UInt8.ofNat (x.toNat / 16777216) = y := ⟨_, rfl⟩
      have hle : le4 x = [y0, y1, y2, y3] := by rw [← ey0, ← ey1, ← ey2, ← ey3]; rfl
      have v0 : IntKind.u8.wrap ((x.toNat : Int) ) = (y0.toNat : Int) := by rw [IntKind.wrap_u8, ← ey0, UInt8.toNat_ofNat']; omega
      have v1 : IntKind.u8.wrap ((x.toNat : Int) / 256 ) = (y1.toNat : Int) := by rw [IntKind.wrap_u8, ← ey1, UInt8.toNat_ofNat']; omega
      have v2 : IntKind.u8.wrap ((x.toNat : Int) / 65536 ) = (y2.toNat : Int) := by rw [IntKind.wrap_u8, ← ey2, UInt8.toNat_ofNat']; omega
      have v3 : IntKind.u8.wrap ((x.toNat : Int) / 16777216 ) = (y3.toNat : Int) := by rw [IntKind.wrap_u8, ← ey3, UInt8.toNat_ofNat']; omega
      clear ey0 ey1 ey2 ey3 hx3
      have p0 : (4 * (k : Int)).toNat = 4 * k := by omega
      have p1 : (4 * (k : Int) + 1).toNat = 4 * k + 1 := by omega
      have p2 : (4 * (k : Int) + 2).toNat = 4 * k + 2 := by omega
      have p3 : (4 * (k : Int) + 3).toNat = 4 * k + 3 := by omega
      have n0 : 0 ≤ 4 * (k : Int) := by omega
      have n1 : 0 ≤ 4 * (k : Int) + 1 := by omega
      have n2 : 0 ≤ 4 * (k : Int) + 2 := by omega
      have n3 : 0 ≤ 4 * (k : Int) + 3 := by omega
      have m0 : 4 * (k : Int) < 64 := by omega
      have m1 : 4 * (k : Int) + 1 < 64 := by omega
      have m2 : 4 * (k : Int) + 2 < 64 := by omega
      have m3 : 4 * (k : Int) + 3 < 64 := by omega
      have hlen : (part64 f m k).length = 64 := by unfold part64; rw [List.length_append, sumC_length, List.length_replicate]; omega
      have hO := HO.out
      have z0 := hO.cell (4 * k) (by omega)
      have f0 := hO.frozen (4 * k)
      have hO1 := hO.set (4 * k) y0
      obtain ⟨V1, e1⟩ : ∃ V, wr.setCell ⟨B6, 4 * k, none⟩ (.int .u8 (y0.toNat : Int)) = V := ⟨_, rfl⟩
      rw [e1] at hO1
      have z1 := hO1.cell (4 * k + 1) (by simp; omega)
      have f1 := hO1.frozen (4 * k + 1)
      have hO2 := hO1.set (4 * k + 1) y1
      obtain ⟨V2, e2⟩ : ∃ V, V1.setCell ⟨B6, 4 * k + 1, none⟩ (.int .u8 (y1.toNat : Int)) = V := ⟨_, rfl⟩
      rw [e2] at hO2
      have z2 := hO2.cell (4 * k + 2) (by simp; omega)
      have f2 := hO2.frozen (4 * k + 2)
      have hO3 := hO2.set (4 * k + 2) y2
      obtain ⟨V3, e3⟩ : ∃ V, V2.setCell ⟨B6, 4 * k + 2, none⟩ (.int .u8 (y2.toNat : Int)) = V := ⟨_, rfl⟩
      rw [e3] at hO3
      have z3 := hO3.cell (4 * k + 3) (by simp; omega)
      have f3 := hO3.frozen (4 * k + 3)
      have hO4 := hO3.set (4 * k + 3) y3
      have hW4 := (((HW.out.far ⟨B6, 4 * k, none⟩ (by simp; omega) (.int .u8 (y0.toNat : Int))).far ⟨B6, 4 * k + 1, none⟩ (by simp; omega) (.int .u8 (y1.toNat : Int))).far ⟨B6, 4 * k + 2, none⟩ (by simp; omega) (.int .u8 (y2.toNat : Int))).far ⟨B6, 4 * k + 3, none⟩ (by simp; omega) (.int .u8 (y3.toNat : Int))
      have hR4 := (((HR.out.far ⟨B6, 4 * k, none⟩ (by simp; omega) (.int .u8 (y0.toNat : Int))).far ⟨B6, 4 * k + 1, none⟩ (by simp; omega) (.int .u8 (y1.toNat : Int))).far ⟨B6, 4 * k + 2, none⟩ (by simp; omega) (.int .u8 (y2.toNat : Int))).far ⟨B6, 4 * k + 3, none⟩ (by simp; omega) (.int .u8 (y3.toNat : Int))
      have hB4 := (((HB.out.setCell (p := ⟨B6, 4 * k, none⟩) (by simp; omega) (.int .u8 (y0.toNat : Int))).setCell (p := ⟨B6, 4 * k + 1, none⟩) (by simp; omega) (.int .u8 (y1.toNat : Int))).setCell (p := ⟨B6, 4 * k + 2, none⟩) (by simp; omega) (.int .u8 (y2.toNat : Int))).setCell (p := ⟨B6, 4 * k + 3, none⟩) (by simp; omega) (.int .u8 (y3.toNat : Int))
      rw [e1, e2, e3] at hW4 hR4 hB4
      have hkeep : ((((part64 f m k).set (4 * k) y0).set (4 * k + 1) y1).set (4 * k + 2) y2).set (4 * k + 3) y3 = part64 f m (k + 1) := by
        unfold part64
        have h4 := set4 (sumC f m k) (64 - 4 * k - 4) (4 * k) (sumC_length _ _ _) y0 y1 y2 y3
        rw [show 64 - 4 * k - 4 + 4 = 64 - 4 * k by omega] at h4
        rw [h4, show sumC f m (k + 1) = sumC f m k ++ le4 (f.getD k 0 + m.getD k 0) from rfl, EA.out, EB.out, BitVec.add_comm, EX.out, hle, show 64 - 4 * (k + 1) = 64 - 4 * k - 4 by omega]
      rw [hkeep] at hO4
      have HO4 := Lib.hid hO4; have HW4 := Lib.hid hW4; have HR4 := Lib.hid hR4; have HB4 := Lib.hid hB4
      clear hO hO1 hO2 hO3 hO4 hW4 hR4 hB4 hkeep HW HR HB HO hlen hle
      refine wp_region_lit ?_
      have q0 : IntKind.i64.wrap (4 * (k : Int)) = 4 * (k : Int) := IntWalk.i64_in _ (by omega)
      have q1 : IntKind.i64.wrap (4 * (k : Int) + 1) = 4 * (k : Int) + 1 := IntWalk.i64_in _ (by omega)
      have q2 : IntKind.i64.wrap (4 * (k : Int) + 2) = 4 * (k : Int) + 2 := IntWalk.i64_in _ (by omega)
      have q3 : IntKind.i64.wrap (4 * (k : Int) + 3) = 4 * (k : Int) + 3 := IntWalk.i64_in _ (by omega)
      iterate 30 (refine wpList_step (fun K hK => ?_); go_simp; refine hK _ _ ?_; clear hK K)
      refine wpList_nil ?_
      clear z0 z1 z2 z3 f0 f1 f2 f3 v0 v1 v2 v3 p0 p1 p2 p3 n0 n1 n2 n3 m0 m1 m2 m3 q0 q1 q2 q3
      generalize World.setCell V3 _ _ = V4 at HO4 HW4 HR4 HB4 ⊢
      rename_i K hK
      refine hK _ _ ?_
      go_wp2_with fail
      exact ⟨⟨k + 1, by omega, by simp, HW4.out, HR4.out, HO4.out, HB4.out⟩, by simp [intOf]; omega⟩
    · obtain rfl : k = 16 := by omega
      have hp : part64 f m 16 = sumC f m 16 := by unfold part64; simp
      rw [hp] at hO
      have hlen : (sumC f m 16).length = 64 := sumC_length _ _ 16
      have HR := Lib.hid hR; have HB := Lib.hid hB; have HO := Lib.hid hO
      clear hR hB hO hW hp
      go_upto_region 11 with fail
      refine wp_region_lit ?_
      refine load_bb rfl _ _ rfl B6 rfl HO.out Tryd.underlying88 rfl (by rw [hlen]; kernel_rfl) ?_
      refine store_bb rfl rfl _ _ _ rfl (w.heap.size + 1) rfl (l' := sumC f m 16) rfl HR.out (by rw [hlen]; rfl) (by rw [List.length_replicate]; kernel_rfl) ?_
      refine wpList_nil ?_
      have hF := HR.out.stored (sumC f m 16) (by rw [hlen]; rfl)
      have hBF := below_setCells (show w.heap.size ≤ w.heap.size + 1 by omega) (Lib.byteCells (sumC f m 16)) 0 _ HB.out
      generalize World.setCells wr _ _ _ = W at hF hBF ⊢
      rename_i K hK
      refine hK _ _ ?_
      refine wp_ret ?_
      refine bodyPost_ret (results_bb (p := 4) (T := 88) (by kernel_rfl) _ _ (w.heap.size + 1) rfl hF Tryd.underlying88 rfl (by rw [hlen]; kernel_rfl)) rfl ⟨by rw [EM.out], hBF⟩
end Go.Proofs.YtikgefcbmoomjaaDoor
