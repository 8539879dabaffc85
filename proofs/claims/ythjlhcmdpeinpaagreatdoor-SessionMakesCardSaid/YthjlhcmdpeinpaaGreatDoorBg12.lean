/- The texts He, Hf, Hg, Hh, Hi, Kt, one behind the other. -/
import Derived.Test.YthjlhcmdpeinpaaGreatDoorBg11
import Derived.Test.YthjlhcmdpeinpaaGreatDoorBg9
/- The contract of stream's begin: the words that a key and a nonce begin with. -/
namespace Go.Proofs.YthjlhcmdpeinpaaGreatDoor
open Go.RowKit
set_option maxRecDepth 100000
def base4 : List (BitVec 32) := [1634760805, 857760878, 2036477234, 1797285236, 0, 0, 0, 0, 0, 0, 0, 0, 0, 0, 0, 0]
theorem begin_words (k nc : List UInt8) : putW (putW base4 4 k 8) 13 nc 3 = firstC k 0 nc := by rfl
set_option maxHeartbeats 400000 in
theorem sBegin_any (k nc : ByteArray) (hk : k.size = 32) (hn : nc.size = 12) (w : World) :
    Calls Tryz.prog 199 #[.string k, .string nc] w fun e w' => e = .returned (.agg (Wd (firstC (bl k) 0 (bl nc))).toArray) ∧ Below w.heap.size w w' := by
  go_enter Tryz.func199, Tryz.ntmps199
  go_upto_region 1 with fail
  have hR0 : BlkW (w.alloc (.cells (Wd (List.replicate 16 0)).toArray 245)) w.heap.size 245 (List.replicate 16 0) := BlkW.fresh _ _ _ _ rfl _ rfl
  have hB0 : Below w.heap.size w (w.alloc (.cells (Wd (List.replicate 16 0)).toArray 245)) := by go_grown
  have hs0 : (w.alloc (.cells (Wd (List.replicate 16 0)).toArray 245)).heap.size = w.heap.size + 1 := by simp
  change Code.wp Tryz.prog _ _ _ (w.alloc (.cells (Wd (List.replicate 16 0)).toArray 245))
  generalize World.alloc w _ = W0 at hR0 hB0 hs0 ⊢
  have HR := Lib.hid hR0
  clear hR0
  go_wp2_with fail
  have hw1 : BlkW (W0.alloc (.cells (Wd base4).toArray 245)) (w.heap.size + 1) 245 base4 := BlkW.fresh _ _ _ _ rfl _ hs0.symm
  refine (sRead_any (w.heap.size + 1) base4 4 8 k (by rfl) (by omega) (by omega) _ hw1).mono ?_
  rintro e w1 ⟨rfl, hw2, hb2⟩
  have hB1 : Below (w.heap.size + 1) W0 w1 := ((Below.refl _ _).alloc (by omega) _).trans hb2
  have HW := Lib.hid hw2
  clear hw1 hw2 hb2
  go_wp2_with fail
  refine (sRead_any (w.heap.size + 1) (putW base4 4 (bl k) 8) 13 3 nc (by rw [putW_length]; rfl) (by omega) (by omega) _ HW.out).mono ?_
  rintro e w2 ⟨rfl, hw2, hb2⟩
  rw [begin_words] at hw2
  have hB2 := hB1.trans hb2
  have hR := HR.out.below hB2 (by omega)
  have hB3 := hB0.trans (hB2.mono (by omega))
  have HR2 := Lib.hid hR
  have HW2 := Lib.hid hw2
  have HB3 := Lib.hid hB3
  clear hB0 hB1 hb2 hB2 hR hw2 hB3 HR HW
  go_upto_region 4 with fail
  refine wp_region_lit ?_
  refine load_blk rfl _ _ rfl (w.heap.size + 1) rfl HW2.out Tryz.underlying245 rfl (by rw [firstC_length]; kernel_rfl) ?_
  refine store_blk rfl rfl _ _ _ rfl w.heap.size rfl (l' := firstC (bl k) 0 (bl nc)) rfl HR2.out (by rw [firstC_length]; rfl) (by rw [List.length_replicate]; kernel_rfl) ?_
  refine wpList_nil ?_
  have hF := HR2.out.stored (firstC (bl k) 0 (bl nc)) (by rw [firstC_length]; rfl)
  have hBF := below_setCells (Nat.le_refl w.heap.size) (Wd (firstC (bl k) 0 (bl nc))) 0 _ HB3.out
  generalize World.setCells w2 _ _ _ = W at hF hBF ⊢
  rename_i K hK
  refine hK _ _ ?_
  refine wp_ret ?_
  refine bodyPost_ret (results_blk (p := 4) (T := 245) (by kernel_rfl) _ _ w.heap.size rfl hF Tryz.underlying245 rfl (by rw [firstC_length]; kernel_rfl)) rfl ⟨rfl, hBF⟩
end Go.Proofs.YthjlhcmdpeinpaaGreatDoor

/- A block of bytes, known whole: loads, stores, results; a word out of a row of sixteen. -/
namespace Go.Proofs.YthjlhcmdpeinpaaGreatDoor
open Go.RowKit
set_option maxRecDepth 100000
theorem BlkB.fresh (w : World) (t : TypeId) (l : List UInt8) (cs : Array Value) (hc : cs = (Lib.byteCells l).toArray) (n : Nat) (hn : n = w.heap.size) : BlkB (w.alloc (.cells cs t)) n t l := by
  subst hn hc; exact heap_alloc_new w _
theorem BlkB.below {n : Nat} {w w' : World} {B : Nat} {t : TypeId} {l : List UInt8} (h : BlkB w B t l) (hb : Below n w w') (hB : B < n) : BlkB w' B t l := by
  unfold BlkB
  rw [hb.block B hB]; exact h
theorem BlkB.far {w : World} {B : Nat} {t : TypeId} {l : List UInt8} (h : BlkB w B t l) (a : Addr) (hne : B ≠ a.block) (v : Value) : BlkB (w.setCell a v) B t l := by
  unfold BlkB
  rw [heap_setCell_other w a B v hne]; exact h
theorem BlkB.alloc {w : World} {B : Nat} {t : TypeId} {l : List UInt8} (h : BlkB w B t l) (o : Obj) : BlkB (w.alloc o) B t l :=
  h.below ((Below.refl _ _).alloc (Nat.le_refl _) o) h.lt
theorem BlkB.stored {w : World} {B : Nat} {t : TypeId} {l : List UInt8} (h : BlkB w B t l) (l' : List UInt8) (hl : l'.length = l.length) : BlkB (w.setCells B 0 (Lib.byteCells l')) B t l' := by
  have := heap_setCells_all B t (Lib.byteCells l') [] (Lib.byteCells l) w (by simp [Lib.byteCells, hl]) h
  simpa [BlkB] using this
theorem BlkB.there {w : World} {B : Nat} {t : TypeId} {l : List UInt8} (h : BlkB w B t l) (n : Nat) (hn : n ≤ l.length) : w.there B 0 n := by
  intro j hj
  rw [Nat.zero_add, h.cell j (by omega), h.frozen j]
  exact ⟨rfl, rfl⟩
theorem BlkB.range {w : World} {B : Nat} {t : TypeId} {l : List UInt8} (h : BlkB w B t l) : w.rangeAt B 0 (Lib.byteCells l) := by
  intro j v hv
  rw [Nat.zero_add, cell_of_row w B j _ t (0, 0) h]
  simpa using hv
theorem bc_cells (l : List UInt8) : ∀ v ∈ Lib.byteCells l, v.oneCell' = true := by
  intro v hv
  simp only [Lib.byteCells, List.mem_map] at hv
  obtain ⟨x, -, rfl⟩ := hv
  rfl
theorem load_bb {P : Program} {ops : Array Oper} {rest : List Oper} {o : Oper} {a : Act} {Q : Exit → Act → World → Prop} {w : World} (hgd : o.guard = none) (T : TypeId) (x : Operand) (ho : o.op = .load T x)
    (B : Nat) (hx : a.eval x = .pointer (some ⟨B, 0, none⟩)) {t : TypeId} {l : List UInt8} (hb : BlkB w B t l) {d : TypeDesc} (hu : P.underlying T = some d) (hd : d.isRow = true) (hi : (P.info? T).map (·.size) = some l.length)
    (h : wpList P ops Q rest (a.put o.dst (.agg (Lib.byteCells l).toArray)) w) : wpList P ops Q (o :: rest) a w :=
  wpList_load_mid hgd T x ho B 0 hx (Lib.byteCells l) d hb.range hu hd (by rw [Lib.byteCells_length]; exact hi) h
theorem store_bb {P : Program} {ops : Array Oper} {rest : List Oper} {o : Oper} {a : Act} {Q : Exit → Act → World → Prop} {w : World} (hgd : o.guard = none) (hdst : o.dst = none) (T : TypeId) (x y : Operand) (ho : o.op = .store T x y)
    (B : Nat) (hx : a.eval x = .pointer (some ⟨B, 0, none⟩)) {l' : List UInt8} (hy : a.eval y = .agg (Lib.byteCells l').toArray) {t : TypeId} {l : List UInt8} (hb : BlkB w B t l) (hl : l'.length = l.length)
    (hi : (P.info? T).map (·.size) = some l.length)
    (h : wpList P ops Q rest a (w.setCells B 0 (Lib.byteCells l'))) : wpList P ops Q (o :: rest) a w := by
  refine wpList_store_mid hgd T x y ho B 0 (Lib.byteCells l').toArray hx hy ?_ ?_ ?_ ?_
  · rw [List.size_toArray, Lib.byteCells_length, hl]; exact hb.there _ (Nat.le_refl _)
  · rw [List.size_toArray, Lib.byteCells_length, hl]; exact hi
  · exact all_oneCell_toArray (bc_cells l')
  · rw [hdst]; simpa [Act.put] using h
theorem results_bb {P : Program} {fn : Func} {p : Tmp} {T : TypeId} (h : fn.results = #[.cell p T]) (tmps : Array Value) (w : World) (B : Nat) {t : TypeId} {l : List UInt8} {d : TypeDesc}
    (hp : tmps.getD p undef = .pointer (some ⟨B, 0, none⟩)) (hb : BlkB w B t l) (hu : P.underlying T = some d) (hd : d.isRow = true) (hi : (P.info? T).map (·.size) = some l.length) :
    (results fn tmps).run P w = .ok (.agg (Lib.byteCells l).toArray) w :=
  results_cell_row h tmps w B t _ (0, 0) d hp hb hu (by cases d <;> simp_all) (by rw [List.size_toArray, Lib.byteCells_length]; exact hi)

theorem index_wd (l : List (BitVec 32)) (hl : l.length = 16) (k : Nat) (hk : k < 16) (w : World) :
    (Instr.index 245 (.agg (Wd l).toArray) (.int .i64 (k : Int))).run Tryz.prog w = .ok (.int .u32 ((l.getD k 0).toNat : Int)) w := by
  simp [Instr.index, asIntOf, part, Wd, hl, hk]
end Go.Proofs.YthjlhcmdpeinpaaGreatDoor

/- The contract of stream's block: 64 bytes of the words and a number. -/
namespace Go.Proofs.YthjlhcmdpeinpaaGreatDoor
open Go.RowKit
set_option maxRecDepth 100000
theorem set4 (S : List UInt8) (c n : Nat) (hn : S.length = n) (y0 y1 y2 y3 : UInt8) :
    ((((S ++ List.replicate (c + 4) 0).set n y0).set (n + 1) y1).set (n + 2) y2).set (n + 3) y3 = S ++ [y0, y1, y2, y3] ++ List.replicate c 0 := by
  subst hn
  simp [List.replicate_succ]
/-- the bytes put so far, behind them noughts -/
def part64 (f m : List (BitVec 32)) (k : Nat) : List UInt8 := sumC f m k ++ List.replicate (64 - 4 * k) 0
def BlR (n : Nat) (B0 B2 B6 : Nat) (w : World) (f m : List (BitVec 32)) (i : Value) (wr : World) : Prop :=
  ∃ k : Nat, k ≤ 16 ∧ i = .int .i64 (k : Int) ∧ BlkW wr B2 245 f ∧ BlkB wr B0 206 (List.replicate 64 0) ∧ BlkB wr B6 206 (part64 f m k) ∧ Below n w wr
set_option maxHeartbeats 1000000 in
theorem block_any (l : List (BitVec 32)) (hl : l.length = 16) (n : BitVec 32) (w : World) :
    Calls Tryz.prog 200 #[.agg (Wd l).toArray, .int .u32 (n.toNat : Int)] w fun e w' => e = .returned (.agg (Lib.byteCells (sumC (l.set 12 n) (roundsC (l.set 12 n) 10) 16)).toArray) ∧ Below w.heap.size w w' := by
  have hwl := Wd_length l
  rw [hl] at hwl
  obtain ⟨f, ef⟩ : ∃ f, l.set 12 n = f := ⟨_, rfl⟩
  have hf : f.length = 16 := by rw [← ef]; simpa using hl
  rw [ef]
  replace ef := Lib.hid ef
  go_enter Tryz.func200, Tryz.ntmps200
  go_upto_region 1 with fail
  have hW0 : BlkW ((w.alloc (.cells (Wd l).toArray 245)).alloc (.cells (Lib.byteCells (List.replicate 64 0)).toArray 206)) w.heap.size 245 l := (BlkW.fresh _ _ _ _ rfl _ rfl).alloc _
  have hR0 : BlkB ((w.alloc (.cells (Wd l).toArray 245)).alloc (.cells (Lib.byteCells (List.replicate 64 0)).toArray 206)) (w.heap.size + 1) 206 (List.replicate 64 0) := BlkB.fresh _ _ _ _ rfl _ (by simp)
  have hB0 : Below w.heap.size w ((w.alloc (.cells (Wd l).toArray 245)).alloc (.cells (Lib.byteCells (List.replicate 64 0)).toArray 206)) := by go_grown
  have hs0 : ((w.alloc (.cells (Wd l).toArray 245)).alloc (.cells (Lib.byteCells (List.replicate 64 0)).toArray 206)).heap.size = w.heap.size + 2 := by simp
  change Code.wp Tryz.prog _ _ _ ((w.alloc (.cells (Wd l).toArray 245)).alloc (.cells (Lib.byteCells (List.replicate 64 0)).toArray 206))
  generalize World.alloc (World.alloc w _) _ = W0 at hW0 hR0 hB0 hs0 ⊢
  have z1 := hW0.cell 12 (by omega)
  have z2 := hW0.frozen 12
  have hW1 := hW0.set 12 n
  have hR1 := hR0.far ⟨w.heap.size, 12, none⟩ (by simp) (.int .u32 (n.toNat : Int))
  have hB1 := hB0.setCell (p := ⟨w.heap.size, 12, none⟩) (Nat.le_refl _) (.int .u32 (n.toNat : Int))
  have hs1 : (W0.setCell ⟨w.heap.size, 12, none⟩ (.int .u32 (n.toNat : Int))).heap.size = w.heap.size + 2 := by simpa using hs0
  rw [ef.out] at hW1
  have HW := Lib.hid hW1; have HR := Lib.hid hR1; have HB := Lib.hid hB1
  clear hW0 hR0 hB0 hW1 hR1 hB1 ef
  go_upto_region 2 with fail
  clear z1 z2 hs0
  change Code.wp Tryz.prog _ _ _ (W0.setCell ⟨w.heap.size, 12, none⟩ (.int .u32 (n.toNat : Int)))
  generalize World.setCell W0 _ _ = W1 at HW HR HB hs1 ⊢
  refine wp_region_lit ?_
  refine load_blk rfl _ _ rfl w.heap.size rfl HW.out Tryz.underlying245 rfl (by rw [hf]; kernel_rfl) ?_
  have hFr : BlkW (W1.alloc (.cells (Wd (List.replicate 16 0)).toArray 245)) (w.heap.size + 2) 245 (List.replicate 16 0) := BlkW.fresh W1 _ _ _ rfl _ hs1.symm
  have HFr := Lib.hid hFr
  have HF := Lib.hid hf
  clear hFr hf hl hwl
  go_wp2_with (refine store_blk (by rfl) (by rfl) _ _ _ (by rfl) (w.heap.size + 2) (by rfl) (l' := f) (by rfl) HFr.out (by rw [HF.out]; rfl) (by kernel_rfl) ?_)
  have hM := HFr.out.stored f (by rw [HF.out]; rfl)
  have hb1 : Below (w.heap.size + 2) W1 ((W1.alloc (.cells (Wd (List.replicate 16 0)).toArray 245)).setCells (w.heap.size + 2) 0 (Wd f)) := below_setCells (Nat.le_refl _) _ _ _ ((Below.refl _ _).alloc (by omega) _)
  refine (mixAll_any (w.heap.size + 2) f HF.out _ hM).mono ?_
  rintro e w1 ⟨rfl, hM2, hb2⟩
  have hb3 := hb1.trans hb2
  have hW := HW.out.below hb3 (by omega)
  have hR := HR.out.below hb3 (by omega)
  have hB := HB.out.trans (hb3.mono (by omega))
  have hlm : (roundsC f 10).length = 16 := by rw [roundsC_length]; exact HF.out
  obtain ⟨m, em⟩ : ∃ m, roundsC f 10 = m := ⟨_, rfl⟩
  rw [em] at hM2 hlm
  have EM := Lib.hid em
  have hgt : w.heap.size + 2 < w1.heap.size := hM2.lt
  clear hM hb1 hb2 hb3 HW HR HB HFr em hs1
  have hsz := hB.size
  have HW := Lib.hid hW; have HR := Lib.hid hR; have HB := Lib.hid hB; have HM := Lib.hid hM2; have HLM := Lib.hid hlm
  clear hW hR hB hM2 hlm
  go_upto_region 5 with fail
  have hO : BlkB (w1.alloc (.cells (Lib.byteCells (List.replicate 64 0)).toArray 206)) w1.heap.size 206 (List.replicate 64 0) := BlkB.fresh _ _ _ _ rfl _ rfl
  have hW := HW.out.alloc (.cells (Lib.byteCells (List.replicate 64 0)).toArray 206)
  have hM := HM.out.alloc (.cells (Lib.byteCells (List.replicate 64 0)).toArray 206)
  have hR := HR.out.alloc (.cells (Lib.byteCells (List.replicate 64 0)).toArray 206)
  have hB := HB.out.alloc hsz (.cells (Lib.byteCells (List.replicate 64 0)).toArray 206)
  clear HW HM HR HB
  change Code.wp Tryz.prog _ _ _ (w1.alloc (.cells (Lib.byteCells (List.replicate 64 0)).toArray 206))
  generalize World.alloc w1 _ = W2 at hO hW hM hR hB ⊢
  obtain ⟨B6, hB6⟩ : ∃ B6, w1.heap.size = B6 := ⟨_, rfl⟩
  rw [hB6] at hO hgt ⊢
  clear hB6 hsz
  have HO := Lib.hid hO; have HW := Lib.hid hW; have HM := Lib.hid hM; have HR := Lib.hid hR; have HB := Lib.hid hB
  clear hO hW hM hR hB
  refine wp_region_lit ?_
  refine load_blk rfl _ _ rfl (w.heap.size + 2) rfl HM.out Tryz.underlying245 rfl (by rw [HLM.out]; kernel_rfl) ?_
  clear HM
  go_wp2_with fail
  go_loopw [14] (BlR w.heap.size (w.heap.size + 1) w.heap.size B6 w f m) (fun i _ => 16 - (intOf i).toNat)
  case atStart => exact ⟨0, by omega, rfl, HW.out, HR.out, HO.out, HB.out⟩
  case round =>
    clear HW HR HO HB
    obtain ⟨k, hk, rfl, hW, hR, hO, hB⟩ := hrel
    by_cases hlt : k < 16
    · have h1 : (k : Int) < 16 := by omega
      have hidx := fun W => index_wd m HLM.out k hlt W
      have c1 := hW.cell k (by rw [HF.out]; omega)
      have hfk : ∃ a, f.getD k 0 = a := ⟨_, rfl⟩
      obtain ⟨a, ea⟩ := hfk
      have hmk : ∃ b, m.getD k 0 = b := ⟨_, rfl⟩
      obtain ⟨b, eb⟩ := hmk
      rw [ea] at c1
      simp only [eb] at hidx
      obtain ⟨x, ex⟩ : ∃ x, b + a = x := ⟨_, rfl⟩
      have hx := add_mod32 b a x ex
      have HW := Lib.hid hW; have HR := Lib.hid hR; have HB := Lib.hid hB; have HO := Lib.hid hO
      have EA := Lib.hid ea; have EB := Lib.hid eb; have EX := Lib.hid ex
      clear hW hR hB hO ea eb ex
      go_upto_region 9 with fail
      simp only [hx]
      clear c1 hidx hx
      have hx3 : x.toNat / 16777216 < 256 := by have := x.isLt; omega
      obtain ⟨y0, ey0⟩ : ∃ y, UInt8.ofNat x.toNat = y := ⟨_, rfl⟩
      obtain ⟨y1, ey1⟩ : ∃ y, UInt8.ofNat (x.toNat / 256) = y := ⟨_, rfl⟩
      obtain ⟨y2, ey2⟩ : ∃ y, UInt8.ofNat (x.toNat / 65536) = y := ⟨_, rfl⟩
      obtain ⟨y3, ey3⟩ : ∃ y, UInt8.ofNat (x.toNat / 16777216) = y := ⟨_, rfl⟩
      have hle : le4 x = [y0, y1, y2, y3] := by rw [← ey0, ← ey1, ← ey2, ← ey3]; rfl
      have v0 : IntKind.u8.wrap ((x.toNat : Int) ) = (y0.toNat : Int) := by rw [IntKind.wrap_u8, ← ey0, UInt8.toNat_ofNat']; omega
      have v1 : IntKind.u8.wrap ((x.toNat : Int) / 256 ) = (y1.toNat : Int) := by rw [IntKind.wrap_u8, ← ey1, UInt8.toNat_ofNat']; omega
      have v2 : IntKind.u8.wrap ((x.toNat : Int) / 65536 ) = (y2.toNat : Int) := by rw [IntKind.wrap_u8, ← ey2, UInt8.toNat_ofNat']; omega
      have v3 : IntKind.u8.wrap ((x.toNat : Int) / 16777216 ) = (y3.toNat : Int) := by rw [IntKind.wrap_u8, ← ey3, UInt8.toNat_ofNat']; omega
      clear ey0 ey1 ey2 ey3 hx3
      have p0 : (4 * (k : Int)).toNat = 4 * k := by omega
      have p1 : (4 * (k : Int) + 1).toNat = 4 * k + 1 := by omega
      have p2 : (4 * (k : Int) + 2).toNat = 4 * k + 2 := by omega
      have p3 : (4 * (k : Int) + 3).toNat = 4 * k + 3 := by omega
      have n0 : 0 ≤ 4 * (k : Int) := by omega
      have n1 : 0 ≤ 4 * (k : Int) + 1 := by omega
      have n2 : 0 ≤ 4 * (k : Int) + 2 := by omega
      have n3 : 0 ≤ 4 * (k : Int) + 3 := by omega
      have m0 : 4 * (k : Int) < 64 := by omega
      have m1 : 4 * (k : Int) + 1 < 64 := by omega
      have m2 : 4 * (k : Int) + 2 < 64 := by omega
      have m3 : 4 * (k : Int) + 3 < 64 := by omega
      have hlen : (part64 f m k).length = 64 := by unfold part64; rw [List.length_append, sumC_length, List.length_replicate]; omega
      have hO := HO.out
      have z0 := hO.cell (4 * k) (by omega)
      have f0 := hO.frozen (4 * k)
      have hO1 := hO.set (4 * k) y0
      obtain ⟨V1, e1⟩ : ∃ V, wr.setCell ⟨B6, 4 * k, none⟩ (.int .u8 (y0.toNat : Int)) = V := ⟨_, rfl⟩
      rw [e1] at hO1
      have z1 := hO1.cell (4 * k + 1) (by simp; omega)
      have f1 := hO1.frozen (4 * k + 1)
      have hO2 := hO1.set (4 * k + 1) y1
      obtain ⟨V2, e2⟩ : ∃ V, V1.setCell ⟨B6, 4 * k + 1, none⟩ (.int .u8 (y1.toNat : Int)) = V := ⟨_, rfl⟩
      rw [e2] at hO2
      have z2 := hO2.cell (4 * k + 2) (by simp; omega)
      have f2 := hO2.frozen (4 * k + 2)
      have hO3 := hO2.set (4 * k + 2) y2
      obtain ⟨V3, e3⟩ : ∃ V, V2.setCell ⟨B6, 4 * k + 2, none⟩ (.int .u8 (y2.toNat : Int)) = V := ⟨_, rfl⟩
      rw [e3] at hO3
      have z3 := hO3.cell (4 * k + 3) (by simp; omega)
      have f3 := hO3.frozen (4 * k + 3)
      have hO4 := hO3.set (4 * k + 3) y3
      have hW4 := (((HW.out.far ⟨B6, 4 * k, none⟩ (by simp; omega) (.int .u8 (y0.toNat : Int))).far ⟨B6, 4 * k + 1, none⟩ (by simp; omega) (.int .u8 (y1.toNat : Int))).far ⟨B6, 4 * k + 2, none⟩ (by simp; omega) (.int .u8 (y2.toNat : Int))).far ⟨B6, 4 * k + 3, none⟩ (by simp; omega) (.int .u8 (y3.toNat : Int))
      have hR4 := (((HR.out.far ⟨B6, 4 * k, none⟩ (by simp; omega) (.int .u8 (y0.toNat : Int))).far ⟨B6, 4 * k + 1, none⟩ (by simp; omega) (.int .u8 (y1.toNat : Int))).far ⟨B6, 4 * k + 2, none⟩ (by simp; omega) (.int .u8 (y2.toNat : Int))).far ⟨B6, 4 * k + 3, none⟩ (by simp; omega) (.int .u8 (y3.toNat : Int))
      have hB4 := (((HB.out.setCell (p := ⟨B6, 4 * k, none⟩) (by simp; omega) (.int .u8 (y0.toNat : Int))).setCell (p := ⟨B6, 4 * k + 1, none⟩) (by simp; omega) (.int .u8 (y1.toNat : Int))).setCell (p := ⟨B6, 4 * k + 2, none⟩) (by simp; omega) (.int .u8 (y2.toNat : Int))).setCell (p := ⟨B6, 4 * k + 3, none⟩) (by simp; omega) (.int .u8 (y3.toNat : Int))
      rw [e1, e2, e3] at hW4 hR4 hB4
      have hkeep : ((((part64 f m k).set (4 * k) y0).set (4 * k + 1) y1).set (4 * k + 2) y2).set (4 * k + 3) y3 = part64 f m (k + 1) := by
        unfold part64
        have h4 := set4 (sumC f m k) (64 - 4 * k - 4) (4 * k) (sumC_length _ _ _) y0 y1 y2 y3
        rw [show 64 - 4 * k - 4 + 4 = 64 - 4 * k by omega] at h4
        rw [h4, show sumC f m (k + 1) = sumC f m k ++ le4 (f.getD k 0 + m.getD k 0) from rfl, EA.out, EB.out, BitVec.add_comm, EX.out, hle, show 64 - 4 * (k + 1) = 64 - 4 * k - 4 by omega]
      rw [hkeep] at hO4
      have HO4 := Lib.hid hO4; have HW4 := Lib.hid hW4; have HR4 := Lib.hid hR4; have HB4 := Lib.hid hB4
      clear hO hO1 hO2 hO3 hO4 hW4 hR4 hB4 hkeep HW HR HB HO hlen hle
      refine wp_region_lit ?_
      have q0 : IntKind.i64.wrap (4 * (k : Int)) = 4 * (k : Int) := IntWalk.i64_in _ (by omega)
      have q1 : IntKind.i64.wrap (4 * (k : Int) + 1) = 4 * (k : Int) + 1 := IntWalk.i64_in _ (by omega)
      have q2 : IntKind.i64.wrap (4 * (k : Int) + 2) = 4 * (k : Int) + 2 := IntWalk.i64_in _ (by omega)
      have q3 : IntKind.i64.wrap (4 * (k : Int) + 3) = 4 * (k : Int) + 3 := IntWalk.i64_in _ (by omega)
      iterate 30 (refine wpList_step (fun K hK => ?_); go_simp; refine hK _ _ ?_; clear hK K)
      refine wpList_nil ?_
      clear z0 z1 z2 z3 f0 f1 f2 f3 v0 v1 v2 v3 p0 p1 p2 p3 n0 n1 n2 n3 m0 m1 m2 m3 q0 q1 q2 q3
      generalize World.setCell V3 _ _ = V4 at HO4 HW4 HR4 HB4 ⊢
      rename_i K hK
      refine hK _ _ ?_
      go_wp2_with fail
      exact ⟨⟨k + 1, by omega, by simp, HW4.out, HR4.out, HO4.out, HB4.out⟩, by simp [intOf]; omega⟩
    · obtain rfl : k = 16 := by omega
      have hp : part64 f m 16 = sumC f m 16 := by unfold part64; simp
      rw [hp] at hO
      have hlen : (sumC f m 16).length = 64 := sumC_length _ _ 16
      have HR := Lib.hid hR; have HB := Lib.hid hB; have HO := Lib.hid hO
      clear hR hB hO hW hp
      go_upto_region 11 with fail
      refine wp_region_lit ?_
      refine load_bb rfl _ _ rfl B6 rfl HO.out Tryz.underlying206 rfl (by rw [hlen]; kernel_rfl) ?_
      refine store_bb rfl rfl _ _ _ rfl (w.heap.size + 1) rfl (l' := sumC f m 16) rfl HR.out (by rw [hlen]; rfl) (by rw [List.length_replicate]; kernel_rfl) ?_
      refine wpList_nil ?_
      have hF := HR.out.stored (sumC f m 16) (by rw [hlen]; rfl)
      have hBF := below_setCells (show w.heap.size ≤ w.heap.size + 1 by omega) (Lib.byteCells (sumC f m 16)) 0 _ HB.out
      generalize World.setCells wr _ _ _ = W at hF hBF ⊢
      rename_i K hK
      refine hK _ _ ?_
      refine wp_ret ?_
      refine bodyPost_ret (results_bb (p := 4) (T := 206) (by kernel_rfl) _ _ (w.heap.size + 1) rfl hF Tryz.underlying206 rfl (by rw [hlen]; kernel_rfl)) rfl ⟨by rw [EM.out], hBF⟩
end Go.Proofs.YthjlhcmdpeinpaaGreatDoor

/- The contracts of stream's Block and flow. -/
namespace Go.Proofs.YthjlhcmdpeinpaaGreatDoor
open Go.RowKit
set_option maxRecDepth 100000
theorem first_set (k nc : List UInt8) (n : BitVec 32) : (firstC k 0 nc).set 12 n = firstC k n nc := by rfl
theorem block_c (k nc : List UInt8) (n : BitVec 32) : sumC ((firstC k 0 nc).set 12 n) (roundsC ((firstC k 0 nc).set 12 n) 10) 16 = blockC k n nc := by rw [first_set]; rfl
theorem block_ok (k nc : List UInt8) (n : BitVec 32) (w : World) :
    Calls Tryz.prog 200 #[.agg (Wd (firstC k 0 nc)).toArray, .int .u32 (n.toNat : Int)] w fun e w' => e = .returned (.agg (Lib.byteCells (blockC k n nc)).toArray) ∧ Below w.heap.size w w' := by
  have := block_any (firstC k 0 nc) (firstC_length _ _ _) n w
  rw [block_c] at this
  exact this

/-- other bytes than a slice of the call's own -/
theorem Own.blkW {w : World} {base g n cap B : Nat} {l : List UInt8} {ws : List (BitVec 32)} (h : Own w base (.slice (some ⟨g, 0, none⟩) n cap) l) (hB : BlkW w B 245 ws) : g ≠ B := by
  rintro rfl
  rcases h.2 with ⟨e, -⟩ | ⟨g', cap', cur, e, -, hc, -⟩
  · cases e
  · cases e
    unfold BlkW at hB
    rw [hB] at hc
    simp at hc
theorem BlkW.grown {w w' : World} {B : Nat} {t : TypeId} {l : List (BitVec 32)} {row : Option Nat} (h : BlkW w B t l) (hg : w.grownBy w' row) (hne : some B ≠ row) : BlkW w' B t l := by
  unfold BlkW
  rw [hg.block B h.lt hne]; exact h
theorem Own.take {w : World} {base g n cap : Nat} {l : List UInt8} (h : Own w base (.slice (some ⟨g, 0, none⟩) n cap) l) (m : Nat) (hm : m ≤ l.length) : Own w base (.slice (some ⟨g, 0, none⟩) m cap) (l.take m) ∧ m ≤ cap ∧ l.length ≤ cap := by
  rcases h.2 with ⟨e, -⟩ | ⟨g', cap', cur, e, hb, hc, h1, h2, h3, h4⟩
  · cases e
  · cases e
    refine ⟨?_, by omega, h1⟩
    have hl : (l.take m).length = m := by rw [List.length_take]; omega
    unfold Own
    rw [hl]
    refine ⟨by rw [Lib.byteCells_length, hl, Nat.mul_one], .inr ⟨g, cap, cur, rfl, hb, hc, by omega, h2, h3, ?_⟩⟩
    rw [Nat.mul_one] at h4 ⊢
    have h5 := congrArg (List.take m) h4
    rw [List.take_take, Nat.min_eq_left hm] at h5
    rw [h5]
    simp [Lib.byteCells, List.map_take]
def FlR (n base B9 : Nat) (w : World) (k nc : List UInt8) (m : Nat) (v i : Value) (wr : World) : Prop :=
  ∃ j g cap : Nat, j ≤ m ∧ i = .int .i64 (j : Int) ∧ v = .slice (some ⟨g, 0, none⟩) (64 * j) cap ∧ Own wr base v (blocksC k nc j) ∧ BlkW wr B9 245 (firstC k 0 nc) ∧ Below n w wr
set_option maxHeartbeats 1000000 in
theorem flow_any (k nc : ByteArray) (hk : k.size = 32) (hn : nc.size = 12) (m : Nat) (hm : m ≤ 4096) (w : World) :
    Calls Tryz.prog 177 #[.string k, .string nc, .int .i64 (m : Int)] w fun e w' => ∃ g cap, e = .returned (.slice (some ⟨g, 0, none⟩) m cap) ∧ Own w' w.heap.size (.slice (some ⟨g, 0, none⟩) m cap) (streamC (bl k) (bl nc) m) ∧ Below w.heap.size w w' := by
  obtain ⟨b, hb⟩ : ∃ b, (m + 63) / 64 = b := ⟨_, rfl⟩
  have hq : Int.tdiv ((m : Int) + 64 - 1) 64 = (b : Int) := by rw [Int.tdiv_eq_ediv_of_nonneg (by omega)]; omega
  have hb64 : b ≤ 64 := by omega
  have HBg := Lib.hid (sBegin_any k nc hk hn)
  obtain ⟨M, hM, hmk⟩ := make_bytes .i64 .i64 0 (b * 64) (by omega) (by omega)
  go_enter Tryz.func177, Tryz.ntmps177
  have hmk2 : ∀ W : World, (Instr.makeSlice 94 (.int .i64 0) (.int .i64 ((b : Int) * 64))).run Tryz.prog W = .ok (.slice (some ⟨W.heap.size, 0, none⟩) 0 (b * 64)) (W.alloc (.cells M 5)) := fun W => by
    have := hmk W
    rw [show ((b * 64 : Nat) : Int) = (b : Int) * 64 by omega] at this
    exact this
  clear hmk
  go_upto_region 3 with fail
  have hO0 := Own.made w M w.heap.size 0 (b * 64) hM (Nat.le_refl _) (by omega) (by omega)
  have hB0 : Below w.heap.size w (w.alloc (.cells M 5)) := by go_grown
  clear hmk2 hM hq
  generalize World.alloc w _ = W0 at hO0 hB0 ⊢
  obtain ⟨g0, eg0⟩ : ∃ g0, w.heap.size = g0 := ⟨_, rfl⟩
  rw [eg0] at hB0 hO0
  have HO0 := Lib.hid hO0
  have HB0 := Lib.hid hB0
  have EG := Lib.hid eg0
  clear hO0 hB0
  simp only [eg0]
  clear eg0
  go_wp2_with fail
  refine (HBg.out _).mono ?_
  rintro e w1 ⟨rfl, hb1⟩
  have hO := HO0.out.onB hb1
  have hB : Below g0 w w1 := HB0.out.trans (hb1.mono (by have := HB0.out.size; rw [EG.out] at this; exact this))
  have hsz : g0 ≤ w1.heap.size := by have := hB.size; rw [EG.out] at this; exact this
  clear HB0 HO0 HBg hb1
  have HO := Lib.hid hO; have HB := Lib.hid hB
  clear hO hB
  have hFr : BlkW (w1.alloc (.cells (Wd (List.replicate 16 0)).toArray 245)) w1.heap.size 245 (List.replicate 16 0) := BlkW.fresh w1 _ _ _ rfl _ rfl
  have HFr := Lib.hid hFr
  clear hFr
  have hl16 := firstC_length (bl k) 0 (bl nc)
  have HL := Lib.hid hl16
  clear hl16
  go_upto_region 4 with (refine store_blk (by rfl) (by rfl) _ _ _ (by rfl) w1.heap.size (by rfl) (l' := firstC (bl k) 0 (bl nc)) (by rfl) HFr.out (by rw [HL.out]; rfl) (by kernel_rfl) ?_)
  have hS := HFr.out.stored (firstC (bl k) 0 (bl nc)) (by rw [HL.out]; rfl)
  have hbb : Below w1.heap.size w1 ((w1.alloc (.cells (Wd (List.replicate 16 0)).toArray 245)).setCells w1.heap.size 0 (Wd (firstC (bl k) 0 (bl nc)))) := below_setCells (Nat.le_refl _) _ _ _ ((Below.refl _ _).alloc (Nat.le_refl _) _)
  have hO := HO.out.onB hbb
  have hB := HB.out.trans (hbb.mono hsz)
  change Code.wp Tryz.prog _ _ _ ((w1.alloc (.cells (Wd (List.replicate 16 0)).toArray 245)).setCells w1.heap.size 0 (Wd (firstC (bl k) 0 (bl nc))))
  clear HFr HB HO hbb
  generalize World.setCells (World.alloc w1 _) _ _ _ = W at hS hO hB ⊢
  obtain ⟨B9, eB⟩ : ∃ B9, w1.heap.size = B9 := ⟨_, rfl⟩
  rw [eB] at hS hsz
  simp only [eB]
  have HO := Lib.hid hO; have HB := Lib.hid hB; have HS := Lib.hid hS
  clear hO hB hS eB
  go_wp2_with fail
  go_loopw [8, 23] (FlR g0 g0 B9 w (bl k) (bl nc) b) (fun _ i _ => b - (intOf i).toNat)
  case atStart => exact ⟨0, g0, b * 64, by omega, rfl, rfl, HO.out, HS.out, HB.out⟩
  case round =>
    clear HO HB HS
    obtain ⟨j, g, cap, hj, rfl, rfl, hO, hS, hB⟩ := hrel
    by_cases hlt : j < b
    · have h1 : (j : Int) < (b : Int) := by omega
      have hsz' : g0 ≤ wr.heap.size := by have := hB.size; rw [EG.out] at this; exact this
      have hcv : (j : Int) + 1 = ((BitVec.ofNat 32 (j + 1)).toNat : Int) := by
        rw [BitVec.toNat_ofNat]; omega
      have HCV := Lib.hid hcv
      clear hcv
      have HBl := Lib.hid (block_ok (bl k) (bl nc) (BitVec.ofNat 32 (j + 1)))
      obtain ⟨r, er⟩ : ∃ r, blockC (bl k) (BitVec.ofNat 32 (j + 1)) (bl nc) = r := ⟨_, rfl⟩
      have hlr : r.length = 64 := by rw [← er]; exact blockC_length _ _ _
      rw [er] at HBl
      have ER := Lib.hid er; have HLR := Lib.hid hlr
      have HO := Lib.hid hO; have HB := Lib.hid hB; have HS := Lib.hid hS
      clear hO hB hS er hlr
      go_upto_region 7 with fail
      refine wp_region_lit ?_
      refine load_blk rfl _ _ rfl B9 rfl HS.out Tryz.underlying245 rfl (by rw [HL.out]; kernel_rfl) ?_
      go_wp2_with fail
      rw [HCV.out]
      refine (HBl.out _).mono ?_
      rintro e w2 ⟨rfl, hb2⟩
      have hO := HO.out.onB hb2
      have hS := HS.out.on hb2
      have hB := HB.out.trans (hb2.mono hsz')
      have hsz2 : g0 ≤ w2.heap.size := Nat.le_trans hsz' hb2.size
      clear HO HS HB HBl hb2 hsz' HCV
      have HO := Lib.hid hO; have HB := Lib.hid hB; have HS := Lib.hid hS
      clear hO hB hS
      have hFr : BlkB (w2.alloc (.cells (Lib.byteCells (List.replicate 64 0)).toArray 206)) w2.heap.size 206 (List.replicate 64 0) := BlkB.fresh w2 _ _ _ rfl _ rfl
      have HFr := Lib.hid hFr
      clear hFr
      go_upto_region 8 with (refine store_bb (by rfl) (by rfl) _ _ _ (by rfl) w2.heap.size (by rfl) (l' := r) (by rfl) HFr.out (by rw [HLR.out]; rfl) (by kernel_rfl) ?_)
      have hT := HFr.out.stored r (by rw [HLR.out]; rfl)
      have hbb : Below w2.heap.size w2 ((w2.alloc (.cells (Lib.byteCells (List.replicate 64 0)).toArray 206)).setCells w2.heap.size 0 (Lib.byteCells r)) := below_setCells (Nat.le_refl _) _ _ _ ((Below.refl _ _).alloc (Nat.le_refl _) _)
      have hO := HO.out.onB hbb
      have hS := HS.out.on hbb
      have hB := HB.out.trans (hbb.mono hsz2)
      change Code.wp Tryz.prog _ _ _ ((w2.alloc (.cells (Lib.byteCells (List.replicate 64 0)).toArray 206)).setCells w2.heap.size 0 (Lib.byteCells r))
      clear HFr HB HO HS hbb
      generalize World.setCells (World.alloc w2 _) _ _ _ = W4 at hT hO hS hB ⊢
      generalize w2.heap.size = B11 at hT ⊢ hsz2
      have hne := hO.blkW hS
      have hsz4 : g0 ≤ W4.heap.size := by have := hB.size; rw [EG.out] at this; exact this
      have hcell : ∀ i y, r[i]? = some y → W4.cell? ⟨B11, i, none⟩ = some (.int .u8 (y.toNat : Int)) := by
        intro i y hi
        have hil : i < r.length := (List.getElem?_eq_some_iff.1 hi).1
        rw [hT.cell i hil]
        simp [List.getD, hi]
      have HO := Lib.hid hO; have HB := Lib.hid hB; have HS := Lib.hid hS; have HC := Lib.hid hcell
      clear hO hB hS hT hcell
      refine wp_region_lit ?_
      iterate 2 (refine wpList_step (fun K hK => ?_); go_simp; refine hK _ _ ?_; clear hK K)
      refine append_bytes rfl _ _ rfl g0 (.slice (some ⟨g, 0, none⟩) (64 * j) cap) (blocksC (bl k) (bl nc) j) r B11 rfl HO.out 64 rfl HLR.out.symm (by omega) HC.out (by rw [blocksC_length]; omega) hsz4 ?_
      intro g' cap' W5 hO5 hgr
      have hS5 := HS.out.grown hgr (by simp [Value.ownBlock]; exact fun h => hne h.symm)
      have hB5 : Below g0 w W5 := HB.out.grown hgr hsz4 (fun i hi => (World.ownsRow.lt HO.out i hi).1)
      have hlb := blocksC_length (bl k) (bl nc) j
      have hnx : blocksC (bl k) (bl nc) (j + 1) = blocksC (bl k) (bl nc) j ++ r := by rw [← ER.out]; rfl
      rw [← hnx] at hO5
      rw [hlb, show 64 * j + 64 = 64 * (j + 1) by omega] at hO5 ⊢
      have HO5 := Lib.hid hO5; have HB5 := Lib.hid hB5; have HS5 := Lib.hid hS5
      clear HO HB HS HC hO5 hB5 hS5 hgr hlb hnx ER hne
      go_wp2_with fail
      exact ⟨⟨j + 1, g', cap', by omega, by simp, rfl, HO5.out, HS5.out, HB5.out⟩, by simp [intOf]; omega⟩
    · obtain rfl : j = b := by omega
      have hmb : m ≤ (blocksC (bl k) (bl nc) j).length := by rw [blocksC_length]; omega
      obtain ⟨hT, hc1, hc2⟩ := hO.take m hmb
      rw [show (blocksC (bl k) (bl nc) j).take m = streamC (bl k) (bl nc) m from streamC_of _ _ m j (by omega)] at hT
      have h2 : (m : Int) ≤ (cap : Int) := by omega
      have HT := Lib.hid hT; have HB := Lib.hid hB
      clear hT hB hO hS
      go_wp2_with fail
      go_ret
      exact ⟨g, cap, rfl, by rw [EG.out]; exact HT.out, by rw [EG.out]; exact HB.out⟩
end Go.Proofs.YthjlhcmdpeinpaaGreatDoor

/- The contracts of stream's Stream and Xor. -/
namespace Go.Proofs.YthjlhcmdpeinpaaGreatDoor
open Go.RowKit
set_option maxRecDepth 100000
theorem Own.cell {w : World} {base G n cap : Nat} {l : List UInt8} (h : Own w base (.slice (some ⟨G, 0, none⟩) n cap) l) (hn : n = l.length) (j : Nat) (hj : j < l.length) : w.cell? ⟨G, j, none⟩ = some (.int .u8 ((l.getD j 0).toNat : Int)) := by
  subst hn
  have := World.ownsRow.cellAt h j (by omega)
  rw [this]
  simp [List.getD, hj, Lib.byteCells]
theorem Own.frozen {w : World} {base g n cap : Nat} {l : List UInt8} (h : Own w base (.slice (some ⟨g, 0, none⟩) n cap) l) (i : Nat) : w.frozen? ⟨g, i, none⟩ = false := by
  rcases h.2 with ⟨e, -⟩ | ⟨g', cap', cur, e, -, hc, -⟩
  · cases e
  · cases e; exact frozen_of_row _ _ _ _ _ hc
theorem Own.set {w : World} {base g n cap : Nat} {l : List UInt8} (h : Own w base (.slice (some ⟨g, 0, none⟩) n cap) l) (i : Nat) (_hi : i < l.length) (x : UInt8) : Own (w.setCell ⟨g, i, none⟩ (.int .u8 (x.toNat : Int))) base (.slice (some ⟨g, 0, none⟩) n cap) (l.set i x) := by
  unfold Own at *
  rw [List.length_set]
  refine ⟨by simp [Lib.byteCells], ?_⟩
  rcases h.2 with ⟨e, -⟩ | ⟨g', cap', cur, e, hb, hc, h1, h2, h3, h4⟩
  · cases e
  · cases e
    refine Or.inr ⟨g, cap, cur.setIfInBounds i (.int .u8 (x.toNat : Int)), rfl, hb, heap_setCell_same w g i _ _ _ hc, h1, h2, by simpa using h3, ?_⟩
    rw [Array.toList_setIfInBounds, List.take_set, h4]
    simp [Lib.byteCells, List.map_set]
theorem Own.base {w : World} {base g n cap : Nat} {l : List UInt8} (h : Own w base (.slice (some ⟨g, 0, none⟩) n cap) l) : base ≤ g := by
  rcases h.2 with ⟨e, -⟩ | ⟨g', cap', cur, e, hb, -⟩
  · cases e
  · cases e; exact hb
/-- the first k bytes turned -/
def xorK (s t : List UInt8) (k : Nat) : List UInt8 := (xorB s t).take k ++ t.drop k
theorem xorK_length (s t : List UInt8) (h : s.length = t.length) (k : Nat) : (xorK s t k).length = t.length := by
  unfold xorK
  rw [List.length_append, List.length_take, List.length_drop, xorB_length s t (by omega)]; omega
theorem xorK_get (s t : List UInt8) (h : s.length = t.length) (k : Nat) (hk : k < t.length) : (xorK s t k).getD k 0 = t.getD k 0 := by
  unfold xorK
  have hl : ((xorB s t).take k).length = k := by rw [List.length_take, xorB_length s t (by omega)]; omega
  rw [List.getD_eq_getElem?_getD, List.getD_eq_getElem?_getD, List.getElem?_append_right (by omega), hl, Nat.sub_self, List.getElem?_drop, Nat.add_zero]
theorem xorK_set (s t : List UInt8) (h : s.length = t.length) (k : Nat) (hk : k < t.length) : (xorK s t k).set k (t.getD k 0 ^^^ s.getD k 0) = xorK s t (k + 1) := by
  have hl : ((xorB s t).take k).length = k := by rw [List.length_take, xorB_length s t (by omega)]; omega
  have hx : (xorB s t).length = t.length := by rw [xorB_length s t (by omega)]; exact h
  have hg : (xorB s t)[k]'(by omega) = t.getD k 0 ^^^ s.getD k 0 := by
    unfold xorB
    rw [List.getElem_zipWith, UInt8.xor_comm]
    simp [List.getD, hk, show k < s.length by omega]
  unfold xorK
  rw [List.set_append_right _ _ (by omega), hl, Nat.sub_self, List.drop_eq_getElem_cons hk, List.set_cons_zero, ← hg, List.take_succ_eq_append_getElem (show k < (xorB s t).length by omega), List.append_assoc]
  rfl

def XoR (n base g m cap : Nat) (w : World) (s t : List UInt8) (i : Value) (wr : World) : Prop :=
  ∃ k : Nat, k ≤ m ∧ i = .int .i64 (k : Int) ∧ Own wr base (.slice (some ⟨g, 0, none⟩) m cap) (xorK s t k) ∧ Below n w wr
set_option maxHeartbeats 1000000 in
theorem Xor_any (k nc x : ByteArray) (hk : k.size = 32) (hn : nc.size = 12) (hx : x.size ≤ 4096) (w : World) :
    Calls Tryz.prog 148 #[.string k, .string nc, .string x] w fun e w' => e = .returned (.tuple #[.string (strL (xorC (bl k) (bl nc) (bl x))), .int .i64 0]) ∧ Below w.heap.size w w' := by
  have hf := fit_any k nc w
  rw [decide_eq_true ⟨hk, hn⟩] at hf
  have HF := Lib.hid hf
  have HFl := Lib.hid (flow_any k nc hk hn x.size hx)
  have h1 : ¬ (4096 : Int) < (x.size : Int) := by omega
  clear hf
  go_enter Tryz.func148, Tryz.ntmps148
  go_wp2_with fail
  refine HF.out.mono ?_
  rintro e w' ⟨rfl, rfl⟩
  go_wp2_with fail
  refine (HFl.out _).mono ?_
  rintro e w1 ⟨g, cap, rfl, hO, hB⟩
  obtain ⟨t, et⟩ : ∃ t, streamC (bl k) (bl nc) x.size = t := ⟨_, rfl⟩
  have hlt : t.length = x.size := by rw [← et]; exact streamC_length _ _ _
  rw [et] at hO
  have hlx : (bl x).length = t.length := by rw [hlt]; rfl
  have hxor : xorC (bl k) (bl nc) (bl x) = xorB (bl x) t := by rw [← et]; rfl
  have HX := Lib.hid hxor
  have HB := Lib.hid hB
  have HO := Lib.hid hO
  have HLT := Lib.hid hlt
  have HLX := Lib.hid hlx
  have hsz := hB.size
  have hgb := hO.base
  clear hO hB HF HFl et hxor hlt hlx
  go_wp2_with fail
  go_loopw [26] (XoR w.heap.size w.heap.size g x.size cap w (bl x) t) (fun i _ => x.size - (intOf i).toNat)
  case atStart => exact ⟨0, by omega, rfl, by have := HO.out; unfold xorK; simpa using this, HB.out⟩
  case round =>
    clear HO HB
    obtain ⟨j, hj, rfl, hO, hB⟩ := hrel
    by_cases hlt : j < x.size
    · have h2 : (j : Int) < (x.size : Int) := by omega
      have hll := xorK_length (bl x) t HLX.out j
      have c1 := hO.cell (by rw [hll, HLT.out]) j (by rw [hll, HLT.out]; exact hlt)
      rw [xorK_get _ _ HLX.out j (by rw [HLT.out]; exact hlt)] at c1
      have hstr := fun W => str_index x (j : Int) j rfl hlt W
      have hbx : (bl x).getD j 0 = x[j] := bl_get x j hlt
      obtain ⟨a, ea⟩ : ∃ a, t.getD j 0 = a := ⟨_, rfl⟩
      obtain ⟨b, eb⟩ : ∃ b, x[j] = b := ⟨_, rfl⟩
      rw [ea] at c1
      simp only [eb] at hstr hbx
      have hst := xorK_set (bl x) t HLX.out j (by rw [HLT.out]; exact hlt)
      rw [ea, hbx] at hst
      have hx8 := bits_xor8 a b
      generalize a ^^^ b = y at hst hx8
      have HST := Lib.hid hst
      have HO := Lib.hid hO; have HB := Lib.hid hB
      clear hO hB hll hst ea eb hbx
      go_wp2_with fail
      refine wp_region_last_drewN 9 _ (by kernel_rfl) rfl rfl rfl rfl (by kernel_rfl) (by kernel_rfl) ?_
      simp only [List.take_succ_cons, List.take_zero]
      iterate 9 (quiet_step (fail))
      refine wpQuiet_nil ?_
      intro _ hw'
      obtain ⟨nq, hw''⟩ := hw'
      subst hw''
      have hO1 : Own (wr.drewN nq) w.heap.size (.slice (some ⟨g, 0, none⟩) x.size cap) (xorK (bl x) t j) := HO.out
      have hb1 := below_drewN HB.out nq
      have c2 : (wr.drewN nq).cell? ⟨g, j, none⟩ = some (.int .u8 (a.toNat : Int)) := c1
      clear HO HB c1 hstr
      generalize wr.drewN nq = W at hO1 hb1 c2 ⊢
      have z2 := hO1.frozen j
      have hS := hO1.set j (by rw [xorK_length _ _ HLX.out, HLT.out]; exact hlt) y
      rw [HST.out] at hS
      have hbS := hb1.setCell (p := ⟨g, j, none⟩) hgb (.int .u8 (y.toNat : Int))
      have HS := Lib.hid hS; have HB := Lib.hid hbS
      clear hO1 hb1 hS hbS
      go_wp2_with fail
      exact ⟨⟨j + 1, by omega, by simp, HS.out, HB.out⟩, by simp [intOf]; omega⟩
    · obtain rfl : j = x.size := by omega
      have hfin : xorK (bl x) t x.size = xorB (bl x) t := by
        unfold xorK
        rw [List.take_of_length_le (by rw [xorB_length _ _ (by rw [HLX.out]; exact Nat.le_refl _)]; exact Nat.le_refl _), List.drop_eq_nil_of_le (by rw [HLT.out]; exact Nat.le_refl _), List.append_nil]
      rw [hfin] at hO
      have ht := hO.text (by rw [xorB_length _ _ (by rw [HLX.out]; exact Nat.le_refl _)]; rfl)
      have HB := Lib.hid hB
      clear hO hB hfin
      go_wp2_with fail
      go_ret2
      exact ⟨by rw [HX.out]; rfl, HB.out⟩
end Go.Proofs.YthjlhcmdpeinpaaGreatDoor

/- Structs of two cells in memory; more of rows of the call's own. -/
namespace Go.Proofs.YthjlhcmdpeinpaaGreatDoor
open Go.RowKit
set_option maxRecDepth 100000
theorem store2 {w : World} {B : Nat} {a b : Value} {t : TypeId} (h : w.heap[B]? = some (.cells #[a, b] t (0, 0))) (x y : Value) :
    ((w.setCell ⟨B, 0, none⟩ x).setCell ⟨B, 1, none⟩ y).heap[B]? = some (.cells #[x, y] t (0, 0)) := by
  have h1 := heap_setCell_same w B 0 _ t x h
  have h2 := heap_setCell_same _ B 1 _ t y h1
  rw [h2]
  simp
theorem below2 {w0 w : World} {n B : Nat} (h : Below n w0 w) (hB : n ≤ B) (a b : Value) : Below n w0 ((w.setCell ⟨B, 0, none⟩ a).setCell ⟨B, 1, none⟩ b) :=
  (h.setCell (p := ⟨B, 0, none⟩) hB a).setCell (p := ⟨B, 1, none⟩) hB b
theorem OwnS.form {w : World} {base : Nat} {v : Value} {l : List ByteArray} (h : OwnS w base v l) : ∃ a c, v = .slice a l.length c ∧ l.length ≤ c ∧ (0 < l.length → ∃ g, a = some ⟨g, 0, none⟩) := by
  rcases h.2 with ⟨e, h0⟩ | ⟨g, cap, cur, e, -, -, hc, -⟩
  · exact ⟨none, 0, by rw [e, h0], by omega, fun h => by omega⟩
  · exact ⟨_, _, e, hc, fun _ => ⟨g, rfl⟩⟩
end Go.Proofs.YthjlhcmdpeinpaaGreatDoor
