/- The texts Dread, Kb, Kc, Dtell, Dpad, one behind the other. -/
import Derived.Test.YtdnjieffbgmagaaDoorBg2
import Derived.Test.YtdnjieffbgmagaaDoorBg1
import Derived.Laws.IdiomCopy
import Derived.Laws.BytesArg
import Derived.Deep.RegionHeld3
import Derived.Deep.RegionWith
import Derived.Test.YtdnjieffbgmagaaDoorRows
import Derived.Lib.Strings
import Derived.Lib.Walk
import Derived.Lib.BufferWrite
import Derived.Lib.UnsafeStr
import Derived.Laws.MakeOwn
import Derived.Deep.AppendLies
import Derived.Laws.OwnMore
/- The contracts of digest's read, list, mixedAll. -/
namespace Go.Proofs.YtdnjieffbgmagaaDoor
open Go.RowKit
theorem KeysAt.apart {w : World} (h : KeysAt w) (b o : Nat) (vs : List Value) (hne : 2 ≠ b) : KeysAt (w.setCells b o vs) := by
  intro i hi
  rw [World.cell?_setCells_out b vs o w ⟨2, i, none⟩ (fun e _ => absurd e hne)]
  exact h i hi
set_option maxRecDepth 100000 in
set_option maxHeartbeats 400000 in
theorem list_any (s : S8) (w : World) :
    Calls Tryd.prog 101 #[.agg (Wd s.l).toArray] w fun e w' => e = .returned (.slice (some ⟨w.heap.size, 0, none⟩) 8 8) ∧ BlkW w' w.heap.size 144 s.l ∧ Below w.heap.size w w' := by
  go_enter Tryd.func101, Tryd.ntmps101
  go_wp2_with fail
  go_ret
  exact ⟨rfl, BlkW.fresh _ _ _ _ rfl _ rfl, by go_grown⟩

set_option maxRecDepth 100000 in
set_option maxHeartbeats 400000 in
theorem read_list (v : Value) (l : List (BitVec 32)) (hl : l.length = 8) (w : World) (hv : WsAt w v l) :
    Calls Tryd.prog 97 #[v] w fun e w' => e = .returned (.agg (Wd l).toArray) ∧ Below w.heap.size w w' := by
  go_enter Tryd.func97, Tryd.ntmps97
  go_upto_region 2 with fail
  have hR : BlkW ((w.alloc (.cells (Wd (List.replicate 8 0)).toArray 144)).alloc (.cells (Wd (List.replicate 8 0)).toArray 144)) w.heap.size 144 (List.replicate 8 0) := (BlkW.fresh _ _ _ _ rfl _ rfl).alloc _
  have hT : BlkW ((w.alloc (.cells (Wd (List.replicate 8 0)).toArray 144)).alloc (.cells (Wd (List.replicate 8 0)).toArray 144)) (w.heap.size + 1) 144 (List.replicate 8 0) := BlkW.fresh _ _ _ _ rfl _ (by simp)
  have hB : Below w.heap.size w ((w.alloc (.cells (Wd (List.replicate 8 0)).toArray 144)).alloc (.cells (Wd (List.replicate 8 0)).toArray 144)) := by go_grown
  change Code.wp Tryd.prog _ _ _ ((w.alloc (.cells (Wd (List.replicate 8 0)).toArray 144)).alloc (.cells (Wd (List.replicate 8 0)).toArray 144))
  have HV := Lib.hid (hv.on hB)
  have hB2 := below_setCells (show w.heap.size ≤ w.heap.size + 1 by omega) (Wd l) 0 _ hB
  have hR2 : BlkW _ w.heap.size _ _ := hR.below (n := w.heap.size + 1) (below_setCells (Nat.le_refl _) (Wd l) 0 _ (Below.refl _ _)) (by omega)
  have hT2 := hT.stored l (by rw [hl]; rfl)
  have HR := Lib.hid hR; have HT := Lib.hid hT; have HR2 := Lib.hid hR2; have HT2 := Lib.hid hT2; have HL := Lib.hid hl
  clear hR hT hR2 hT2 hv hl
  generalize World.alloc (World.alloc w _) _ = W at HV HR HT HR2 HT2 hB hB2 ⊢
  go_upto_region 3 with (refine copy_blk (by rfl) (.tmp 4) (.tmp 5) 47 47 (by rfl) 92 Tryd.underlying47 (by kernel_rfl) (w.heap.size + 1) 8 8 v (by rfl) (by rfl) (l' := l) HT.out HV.out (by rw [HL.out]; simp) (by simp) ?_)
  clear HV HR HT hB
  generalize World.setCells W _ _ _ = V at HR2 HT2 hB2 ⊢
  have hR2 := HR2.out
  have hst := hR2.stored l (by rw [HL.out]; rfl)
  have hbs := below_setCells (Nat.le_refl w.heap.size) (Wd l) 0 V hB2
  have HT := Lib.hid hst; have HD := Lib.hid hbs
  clear hst hbs hB2 hR2
  refine wp_region_lit ?_
  refine load_blk rfl _ _ rfl (w.heap.size + 1) rfl HT2.out Tryd.underlying144 rfl (by rw [HL.out]; kernel_rfl) ?_
  refine store_blk rfl rfl _ _ _ rfl w.heap.size rfl (l' := l) rfl HR2.out (by rw [HL.out]; simp) (by rw [List.length_replicate]; kernel_rfl) ?_
  refine wpList_nil ?_
  generalize World.setCells V _ _ _ = V' at HT HD ⊢
  rename_i K hK
  refine hK _ _ ?_
  refine wp_ret ?_
  refine bodyPost_ret (results_blk (p := 2) (T := 144) (by kernel_rfl) _ _ w.heap.size rfl HT.out Tryd.underlying144 rfl (by rw [HL.out]; kernel_rfl)) rfl ⟨rfl, HD.out⟩
theorem read_any (v : Value) (s : S8) (w : World) (hv : WsAt w v s.l) :
    Calls Tryd.prog 97 #[v] w fun e w' => e = .returned (.agg (Wd s.l).toArray) ∧ Below w.heap.size w w' := read_list v s.l rfl w hv

/-- the eight cells of a block of words -/
theorem BlkW.eight {w : World} {B : Nat} {t : TypeId} {s : S8} (h : BlkW w B t s.l) :
    (w.cell? ⟨B, 0, none⟩ = some (.int .u32 (s.a.toNat : Int)) ∧ w.cell? ⟨B, 1, none⟩ = some (.int .u32 (s.b.toNat : Int)) ∧ w.cell? ⟨B, 2, none⟩ = some (.int .u32 (s.c.toNat : Int)) ∧ w.cell? ⟨B, 3, none⟩ = some (.int .u32 (s.d.toNat : Int)) ∧ w.cell? ⟨B, 4, none⟩ = some (.int .u32 (s.e.toNat : Int)) ∧ w.cell? ⟨B, 5, none⟩ = some (.int .u32 (s.f.toNat : Int)) ∧ w.cell? ⟨B, 6, none⟩ = some (.int .u32 (s.g.toNat : Int)) ∧ w.cell? ⟨B, 7, none⟩ = some (.int .u32 (s.h.toNat : Int))) ∧
    (w.frozen? ⟨B, 0, none⟩ = false ∧ w.frozen? ⟨B, 1, none⟩ = false ∧ w.frozen? ⟨B, 2, none⟩ = false ∧ w.frozen? ⟨B, 3, none⟩ = false ∧ w.frozen? ⟨B, 4, none⟩ = false ∧ w.frozen? ⟨B, 5, none⟩ = false ∧ w.frozen? ⟨B, 6, none⟩ = false ∧ w.frozen? ⟨B, 7, none⟩ = false) :=
  ⟨⟨h.cell 0 (by show _ < 8; omega), h.cell 1 (by show _ < 8; omega), h.cell 2 (by show _ < 8; omega), h.cell 3 (by show _ < 8; omega), h.cell 4 (by show _ < 8; omega), h.cell 5 (by show _ < 8; omega), h.cell 6 (by show _ < 8; omega), h.cell 7 (by show _ < 8; omega)⟩,
   ⟨h.frozen 0, h.frozen 1, h.frozen 2, h.frozen 3, h.frozen 4, h.frozen 5, h.frozen 6, h.frozen 7⟩⟩
theorem mixed_lit (a b c d e f g h : BitVec 32) (v : S8) (x : ByteArray) (hx : x.size = 64) (hv : mixS ⟨a, b, c, d, e, f, g, h⟩ (bl x) = v) (w : World) (hK : KeysAt w) :
    Calls Tryd.prog 104 #[.agg #[.int .u32 (a.toNat : Int), .int .u32 (b.toNat : Int), .int .u32 (c.toNat : Int), .int .u32 (d.toNat : Int), .int .u32 (e.toNat : Int), .int .u32 (f.toNat : Int), .int .u32 (g.toNat : Int), .int .u32 (h.toNat : Int)], .string x] w fun e' w' =>
      e' = .returned (.agg #[.int .u32 (v.a.toNat : Int), .int .u32 (v.b.toNat : Int), .int .u32 (v.c.toNat : Int), .int .u32 (v.d.toNat : Int), .int .u32 (v.e.toNat : Int), .int .u32 (v.f.toNat : Int), .int .u32 (v.g.toNat : Int), .int .u32 (v.h.toNat : Int)]) ∧ Below w.heap.size w w' := by
  subst hv
  exact mixed_any ⟨a, b, c, d, e, f, g, h⟩ x hx w hK
theorem results_blk_tmp {P : Program} {fn : Func} {p q : Tmp} {T : TypeId} (h : fn.results = #[.cell p T, .tmp q]) (tmps : Array Value) (w : World) (B : Nat) {t : TypeId} {l : List (BitVec 32)} {d : TypeDesc}
    (hp : tmps.getD p undef = .pointer (some ⟨B, 0, none⟩)) (hb : BlkW w B t l) (hu : P.underlying T = some d) (hd : d.isRow = true) (hi : (P.info? T).map (·.size) = some l.length) :
    (results fn tmps).run P w = .ok (.tuple #[.agg (Wd l).toArray, tmps.getD q undef]) w := by
  have hp' : tmps[p]?.getD undef = .pointer (some ⟨B, 0, none⟩) := by simpa using hp
  simp [results, h, hp', asAddr, run_loadVar_row w B t T _ (0, 0) d hb hu (by cases d <;> simp_all) (by rw [List.size_toArray, Wd_length]; exact hi)]
def AllRel (w : World) (s : S8) (b : List UInt8) (v : Value) (wr : World) : Prop :=
  ∃ (x : ByteArray) (u : S8), v = .string x ∧ mixAll u (bl x) = mixAll s b ∧ restOf (bl x) = restOf b ∧ x.size ≤ maxLen ∧ BlkW wr w.heap.size 144 u.l ∧ BlkW wr (w.heap.size + 1) 144 (List.replicate 8 0) ∧ KeysAt wr ∧ Below w.heap.size w wr
set_option maxRecDepth 100000 in
set_option maxHeartbeats 1000000 in
theorem mixedAll_any (s : S8) (x : ByteArray) (hx : x.size ≤ maxLen) (w : World) (hK : KeysAt w) :
    Calls Tryd.prog 98 #[.agg (Wd s.l).toArray, .string x] w fun e w' => ∃ y : ByteArray, e = .returned (.tuple #[.agg (Wd (mixAll s (bl x)).l).toArray, .string y]) ∧ bl y = restOf (bl x) ∧ Below w.heap.size w w' := by
  go_enter Tryd.func98, Tryd.ntmps98
  go_wp2_with fail
  have hS : BlkW ((w.alloc (.cells (Wd s.l).toArray 144)).alloc (.cells #[.int .u32 0, .int .u32 0, .int .u32 0, .int .u32 0, .int .u32 0, .int .u32 0, .int .u32 0, .int .u32 0] 144)) w.heap.size 144 s.l := (BlkW.fresh _ _ _ _ rfl _ rfl).alloc _
  have hR : BlkW ((w.alloc (.cells (Wd s.l).toArray 144)).alloc (.cells #[.int .u32 0, .int .u32 0, .int .u32 0, .int .u32 0, .int .u32 0, .int .u32 0, .int .u32 0, .int .u32 0] 144)) (w.heap.size + 1) 144 (List.replicate 8 0) := BlkW.fresh _ _ _ _ (by rfl) _ (by simp)
  have hB : Below w.heap.size w ((w.alloc (.cells (Wd s.l).toArray 144)).alloc (.cells #[.int .u32 0, .int .u32 0, .int .u32 0, .int .u32 0, .int .u32 0, .int .u32 0, .int .u32 0, .int .u32 0] 144)) := by go_grown
  generalize World.alloc (World.alloc w _) _ = W0 at hS hR hB ⊢
  have hle := hK.lt
  replace hK : KeysAt W0 := hK.on hB
  go_loopw [1] (AllRel w s (bl x)) (fun v _ => sizeOfStr v)
  case atStart => exact ⟨x, s, rfl, rfl, rfl, hx, hS, hR, hK, hB⟩
  case round =>
    clear hS hR hK hB
    obtain ⟨y, u, rfl, hm, hr, hy, hS, hR, hK, hB⟩ := hrel
    have hle1 := hK.lt
    unfold maxLen at hy
    by_cases hlt : 64 ≤ y.size
    · have h1 : (64 : Int) ≤ (y.size : Int) := by omega
      have hg : decide ((64 : Int) ≤ (y.size : Int)) = true := by simpa using h1
      have h64 : (y.extract 0 64).size = 64 := by rw [ByteArray.size_extract]; omega
      obtain ⟨v, hv⟩ : ∃ v, mixS u (bl (y.extract 0 64)) = v := ⟨_, rfl⟩
      have hcall := mixed_lit u.a u.b u.c u.d u.e u.f u.g u.h v (y.extract 0 64) h64 hv
      have hsz := hR.lt
      obtain ⟨⟨c0, c1, c2, c3, c4, c5, c6, c7⟩, ⟨f0, f1, f2, f3, f4, f5, f6, f7⟩⟩ := hS.eight
      have HC := Lib.hid hcall
      have HS := Lib.hid hS; have HR := Lib.hid hR; have HK := Lib.hid hK; have HV := Lib.hid hv
      clear hcall hv hS hR hK h64
      go_wp2_with fail
      go_region_with ((go_at_call 104; refine (HC.out _ ?_).mono ?_; exact HK.out; rintro e w' ⟨rfl, hb⟩; have hS' : BlkW w' w.heap.size 144 u.l := (by refine BlkW.on ?_ hb; exact HS.out); obtain ⟨⟨d0, d1, d2, d3, d4, d5, d6, d7⟩, ⟨g0, g1, g2, g3, g4, g5, g6, g7⟩⟩ := hS'.eight; have hlt' := hS'.lt; have HS' := Lib.hid hS'; clear hS'))
      all_goals
        have hR' : BlkW w' (w.heap.size + 1) 144 (List.replicate 8 0) := by refine BlkW.on ?_ hb; exact HR.out
        have hK' : KeysAt w' := by refine KeysAt.on ?_ hb; exact HK.out
        have hB' : Below w.heap.size w w' := by
          refine Below.trans (below_drewN hB 1) (Below.mono hb ?_)
          simp; omega
        have hst := HS'.out.stored v.l rfl
        have hr' := hR'.apart w.heap.size 0 (Wd v.l) (by omega)
        have hk' := hK'.apart w.heap.size 0 (Wd v.l) (by omega)
        have hb' := below_setCells (Nat.le_refl w.heap.size) (Wd v.l) 0 w' hB'
        have HQ : Hid (BlkW (w'.setCells w.heap.size 0 (Wd v.l)) w.heap.size 144 v.l ∧ BlkW (w'.setCells w.heap.size 0 (Wd v.l)) (w.heap.size + 1) 144 (List.replicate 8 0) ∧ KeysAt (w'.setCells w.heap.size 0 (Wd v.l)) ∧ Below w.heap.size w (w'.setCells w.heap.size 0 (Wd v.l))) := ⟨hst, hr', hk', hb'⟩
        clear hst hr' hk' hb' hR' hK' hB' hb HS' HS HR HK HC
        go_wp2_with fail
        have q1 : bl (y.extract 0 64) = (bl y).take 64 := by rw [bl_extract]; rfl
        have q2 : bl (y.extract 64 y.size) = (bl y).drop 64 := by rw [bl_extract, List.take_of_length_le (by rw [bl_length]; exact Nat.le_refl _)]
        refine ⟨⟨_, _, _, _, _, _, _, _, _, _, ⟨y.extract 64 y.size, v, rfl, ?_, ?_, ?_, HQ.out.1, HQ.out.2.1, HQ.out.2.2.1, HQ.out.2.2.2⟩, rfl⟩, ?_⟩
        · rw [q2, ← HV.out, q1, ← mixAll_step u (bl y) (by rw [bl_length]; exact hlt)]; exact hm
        · rw [q2, ← restOf_step (bl y) (by rw [bl_length]; exact hlt)]; exact hr
        · rw [ByteArray.size_extract]; unfold maxLen; omega
        · show (y.extract 64 y.size).size < y.size
          rw [ByteArray.size_extract]; omega
    · have h1 : ¬ (64 : Int) ≤ (y.size : Int) := by omega
      have hg : decide ((64 : Int) ≤ (y.size : Int)) = false := by simpa using h1
      have hlen : (bl y).length < 64 := by rw [bl_length]; omega
      rw [mixAll_end u (bl y) hlen] at hm
      rw [restOf_end (bl y) hlen] at hr
      obtain ⟨l, hl⟩ : ∃ l, u.l = l := ⟨_, rfl⟩
      have hl8 : l.length = 8 := by rw [← hl]; rfl
      rw [hl] at hS
      have hst := hR.stored l (by rw [hl8]; rfl)
      have hbs := below_setCells (show w.heap.size ≤ w.heap.size + 1 by omega) (Wd l) 0 wr hB
      have HM : Hid (Wd (mixAll s (bl x)).l = Wd l) := by rw [← hm, hl]; rfl
      have HS := Lib.hid hS; have HR := Lib.hid hR; have HT := Lib.hid hst; have HD := Lib.hid hbs; have HL := Lib.hid hl8; have HRR := Lib.hid hr
      clear hS hR hst hbs hB hl8 hr hm hl hlen hK hx
      go_upto_region 3 with fail
      refine wp_region_lit ?_
      refine load_blk rfl _ _ rfl w.heap.size rfl HS.out Tryd.underlying144 rfl (by rw [HL.out]; kernel_rfl) ?_
      refine wpList_plain rfl fun K1 hK1 => ?_
      refine hK1 _ _ ?_
      clear hK1 K1
      refine store_blk rfl rfl _ _ _ rfl (w.heap.size + 1) rfl (l' := l) rfl HR.out (by rw [HL.out]; simp) (by rw [List.length_replicate]; kernel_rfl) ?_
      refine wpList_plain rfl fun K1 hK1 => ?_
      refine hK1 _ _ ?_
      clear hK1 K1
      refine wpList_nil ?_
      generalize World.setCells wr _ _ _ = V' at HT HD ⊢
      rename_i K hK
      refine hK _ _ ?_
      refine wp_ret ?_
      refine bodyPost_ret (results_blk_tmp (p := 4) (q := 5) (T := 144) (by kernel_rfl) _ _ (w.heap.size + 1) rfl HT.out Tryd.underlying144 rfl (by rw [HL.out]; kernel_rfl)) rfl ⟨y, ?_, HRR.out, HD.out⟩
      rw [HM.out]
      rfl
end Go.Proofs.YtdnjieffbgmagaaDoor

/- Slices of bytes of a call's own: what they hold, appends, makes, and the text that is made of them. -/
namespace Go.Proofs.YtdnjieffbgmagaaDoor
open Go.RowKit
set_option maxRecDepth 100000
theorem infoB : (Tryd.prog.info? 5).map (fun i => (i.zero, i.size, i.bytes)) = some (some (.int .u8 0), 1, 1) := by kernel_rfl
/-- a slice of bytes of the call's own (blocks from base on) that reads as l -/
def Own (w : World) (base : Nat) (v : Value) (l : List UInt8) : Prop := w.ownsRow base 5 1 v l.length (Lib.byteCells l)
theorem Own.alloc {w : World} {base : Nat} {v : Value} {l : List UInt8} (h : Own w base v l) (o : Obj) : Own (w.alloc o) base v l := World.ownsRow.alloc h o
theorem Own.drew {w : World} {base : Nat} {v : Value} {l : List UInt8} (h : Own w base v l) : Own w.drew base v l := h
theorem Own.block {w : World} (g cap base : Nat) (cur : Array Value) (l : List UInt8) (hg : w.heap[g]? = some (.cells cur 5 (0, 0))) (hb : base ≤ g) (hc : l.length ≤ cap) (hm : cap ≤ maxLen) (hs : cur.size = cap) (ht : cur.toList.take l.length = Lib.byteCells l) :
    Own w base (.slice (some ⟨g, 0, none⟩) l.length cap) l :=
  ⟨by rw [Lib.byteCells_length, Nat.mul_one], .inr ⟨g, cap, cur, rfl, hb, hg, hc, hm, by rw [hs, Nat.mul_one], by rw [Nat.mul_one]; exact ht⟩⟩
/-- m bytes put behind a slice of the call's own -/
theorem append_bytes {ops : Array Oper} {rest : List Oper} {o : Oper} {a : Act} {Q : Exit → Act → World → Prop} {w : World} (hgd : o.guard = none) (s x : Operand)
    (ho : o.op = .call { callee := .builtin .append, args := #[s, x], argTypes := #[74, 74] })
    (base : Nat) (v : Value) (l news : List UInt8) (B : Nat) (hs : a.eval s = v) (hown : Own w base v l) (m : Nat) (hx : a.eval x = .slice (some ⟨B, 0, none⟩) m m) (hm : m = news.length) (hm0 : 0 < m)
    (hc : ∀ j b, news[j]? = some b → w.cell? ⟨B, j, none⟩ = some (.int .u8 (b.toNat : Int))) (hl : l.length + m ≤ 1000000) (hbase : base ≤ w.heap.size)
    (h : ∀ g cap w', Own w' base (.slice (some ⟨g, 0, none⟩) (l.length + m) cap) (l ++ news) → w.grownBy w' v.ownBlock → wpList Tryd.prog ops Q rest (a.put o.dst (.slice (some ⟨g, 0, none⟩) (l.length + m) cap)) w') :
    wpList Tryd.prog ops Q (o :: rest) a w := by
  obtain ⟨i0, hi, hz0, hz1, hz2⟩ := info_parts infoB
  refine wpList_append_own w hgd s x 74 ho base 5 i0 (.int .u8 0) 1 1 Tryd.underlying74 hi hz0 hz1 hz2 rfl (by decide) v l.length (Lib.byteCells l) hs hown ⟨B, 0, none⟩ m m (Lib.byteCells news) hx (by rw [Lib.byteCells_length, hm]; simp) ?_ ?_ (by unfold maxLen; omega) (by omega) hbase ?_
  · intro j u hu
    rw [show (⟨B, 0, none⟩ : Addr).add j = ⟨B, j, none⟩ by rw [Addr.add_mid, Nat.zero_add]]
    simp only [Lib.byteCells, List.getElem?_map, Option.map_eq_some_iff] at hu
    obtain ⟨b, hb, rfl⟩ := hu
    exact hc j b hb
  · intro u hu
    simp only [Lib.byteCells, List.mem_map] at hu
    obtain ⟨b, -, rfl⟩ := hu
    rfl
  · intro v' w' ho' hg _
    obtain ⟨g, cap, rfl, -, -⟩ := World.ownsRow.form ho' (by omega)
    refine h g cap w' ?_ hg
    unfold Own
    rw [List.length_append, ← hm, Lib.byteCells_append]
    exact ho'
theorem Own.below {w wr w' : World} {n : Nat} {v : Value} {l : List UInt8} {o : Obj} (hI : Own wr n v l) (hB : Below n w wr) (hn : n ≤ wr.heap.size) (hg : (wr.alloc o).grownBy w' v.ownBlock) : Below n w w' :=
  (hB.alloc hn o).grown hg (by simp; omega) fun k hk => (World.ownsRow.lt hI k hk).1
/-- string(b) -/
theorem Own.text {w : World} {base g n cap : Nat} {l : List UInt8} (h : Own w base (.slice (some ⟨g, 0, none⟩) n cap) l) (hn : n = l.length) :
    (convert 74 9 (.slice (some ⟨g, 0, none⟩) n cap)).run Tryd.prog w = .ok (.string ⟨l.toArray⟩) w := by
  subst hn
  have hcell : ∀ i, i < l.length → w.cell? ⟨g, 0 + i, none⟩ = some (.int .u8 ((l.map fun b => (b.toNat : Int)).getD i 0)) := by
    intro i hi
    have := World.ownsRow.cellAt h i (by omega)
    rw [Nat.zero_add, this]
    simp [Lib.byteCells, hi]
  have := run_convert_bytes_arg (P := Tryd.prog) w 74 5 Tryd.underlying74 Tryd.underlying5 g 0 l.length cap (l.map fun b => (b.toNat : Int)) (by simp) hcell 9 Tryd.underlying9
  rw [this]
  congr 3
  apply ByteArray.ext
  simp [strOfNums, Function.comp_def]
theorem made_bytes (z : TypeInfo) (h1 : z.size = 1) (n : Nat) : (madeCells (Value.int .u8 0).cells (n * z.size)).toList = List.replicate n (.int .u8 0) := by
  rw [h1, Nat.mul_one]; exact toList_madeCells_one _ _
/-- make([]byte, l, c) -/
theorem make_bytes (kl kc : IntKind) (l c : Nat) (hlc : l ≤ c) (hc : c ≤ 1000000) : ∃ M : Array Value, M.toList = List.replicate c (.int .u8 0) ∧ ∀ W : World,
    (Instr.makeSlice 74 (.int kl (l : Int)) (.int kc (c : Int))).run Tryd.prog W = .ok (.slice (some ⟨W.heap.size, 0, none⟩) l c) (W.alloc (.cells M 5)) := by
  obtain ⟨i0, hi, hz0, hz1, hz2⟩ := info_parts infoB
  refine ⟨madeCells (Value.int .u8 0).cells (c * i0.size), made_bytes i0 hz1 c, fun W => ?_⟩
  have h := run_make (P := Tryd.prog) W 74 5 i0 (.int .u8 0) Tryd.underlying74 hi hz0 kl kc (l : Int) (c : Int) (by omega) (by omega) (by rw [hz2]; omega) (by omega)
  simp only [Int.toNat_natCast] at h
  exact h
theorem Own.made (W : World) (M : Array Value) (base l c : Nat) (hM : M.toList = List.replicate c (.int .u8 0)) (hb : base ≤ W.heap.size) (hl : l ≤ c) (hc : c ≤ 1000000) :
    Own (W.alloc (.cells M 5)) base (.slice (some ⟨W.heap.size, 0, none⟩) l c) (List.replicate l 0) := by
  have h := Own.block (w := W.alloc (.cells M 5)) W.heap.size c base M (List.replicate l 0) (heap_alloc_new W _) hb (by simpa using hl) (by unfold maxLen; omega) (by rw [← Array.length_toList, hM]; simp) (by rw [hM]; simp [Lib.byteCells, List.take_replicate, Nat.min_eq_left hl])
  simpa using h
theorem Own.empty (w : World) (base : Nat) (hb : base ≤ w.heap.size) : Own (w.alloc (.cells #[] 5)) base (.slice (some ⟨w.heap.size, 0, none⟩) 0 0) [] :=
  World.ownsRow_lit w #[] 0 hb (by decide) rfl
theorem Own.onB {w w' : World} {base : Nat} {v : Value} {l : List UInt8} (h : Own w base v l) (hb : Below w.heap.size w w') : Own w' base v l := by
  refine ⟨h.1, ?_⟩
  rcases h.2 with h2 | ⟨g, cap, cur, e, hg, hc, h3⟩
  · exact Or.inl h2
  · exact Or.inr ⟨g, cap, cur, e, hg, by rw [hb.block g (Array.getElem?_eq_some_iff.1 hc).1]; exact hc, h3⟩
/-- string(b[:]) -/
theorem BlkB.text {w : World} {B : Nat} {t : TypeId} {l : List UInt8} (h : BlkB w B t l) (n c : Nat) (hn : n = l.length) :
    (convert 74 9 (.slice (some ⟨B, 0, none⟩) n c)).run Tryd.prog w = .ok (.string (strL l)) w := by
  subst hn
  exact run_convert_bytes_back (P := Tryd.prog) w 74 9 5 ⟨B, 0, none⟩ c l Tryd.underlying74 Tryd.underlying5 Tryd.underlying9 (fun j hj => by
    rw [Addr.add_mid, Nat.zero_add, h.cell j hj]
    simp [hj])
theorem one_text (y : UInt8) (v : Int) (hv : v = (y.toNat : Int)) (W : World) :
    (convert 74 9 (.slice (some ⟨W.heap.size, 0, none⟩) 1 1)).run Tryd.prog (W.alloc (.cells #[.int .u8 v] 5)) = .ok (.string (strL [y])) (W.alloc (.cells #[.int .u8 v] 5)) := by
  subst hv
  exact run_convert_bytes_back (P := Tryd.prog) (W.alloc (.cells #[.int .u8 (y.toNat : Int)] 5)) 74 9 5 ⟨W.heap.size, 0, none⟩ 1 [y] Tryd.underlying74 Tryd.underlying5 Tryd.underlying9 (fun j hj => by
    obtain rfl : j = 0 := by simpa using hj
    simp [Addr.add])
theorem str_index (s : ByteArray) (i : Int) (k : Nat) (hi : i = k) (hk : k < s.size) (W : World) : (Instr.index 9 (.string s) (.int .i64 i)).run Tryd.prog W = .ok (.int .u8 (s[k].toNat : Int)) W := by
  subst hi
  rw [run_index_string (P := Tryd.prog) (w := W) 9 s .i64 (k : Int) Tryd.underlying9, dif_pos ⟨by omega, by omega⟩]
  simp
end Go.Proofs.YtdnjieffbgmagaaDoor

/- The contract of strings.Clone: the same bytes. -/
namespace Go.Proofs.YtdnjieffbgmagaaDoor
open Go.RowKit
set_option maxRecDepth 100000 in
set_option maxHeartbeats 1000000 in
theorem cloneB_any (s : ByteArray) (hs : s.size ≤ 1000000) (w : World) :
    Calls Tryd.prog 105 #[.string s] w fun e w' => e = .returned (.string s) ∧ Below w.heap.size w w' := by
  by_cases h0 : s.size = 0
  · obtain rfl : s = ⟨#[]⟩ := ByteArray.ext (Array.eq_empty_of_size_eq_zero h0)
    clear h0 hs
    go_enter Tryd.func105, Tryd.ntmps105
    go_wp2
    go_ret
    exact ⟨rfl, Below.refl _ _⟩
  · obtain ⟨i0, hi, hz0, hz1, hz2⟩ := info_parts infoB
    have hsz : (Tryd.prog.info? 5).map (·.size) = some 1 := by rw [hi]; simp [hz1]
    have hco : Tryd.prog.cellsOf 5 = 1 := by simp [Program.cellsOf, hi, hz1]
    obtain ⟨M, hM⟩ : ∃ M, M = madeCells (Value.int .u8 0).cells (s.size * i0.size) := ⟨_, rfl⟩
    have hMs : M.size = s.size := by rw [hM, size_madeCells, hz1]; simp
    have hmk : ∀ W : World, (Instr.makeSlice 74 (.int .i64 (s.size : Int)) (.int .i64 (s.size : Int))).run Tryd.prog W = .ok (.slice (some ⟨W.heap.size, 0, none⟩) s.size s.size) (W.alloc (.cells M 5)) := fun W => by
      have h := run_make (P := Tryd.prog) W 74 5 i0 (.int .u8 0) Tryd.underlying74 hi hz0 .i64 .i64 (s.size : Int) (s.size : Int) (by omega) (by omega) (by rw [hz2]; omega) (by omega)
      simp only [Int.toNat_natCast] at h
      rw [← hM] at h
      simpa using h
    clear hM
    have hcp := Lib.run_copy_row_string (P := Tryd.prog) (w.alloc (.cells M 5)) 74 9 3 5 w.heap.size 0 s.size s.size s M 5 Tryd.underlying74 hsz (heap_alloc_new w _) (Nat.le_refl _) (by omega)
    obtain ⟨Y, hY⟩ : ∃ Y, Y = (M.toList.take 0 ++ Lib.byteCells s.data.toList ++ M.toList.drop (0 + s.size)).toArray := ⟨_, rfl⟩
    rw [← hY] at hcp
    have hYl : Y.toList = Lib.byteCells s.data.toList := by
      rw [hY, List.toList_toArray, List.take_zero, List.nil_append, List.drop_of_length_le (by rw [Array.length_toList]; omega), List.append_nil]
    have hYs : Y.size = s.size := by rw [← Array.length_toList, hYl, Lib.byteCells_length, ← Lib.size_eq]
    have hgY : ((w.alloc (.cells M 5)).setRow w.heap.size Y).heap[w.heap.size]? = some (.cells Y 5 (0, 0)) := setRow_heap _ _ M _ 5 (0, 0) (heap_alloc_new w _)
    have hne : s.data.toList ≠ [] := fun e => h0 (by rw [Lib.size_eq, e]; rfl)
    have hUS := Lib.run_unsafeString_row (P := Tryd.prog) ((w.alloc (.cells M 5)).setRow w.heap.size Y) 155 3 9 5 Tryd.underlying155 hco w.heap.size Y.size (by unfold World.shape?; rw [hgY]) s.data.toList hne (by rw [← Lib.size_eq]; omega) (by rw [← Lib.size_eq]; omega)
      (fun j x hx => Lib.cells_of_row hgY Y.size j _ (by rw [List.take_of_length_le (by rw [Array.length_toList]; exact Nat.le_refl _), hYl]; simp [Lib.byteCells, hx]))
    rw [← Lib.size_eq] at hUS
    have hb1 : Below w.heap.size w (w.alloc (.cells M 5)) := (Below.refl _ w).alloc (Nat.le_refl _) _
    have hb2 : Below w.heap.size (w.alloc (.cells M 5)) ((w.alloc (.cells M 5)).setRow w.heap.size Y) := ⟨rfl, rfl, rfl, by simp, fun k hk => setRow_other _ _ _ _ (by omega)⟩
    have HB := Lib.hid (Lib.below_freeze (hb1.trans hb2) (p := ⟨w.heap.size, 0, none⟩) (Nat.le_refl _) s.size)
    clear hY hb1 hb2
    go_enter Tryd.func105, Tryd.ntmps105
    go_wp2
    go_ret
    exact ⟨rfl, HB.out⟩

set_option maxRecDepth 100000 in
set_option maxHeartbeats 400000 in
theorem clone_any (s : ByteArray) (hs : s.size ≤ 1000000) (w : World) :
    Calls Tryd.prog 102 #[.string s] w fun e w' => e = .returned (.string s) ∧ Below w.heap.size w w' := by
  have H := Lib.hid (cloneB_any s hs)
  clear hs
  go_enter Tryd.func102, Tryd.ntmps102
  go_wp2_with fail
  refine (H.out _).mono ?_
  rintro e w1 ⟨rfl, hb⟩
  go_wp2_with fail
  go_ret
  exact ⟨rfl, hb⟩
end Go.Proofs.YtdnjieffbgmagaaDoor

/- The contract of digest's tell: the words' bytes. -/
namespace Go.Proofs.YtdnjieffbgmagaaDoor
open Go.RowKit
set_option maxRecDepth 100000
/-- a word's bytes, the highest first -/
def be4 (x : BitVec 32) : List UInt8 := [UInt8.ofNat (x.toNat / 16777216), UInt8.ofNat (x.toNat / 65536), UInt8.ofNat (x.toNat / 256), UInt8.ofNat x.toNat]
def tellL (l : List (BitVec 32)) : List UInt8 := l.flatMap be4
theorem tellL_length (l : List (BitVec 32)) : (tellL l).length = 4 * l.length := by
  induction l with
  | nil => rfl
  | cons x r ih => simp [tellL, be4] at ih ⊢; omega
theorem index8L (s : S8) (k : Nat) (hk : k < 8) (w : World) :
    (Instr.index 144 (.agg (Wd s.l).toArray) (.int .i64 (k : Int))).run Tryd.prog w = .ok (.int .u32 ((s.l.getD k 0).toNat : Int)) w :=
  index8 s.a s.b s.c s.d s.e s.f s.g s.h k hk w

def TellRelD (w : World) (s : S8) (v i : Value) (wr : World) : Prop := ∃ k g cap : Nat, k ≤ 8 ∧ i = .int .i64 (k : Int) ∧ v = .slice (some ⟨g, 0, none⟩) (4 * k) cap ∧ Own wr w.heap.size v (tellL (s.l.take k)) ∧ Below w.heap.size w wr

set_option maxRecDepth 100000 in
set_option maxHeartbeats 1000000 in
theorem tell_any (s : S8) (w : World) :
    Calls Tryd.prog 100 #[.agg (Wd s.l).toArray] w fun e w' => e = .returned (.string ⟨(tellL s.l).toArray⟩) ∧ Below w.heap.size w w' := by
  obtain ⟨M, hM, hmk0⟩ := make_bytes .i64 .i64 0 32 (by omega) (by omega)
  have hmk : ∀ W : World, (Instr.makeSlice 74 (.int .i64 0) (.int .i64 32)).run Tryd.prog W = .ok (.slice (some ⟨W.heap.size, 0, none⟩) 0 32) (W.alloc (.cells M 5)) := hmk0
  have HM := Lib.hid hM
  clear hmk0 hM
  have hI := Lib.hid (index8L s)
  go_enter Tryd.func100, Tryd.ntmps100
  go_upto_region 2 with fail
  have hS : BlkW ((w.alloc (.cells (Wd s.l).toArray 144)).alloc (.cells M 5)) w.heap.size 144 s.l := (BlkW.fresh _ _ _ _ rfl _ rfl).alloc _
  have hO : Own ((w.alloc (.cells (Wd s.l).toArray 144)).alloc (.cells M 5)) w.heap.size (.slice (some ⟨w.heap.size + 1, 0, none⟩) 0 32) [] := by
    have := Own.made (w.alloc (.cells (Wd s.l).toArray 144)) M w.heap.size 0 32 HM.out (by simp) (by omega) (by omega)
    simpa using this
  have hB : Below w.heap.size w ((w.alloc (.cells (Wd s.l).toArray 144)).alloc (.cells M 5)) := by go_grown
  generalize World.alloc (World.alloc w _) _ = W0 at hS hO hB ⊢
  clear hmk HM
  refine wp_region_lit ?_
  refine load_blk rfl _ _ rfl w.heap.size rfl hS Tryd.underlying144 rfl (by rw [S8.l_length]; kernel_rfl) ?_
  clear hS
  go_wp2_with fail
  go_loopw [3, 8] (TellRelD w s) (fun _ i _ => 8 - (intOf i).toNat)
  case atStart => exact ⟨0, _, _, by omega, rfl, rfl, hO, hB⟩
  case round =>
    clear hO hB
    obtain ⟨k, g, cap, hk, rfl, rfl, hY, hB⟩ := hrel
    have hsz := hB.size
    by_cases hlt : k < 8
    · have h1 : (k : Int) < 8 := by omega
      have hix := hI.out k hlt
      obtain ⟨x, hx⟩ : ∃ x, s.l.getD k 0 = x := ⟨_, rfl⟩
      rw [hx] at hix
      have w1 : IntKind.u8.wrap ((x.toNat : Int) / 16777216) = ((UInt8.ofNat (x.toNat / 16777216)).toNat : Int) := byte_div _ 16777216
      have w2 : IntKind.u8.wrap ((x.toNat : Int) / 65536) = ((UInt8.ofNat (x.toNat / 65536)).toNat : Int) := byte_div _ 65536
      have w3 : IntKind.u8.wrap ((x.toNat : Int) / 256) = ((UInt8.ofNat (x.toNat / 256)).toNat : Int) := byte_div _ 256
      have w4 : IntKind.u8.wrap (x.toNat : Int) = ((UInt8.ofNat x.toNat).toNat : Int) := byte_of _
      have hn : tellL (s.l.take (k + 1)) = tellL (s.l.take k) ++ be4 x := by
        rw [List.take_succ_eq_append_getElem (show k < s.l.length from hlt), tellL, List.flatMap_append]
        rw [← hx, List.getD_eq_getElem?_getD, List.getElem?_eq_getElem (show k < s.l.length from hlt)]
        simp [tellL]
      have hle : (tellL (s.l.take k)).length = 4 * k := by rw [tellL_length, List.length_take, S8.l_length]; omega
      have HN := Lib.hid hn; have HY := Lib.hid hY; have HL := Lib.hid hle
      clear hx hn hY hle hI
      generalize hb1 : UInt8.ofNat (x.toNat / 16777216) = b1 at w1
      generalize hb2 : UInt8.ofNat (x.toNat / 65536) = b2 at w2
      generalize hb3 : UInt8.ofNat (x.toNat / 256) = b3 at w3
      generalize hb4 : UInt8.ofNat x.toNat = b4 at w4
      have HBE : Hid (be4 x = [b1, b2, b3, b4]) := by unfold be4; rw [hb1, hb2, hb3, hb4]; rfl
      clear hb1 hb2 hb3 hb4
      go_wp2_with (at_builtin; refine append_bytes rfl _ _ rfl w.heap.size _ (tellL (s.l.take k)) [b1, b2, b3, b4] wr.heap.size rfl ?c0 4 rfl rfl (by omega) ?c1 ?c3 ?c4 ?_)
      case c0 => exact Own.alloc HY.out _
      case c1 => exact lit_bytes _ _ _ _ rfl
      case c3 => rw [HL.out]; omega
      case c4 => simp; omega
      intro g' cap' w' hY' hg'
      have hB' := HY.out.below hB hsz hg'
      rw [HL.out] at hY'
      rw [HL.out]
      have HY' := Lib.hid hY'
      clear hY' hg' hB w1 w2 w3 w4 hix
      go_wp2_with fail
      refine ⟨⟨k + 1, g', cap', by omega, by simp, rfl, ?_, hB'⟩, by simp [intOf]; omega⟩
      rw [HN.out, HBE.out]
      exact HY'.out
    · obtain rfl : k = 8 := by omega
      rw [List.take_of_length_le (by rw [S8.l_length]; exact Nat.le_refl _)] at hY
      have cv := hY.text (by rw [tellL_length, S8.l_length])
      clear hY
      go_wp2_with fail
      go_ret
      exact ⟨rfl, hB⟩
end Go.Proofs.YtdnjieffbgmagaaDoor

/- The contract of digest's padding. -/
namespace Go.Proofs.YtdnjieffbgmagaaDoor
open Go.RowKit
set_option maxRecDepth 100000
/-- how many bytes 0 stand behind the byte 128 -/
def padZ (m : Nat) : Nat := (119 - m % 64) % 64
/-- the i-th of a number's 8 bytes, the highest first -/
def byteAt (n i : Nat) : UInt8 := UInt8.ofNat (n / 2 ^ (56 - 8 * i))
def be8 (n : Nat) : Nat → List UInt8
  | 0 => []
  | k + 1 => be8 n k ++ [byteAt n k]
theorem be8_length (n k : Nat) : (be8 n k).length = k := by
  induction k with
  | zero => rfl
  | succ k ih => simp [be8, ih]
def padL (m : Nat) : List UInt8 := (128 :: List.replicate (padZ m) 0) ++ be8 (8 * m % 18446744073709551616) 8
theorem padL_length (m : Nat) : (padL m).length = padZ m + 9 := by simp [padL, be8_length]

def PadRel (w : World) (m : Nat) (v i : Value) (wr : World) : Prop := ∃ k g cap : Nat, k ≤ 8 ∧ i = .int .i64 (k : Int) ∧ v = .slice (some ⟨g, 0, none⟩) (padZ m + 1 + k) cap ∧ Own wr w.heap.size v ((128 :: List.replicate (padZ m) 0) ++ be8 (8 * m % 18446744073709551616) k) ∧ Below w.heap.size w wr

set_option maxRecDepth 100000 in
set_option maxHeartbeats 1000000 in
theorem padding_any (m : Nat) (_hm : m < 18446744073709551616) (w : World) :
    Calls Tryd.prog 99 #[.int .u64 (m : Int)] w fun e w' => e = .returned (.string ⟨(padL m).toArray⟩) ∧ Below w.heap.size w w' := by
  obtain ⟨z, hz⟩ : ∃ z, padZ m = z := ⟨_, rfl⟩
  have hz63 : z ≤ 63 := by rw [← hz]; unfold padZ; omega
  have e1 : (IntKind.u64.wrap (55 - (m : Int))).tmod 64 = (z : Int) := by
    have : 0 ≤ IntKind.u64.wrap (55 - (m : Int)) := by rw [IntKind.wrap_u64]; omega
    rw [Int.tmod_eq_emod_of_nonneg this, IntKind.wrap_u64, ← hz]
    unfold padZ
    omega
  obtain ⟨M, hM, hmk0⟩ := make_bytes .u64 .u64 (z + 1) (z + 9) (by omega) (by omega)
  have hmk : ∀ W : World, (Instr.makeSlice 74 (.int .u64 (1 + (z : Int))) (.int .u64 (1 + (z : Int) + 8))).run Tryd.prog W = .ok (.slice (some ⟨W.heap.size, 0, none⟩) (z + 1) (z + 9)) (W.alloc (.cells M 5)) := by
    intro W
    have := hmk0 W
    rw [show ((z + 1 : Nat) : Int) = 1 + (z : Int) by omega, show ((z + 9 : Nat) : Int) = 1 + (z : Int) + 8 by omega] at this
    exact this
  have hM0 : M[0]? = some (.int .u8 0) := by
    rw [← Array.getElem?_toList, hM]; simp
  have hO : Own (w.alloc (.cells (M.setIfInBounds 0 (.int .u8 128)) 5)) w.heap.size (.slice (some ⟨w.heap.size, 0, none⟩) (z + 1) (z + 9)) (128 :: List.replicate z 0) := by
    have hg := heap_alloc_new w (.cells (M.setIfInBounds 0 (.int .u8 128)) 5)
    have := Own.block w.heap.size (z + 9) w.heap.size _ (128 :: List.replicate z 0) hg (Nat.le_refl _) (by simp) (by unfold maxLen; omega) (by rw [Array.size_setIfInBounds, ← Array.length_toList, hM]; simp)
      (by rw [Array.toList_setIfInBounds, hM]
          rw [show z + 9 = (z + 8) + 1 by omega, List.replicate_succ, List.set_cons_zero]
          simp [Lib.byteCells, List.take_replicate])
    simpa using this
  have hB : Below w.heap.size w (w.alloc (.cells (M.setIfInBounds 0 (.int .u8 128)) 5)) := (Below.refl _ _).alloc (Nat.le_refl _) _
  have HO := Lib.hid hO; have HB := Lib.hid hB
  clear hM hO hB
  have HZ := Lib.hid hz
  clear hmk0 hz
  go_enter Tryd.func99, Tryd.ntmps99
  go_wp2_with fail
  generalize World.alloc w _ = W0 at HO HB ⊢
  clear hmk hM0 e1
  obtain ⟨q, hq⟩ : ∃ q, 8 * m % 18446744073709551616 = q := ⟨_, rfl⟩
  have hq64 : q < 18446744073709551616 := by omega
  have wq : IntKind.u64.wrap (8 * (m : Int)) = (q : Int) := by rw [IntKind.wrap_u64]; omega
  go_loopw [4, 17] (PadRel w m) (fun _ i _ => 8 - (intOf i).toNat)
  case atStart => exact ⟨0, w.heap.size, z + 9, by omega, rfl, by rw [HZ.out], by rw [HZ.out]; simp only [be8, List.append_nil]; exact HO.out, HB.out⟩
  case round =>
    clear HO HB
    obtain ⟨k, g, cap, hk, rfl, rfl, hY, hB⟩ := hrel
    rw [HZ.out] at hY
    rw [hq] at hY
    rw [HZ.out]
    have hsz := hB.size
    by_cases hlt : k < 8
    · have h1 : (k : Int) < 8 := by omega
      obtain ⟨d, hd⟩ : ∃ d, d = 56 - 8 * k := ⟨_, rfl⟩
      have es : ((56 : Int) - 8 * (k : Int)).toNat = d := by omega
      have e0 : (0 : Int) ≤ 56 - 8 * (k : Int) := by omega
      have e9 : (56 : Int) - 8 * (k : Int) ≤ 64 := by omega
      have e8 : (56 : Int) - 8 * (k : Int) < 64 := by omega
      have ew : IntKind.i64.wrap ((56 : Int) - 8 * (k : Int)) = 56 - 8 * (k : Int) := IntWalk.i64_in _ (by omega)
      obtain ⟨b, hb⟩ : ∃ b, byteAt q k = b := ⟨_, rfl⟩
      have wb : IntKind.u8.wrap ((q : Int) / 2 ^ d) = (b.toNat : Int) := by
        rw [← hb]; unfold byteAt; rw [← hd]
        have := byte_div q (2 ^ d)
        rw [← this]
        norm_cast
      obtain ⟨L, hL⟩ : ∃ L, (128 :: List.replicate z 0) ++ be8 q k = L := ⟨_, rfl⟩
      have hLl : L.length = z + 1 + k := by rw [← hL]; simp [be8_length]; omega
      rw [hL] at hY
      have HL := Lib.hid hL; have HLL := Lib.hid hLl
      clear hL hLl
      have HBY := Lib.hid hb
      have HY := Lib.hid hY
      have HD := Lib.hid hd
      clear hb hY hd
      go_wp2_with (at_builtin; refine append_bytes rfl _ _ rfl w.heap.size _ L [b] wr.heap.size rfl ?c0 1 rfl rfl (by omega) ?c1 ?c3 ?c4 ?_)
      case c0 => exact Own.alloc HY.out _
      case c1 => exact lit_bytes _ _ _ _ rfl
      case c3 => rw [HLL.out]; omega
      case c4 => simp; omega
      intro g' cap' w' hY' hg'
      have hB' := HY.out.below hB hsz hg'
      rw [HLL.out] at hY' ⊢
      have HY' := Lib.hid hY'
      clear hY' hg' hB wb es e0 e9 e8 ew
      go_wp2_with fail
      refine ⟨⟨k + 1, g', cap', by omega, by simp, by rw [HZ.out]; rfl, ?_, hB'⟩, by simp [intOf]; omega⟩
      rw [HZ.out, hq, be8, HBY.out, ← List.append_assoc, HL.out]
      exact HY'.out
    · obtain rfl : k = 8 := by omega
      have cv := hY.text (by simp [be8_length])
      rw [← hq, ← HZ.out] at cv
      have cv2 : (convert 74 9 (.slice (some ⟨g, 0, none⟩) (padZ m + 1 + 8) cap)).run Tryd.prog wr = .ok (.string ⟨(padL m).toArray⟩) wr := cv
      rw [HZ.out] at cv2
      clear hY cv
      go_wp2_with fail
      go_ret
      exact ⟨rfl, hB⟩
end Go.Proofs.YtdnjieffbgmagaaDoor
