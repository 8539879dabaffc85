/- The contracts of digest's read, list, mixedAll. -/
import Derived.Test.YtolobdeilfgmnaaDoorDmix
import Derived.Test.YtolobdeilfgmnaaDoorKa
import Derived.Laws.IdiomCopy
import Derived.Laws.BytesArg
import Derived.Deep.RegionHeld3
import Derived.Deep.RegionWith
namespace Go.Proofs.YtolobdeilfgmnaaDoor
open Go.RowKit
theorem KeysAt.apart {w : World} (h : KeysAt w) (b o : Nat) (vs : List Value) (hne : 1 ≠ b) : KeysAt (w.setCells b o vs) := by
  intro i hi
  rw [World.cell?_setCells_out b vs o w ⟨1, i, none⟩ (fun e _ => absurd e hne)]
  exact h i hi
set_option maxRecDepth 100000 in
set_option maxHeartbeats 400000 in
theorem list_any (s : S8) (w : World) :
    Calls Tryd.prog 58 #[.agg (Wd s.l).toArray] w fun e w' => e = .returned (.slice (some ⟨w.heap.size, 0, none⟩) 8 8) ∧ BlkW w' w.heap.size 98 s.l ∧ Below w.heap.size w w' := by
  go_enter Tryd.func58, Tryd.ntmps58
  go_wp2_with fail
  go_ret
  exact ⟨rfl, BlkW.fresh _ _ _ _ rfl _ rfl, by go_grown⟩

set_option maxRecDepth 100000 in
set_option maxHeartbeats 400000 in
theorem read_list (v : Value) (l : List (BitVec 32)) (hl : l.length = 8) (w : World) (hv : WsAt w v l) :
    Calls Tryd.prog 54 #[v] w fun e w' => e = .returned (.agg (Wd l).toArray) ∧ Below w.heap.size w w' := by
  go_enter Tryd.func54, Tryd.ntmps54
  go_upto_region 2 with fail
  have hR : BlkW ((w.alloc (.cells (Wd (List.replicate 8 0)).toArray 98)).alloc (.cells (Wd (List.replicate 8 0)).toArray 98)) w.heap.size 98 (List.replicate 8 0) := (BlkW.fresh _ _ _ _ rfl _ rfl).alloc _
  have hT : BlkW ((w.alloc (.cells (Wd (List.replicate 8 0)).toArray 98)).alloc (.cells (Wd (List.replicate 8 0)).toArray 98)) (w.heap.size + 1) 98 (List.replicate 8 0) := BlkW.fresh _ _ _ _ rfl _ (by simp)
  have hB : Below w.heap.size w ((w.alloc (.cells (Wd (List.replicate 8 0)).toArray 98)).alloc (.cells (Wd (List.replicate 8 0)).toArray 98)) := by go_grown
  change Code.wp Tryd.prog _ _ _ ((w.alloc (.cells (Wd (List.replicate 8 0)).toArray 98)).alloc (.cells (Wd (List.replicate 8 0)).toArray 98))
  have HV := Lib.hid (hv.on hB)
  have hB2 := below_setCells (show w.heap.size ≤ w.heap.size + 1 by omega) (Wd l) 0 _ hB
  have hR2 : BlkW _ w.heap.size _ _ := hR.below (n := w.heap.size + 1) (below_setCells (Nat.le_refl _) (Wd l) 0 _ (Below.refl _ _)) (by omega)
  have hT2 := hT.stored l (by rw [hl]; rfl)
  have HR := Lib.hid hR; have HT := Lib.hid hT; have HR2 := Lib.hid hR2; have HT2 := Lib.hid hT2; have HL := Lib.hid hl
  clear hR hT hR2 hT2 hv hl
  generalize World.alloc (World.alloc w _) _ = W at HV HR HT HR2 HT2 hB hB2 ⊢
  go_upto_region 3 with (refine copy_blk (by rfl) (.tmp 4) (.tmp 5) 27 27 (by rfl) 63 Tryd.underlying27 (by kernel_rfl) (w.heap.size + 1) 8 8 v (by rfl) (by rfl) (l' := l) HT.out HV.out (by rw [HL.out]; simp) (by simp) ?_)
  clear HV HR HT hB
  generalize World.setCells W _ _ _ = V at HR2 HT2 hB2 ⊢
  have hR2 := HR2.out
  have hst := hR2.stored l (by rw [HL.out]; rfl)
  have hbs := below_setCells (Nat.le_refl w.heap.size) (Wd l) 0 V hB2
  have HT := Lib.hid hst; have HD := Lib.hid hbs
  clear hst hbs hB2 hR2
  refine wp_region_lit ?_
  refine load_blk rfl _ _ rfl (w.heap.size + 1) rfl HT2.out Tryd.underlying98 rfl (by rw [HL.out]; kernel_rfl) ?_
  refine store_blk rfl rfl _ _ _ rfl w.heap.size rfl (l' := l) rfl HR2.out (by rw [HL.out]; simp) (by rw [List.length_replicate]; kernel_rfl) ?_
  refine wpList_nil ?_
  generalize World.setCells V _ _ _ = V' at HT HD ⊢
  rename_i K hK
  refine hK _ _ ?_
  refine wp_ret ?_
  refine bodyPost_ret (results_blk (p := 2) (T := 98) (by kernel_rfl) _ _ w.heap.size rfl HT.out Tryd.underlying98 rfl (by rw [HL.out]; kernel_rfl)) rfl ⟨rfl, HD.out⟩
theorem read_any (v : Value) (s : S8) (w : World) (hv : WsAt w v s.l) :
    Calls Tryd.prog 54 #[v] w fun e w' => e = .returned (.agg (Wd s.l).toArray) ∧ Below w.heap.size w w' := read_list v s.l rfl w hv

/-- the eight cells of a block of words -/
theorem BlkW.eight {w : World} {B : Nat} {t : TypeId} {s : S8} (h : BlkW w B t s.l) :
    (w.cell? ⟨B, 0, none⟩ = some (.int .u32 (s.a.toNat : Int)) ∧ w.cell? ⟨B, 1, none⟩ = some (.int .u32 (s.b.toNat : Int)) ∧ w.cell? ⟨B, 2, none⟩ = some (.int .u32 (s.c.toNat : Int)) ∧ w.cell? ⟨B, 3, none⟩ = some (.int .u32 (s.d.toNat : Int)) ∧ w.cell? ⟨B, 4, none⟩ = some (.int .u32 (s.e.toNat : Int)) ∧ w.cell? ⟨B, 5, none⟩ = some (.int .u32 (s.f.toNat : Int)) ∧ w.cell? ⟨B, 6, none⟩ = some (.int .u32 (s.g.toNat : Int)) ∧ w.cell? ⟨B, 7, none⟩ = some (.int .u32 (s.h.toNat : Int))) ∧
    (w.frozen? ⟨B, 0, none⟩ = false ∧ w.frozen? ⟨B, 1, none⟩ = false ∧ w.frozen? ⟨B, 2, none⟩ = false ∧ w.frozen? ⟨B, 3, none⟩ = false ∧ w.frozen? ⟨B, 4, none⟩ = false ∧ w.frozen? ⟨B, 5, none⟩ = false ∧ w.frozen? ⟨B, 6, none⟩ = false ∧ w.frozen? ⟨B, 7, none⟩ = false) :=
  ⟨⟨h.cell 0 (by show _ < 8; omega), h.cell 1 (by show _ < 8; omega), h.cell 2 (by show _ < 8; omega), h.cell 3 (by show _ < 8; omega), h.cell 4 (by show _ < 8; omega), h.cell 5 (by show _ < 8; omega), h.cell 6 (by show _ < 8; omega), h.cell 7 (by show _ < 8; omega)⟩,
   ⟨h.frozen 0, h.frozen 1, h.frozen 2, h.frozen 3, h.frozen 4, h.frozen 5, h.frozen 6, h.frozen 7⟩⟩
theorem mixed_lit (a b c d e f g h : BitVec 32) (v : S8) (x : ByteArray) (hx : x.size = 64) (hv : mixS ⟨a, b, c, d, e, f, g, h⟩ (bl x) = v) (w : World) (hK : KeysAt w) :
    Calls Tryd.prog 61 #[.agg #[.int .u32 (a.toNat : Int), .int .u32 (b.toNat : Int), .int .u32 (c.toNat : Int), .int .u32 (d.toNat : Int), .int .u32 (e.toNat : Int), .int .u32 (f.toNat : Int), .int .u32 (g.toNat : Int), .int .u32 (h.toNat : Int)], .string x] w fun e' w' =>
      e' = .returned (.agg #[.int .u32 (v.a.toNat : Int), .int .u32 (v.b.toNat : Int), .int .u32 (v.c.toNat : Int), .int .u32 (v.d.toNat : Int), .int .u32 (v.e.toNat : Int), .int .u32 (v.f.toNat : Int), .int .u32 (v.g.toNat : Int), .int .u32 (v.h.toNat : Int)]) ∧ Below w.heap.size w w' := by
  subst hv
  exact mixed_any ⟨a, b, c, d, e, f, g, h⟩ x hx w hK
theorem results_blk_tmp {P : Program} {fn : Func} {p q : Tmp} {T : TypeId} (h : fn.results = #[.cell p T, .tmp q]) (tmps : Array Value) (w : World) (B : Nat) {t : TypeId} {l : List (BitVec 32)} {d : TypeDesc}
    (hp : tmps.getD p undef = .pointer (some ⟨B, 0, none⟩)) (hb : BlkW w B t l) (hu : P.underlying T = some d) (hd : d.isRow = true) (hi : (P.info? T).map (·.size) = some l.length) :
    (results fn tmps).run P w = .ok (.tuple #[.agg (Wd l).toArray, tmps.getD q undef]) w := by
  have hp' : tmps[p]?.getD undef = .pointer (some ⟨B, 0, none⟩) := by simpa using hp
  simp [results, h, hp', asAddr, run_loadVar_row w B t T _ (0, 0) d hb hu (by cases d <;> simp_all) (by rw [List.size_toArray, Wd_length]; exact hi)]
def AllRel (w : World) (s : S8) (b : List UInt8) (v : Value) (wr : World) : Prop :=
  ∃ (x : ByteArray) (u : S8), v = .string x ∧ mixAll u (bl x) = mixAll s b ∧ restOf (bl x) = restOf b ∧ x.size ≤ maxLen ∧ BlkW wr w.heap.size 98 u.l ∧ BlkW wr (w.heap.size + 1) 98 (List.replicate 8 0) ∧ KeysAt wr ∧ Below w.heap.size w wr
set_option maxRecDepth 100000 in
set_option maxHeartbeats 1000000 in
theorem mixedAll_any (s : S8) (x : ByteArray) (hx : x.size ≤ maxLen) (w : World) (hK : KeysAt w) :
    Calls Tryd.prog 55 #[.agg (Wd s.l).toArray, .string x] w fun e w' => ∃ y : ByteArray, e = .returned (.tuple #[.agg (Wd (mixAll s (bl x)).l).toArray, .string y]) ∧ bl y = restOf (bl x) ∧ Below w.heap.size w w' := by
  go_enter Tryd.func55, Tryd.ntmps55
  go_wp2_with fail
  have hS : BlkW ((w.alloc (.cells (Wd s.l).toArray 98)).alloc (.cells #[.int .u32 0, .int .u32 0, .int .u32 0, .int .u32 0, .int .u32 0, .int .u32 0, .int .u32 0, .int .u32 0] 98)) w.heap.size 98 s.l := (BlkW.fresh _ _ _ _ rfl _ rfl).alloc _
  have hR : BlkW ((w.alloc (.cells (Wd s.l).toArray 98)).alloc (.cells #[.int .u32 0, .int .u32 0, .int .u32 0, .int .u32 0, .int .u32 0, .int .u32 0, .int .u32 0, .int .u32 0] 98)) (w.heap.size + 1) 98 (List.replicate 8 0) := BlkW.fresh _ _ _ _ (by rfl) _ (by simp)
  have hB : Below w.heap.size w ((w.alloc (.cells (Wd s.l).toArray 98)).alloc (.cells #[.int .u32 0, .int .u32 0, .int .u32 0, .int .u32 0, .int .u32 0, .int .u32 0, .int .u32 0, .int .u32 0] 98)) := by go_grown
  generalize World.alloc (World.alloc w _) _ = W0 at hS hR hB ⊢
  have hle := hK.lt
  replace hK : KeysAt W0 := hK.on hB
  go_loopw [1] (AllRel w s (bl x)) (fun v _ => sizeOfStr v)
  case atStart => exact ⟨x, s, rfl, rfl, rfl, hx, hS, hR, hK, hB⟩
  case round =>
    clear hS hR hK hB
    obtain ⟨y, u, rfl, hm, hr, hy, hS, hR, hK, hB⟩ := hrel
    have hle1 := hK.lt
    unfold maxLen at hy
    by_cases hlt : 64 ≤ y.size
    · have h1 : (64 : Int) ≤ (y.size : Int) := by omega
      have hg : decide ((64 : Int) ≤ (y.size : Int)) = true := by simpa using h1
      have h64 : (y.extract 0 64).size = 64 := by rw [ByteArray.size_extract]; omega
      obtain ⟨v, hv⟩ : ∃ v, mixS u (bl (y.extract 0 64)) = v := ⟨_, rfl⟩
      have hcall := mixed_lit u.a u.b u.c u.d u.e u.f u.g u.h v (y.extract 0 64) h64 hv
      have hsz := hR.lt
      obtain ⟨⟨c0, c1, c2, c3, c4, c5, c6, c7⟩, ⟨f0, f1, f2, f3, f4, f5, f6, f7⟩⟩ := hS.eight
      have HC := Lib.hid hcall
      have HS := Lib.hid hS; have HR := Lib.hid hR; have HK := Lib.hid hK; have HV := Lib.hid hv
      clear hcall hv hS hR hK h64
      go_wp2_with fail
      go_region_with ((go_at_call 61; refine (HC.out _ ?_).mono ?_; exact HK.out; rintro e w' ⟨rfl, hb⟩; have hS' : BlkW w' w.heap.size 98 u.l := (by refine BlkW.on ?_ hb; exact HS.out); obtain ⟨⟨d0, d1, d2, d3, d4, d5, d6, d7⟩, ⟨g0, g1, g2, g3, g4, g5, g6, g7⟩⟩ := hS'.eight; have hlt' := hS'.lt; have HS' := Lib.hid hS'; clear hS'))
      all_goals
        have hR' : BlkW w' (w.heap.size + 1) 98 (List.replicate 8 0) := by refine BlkW.on ?_ hb; exact HR.out
        have hK' : KeysAt w' := by refine KeysAt.on ?_ hb; exact HK.out
        have hB' : Below w.heap.size w w' := by
          refine Below.trans (below_drewN hB 1) (Below.mono hb ?_)
          simp; omega
        have hst := HS'.out.stored v.l rfl
        have hr' := hR'.apart w.heap.size 0 (Wd v.l) (by omega)
        have hk' := hK'.apart w.heap.size 0 (Wd v.l) (by omega)
        have hb' := below_setCells (Nat.le_refl w.heap.size) (Wd v.l) 0 w' hB'
        have HQ : Hid (BlkW (w'.setCells w.heap.size 0 (Wd v.l)) w.heap.size 98 v.l ∧ BlkW (w'.setCells w.heap.size 0 (Wd v.l)) (w.heap.size + 1) 98 (List.replicate 8 0) ∧ KeysAt (w'.setCells w.heap.size 0 (Wd v.l)) ∧ Below w.heap.size w (w'.setCells w.heap.size 0 (Wd v.l))) := ⟨hst, hr', hk', hb'⟩
        clear hst hr' hk' hb' hR' hK' hB' hb HS' HS HR HK HC
        go_wp2_with fail
        have q1 : bl (y.extract 0 64) = (bl y).take 64 := by rw [bl_extract]; rfl
        have q2 : bl (y.extract 64 y.size) = (bl y).drop 64 := by rw [bl_extract, List.take_of_length_le (by rw [bl_length]; exact Nat.le_refl _)]
        refine ⟨⟨_, _, _, _, _, _, _, _, _, _, ⟨y.extract 64 y.size, v, rfl, ?_, ?_, ?_, HQ.out.1, HQ.out.2.1, HQ.out.2.2.1, HQ.out.2.2.2⟩, rfl⟩, ?_⟩
        · rw [q2, ← HV.out, q1, ← mixAll_step u (bl y) (by rw [bl_length]; exact hlt)]; exact hm
        · rw [q2, ← restOf_step (bl y) (by rw [bl_length]; exact hlt)]; exact hr
        · rw [ByteArray.size_extract]; unfold maxLen; omega
        · show (y.extract 64 y.size).size < y.size
          rw [ByteArray.size_extract]; omega
    · have h1 : ¬ (64 : Int) ≤ (y.size : Int) := by omega
      have hg : decide ((64 : Int) ≤ (y.size : Int)) = false := by simpa using h1
      have hlen : (bl y).length < 64 := by rw [bl_length]; omega
      rw [mixAll_end u (bl y) hlen] at hm
      rw [restOf_end (bl y) hlen] at hr
      obtain ⟨l, hl⟩ : ∃ l, u.l = l := ⟨_, rfl⟩
      have hl8 : l.length = 8 := by rw [← hl]; rfl
      rw [hl] at hS
      have hst := hR.stored l (by rw [hl8]; rfl)
      have hbs := below_setCells (show w.heap.size ≤ w.heap.size + 1 by omega) (Wd l) 0 wr hB
      have HM : Hid (Wd (mixAll s (bl x)).l = Wd l) := by rw [← hm, hl]; rfl
      have HS := Lib.hid hS; have HR := Lib.hid hR; have HT := Lib.hid hst; have HD := Lib.hid hbs; have HL := Lib.hid hl8; have HRR := Lib.hid hr
      clear hS hR hst hbs hB hl8 hr hm hl hlen hK hx
      go_upto_region 3 with fail
      refine wp_region_lit ?_
      refine load_blk rfl _ _ rfl w.heap.size rfl HS.out Tryd.underlying98 rfl (by rw [HL.out]; kernel_rfl) ?_
      refine wpList_plain rfl fun K1 hK1 => ?_
      refine hK1 _ _ ?_
      clear hK1 K1
      refine store_blk rfl rfl _ _ _ rfl (w.heap.size + 1) rfl (l' := l) rfl HR.out (by rw [HL.out]; simp) (by rw [List.length_replicate]; kernel_rfl) ?_
      refine wpList_plain rfl fun K1 hK1 => ?_
      refine hK1 _ _ ?_
      clear hK1 K1
      refine wpList_nil ?_
      generalize World.setCells wr _ _ _ = V' at HT HD ⊢
      rename_i K hK
      refine hK _ _ ?_
      refine wp_ret ?_
      refine bodyPost_ret (results_blk_tmp (p := 4) (q := 5) (T := 98) (by kernel_rfl) _ _ (w.heap.size + 1) rfl HT.out Tryd.underlying98 rfl (by rw [HL.out]; kernel_rfl)) rfl ⟨y, ?_, HRR.out, HD.out⟩
      rw [HM.out]
      rfl
end Go.Proofs.YtolobdeilfgmnaaDoor