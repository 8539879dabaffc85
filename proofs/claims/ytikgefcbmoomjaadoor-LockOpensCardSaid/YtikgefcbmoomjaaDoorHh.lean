/- The contracts of stream's Block and flow. -/
import Derived.Test.YtikgefcbmoomjaaDoorZi
namespace Go.Proofs.YtikgefcbmoomjaaDoor
open Go.RowKit
set_option maxRecDepth 100000
theorem first_set (k nc : List UInt8) (n : BitVec 32) : (firstC k 0 nc).set 12 n = firstC k n nc := by rfl
theorem block_c (k nc : List UInt8) (n : BitVec 32) : sumC ((firstC k 0 nc).set 12 n) (roundsC ((firstC k 0 nc).set 12 n) 10) 16 = blockC k n nc := by rw [first_set]; rfl
theorem block_ok (k nc : List UInt8) (n : BitVec 32) (w : World) :
    Calls Tryd.prog 54 #[.agg (Wd (firstC k 0 nc)).toArray, .int .u32 (n.toNat : Int)] w fun e w' => e = .returned (.agg (Lib.byteCells (blockC k n nc)).toArray) ∧ Below w.heap.size w w' := by
  have := block_any (firstC k 0 nc) (firstC_length _ _ _) n w
  rw [block_c] at this
  exact this

/-- other bytes than a slice of the call's own -/
theorem Own.blkW {w : World} {base g n cap B : Nat} {l : List UInt8} {ws : List (BitVec 32)} (h : Own w base (.slice (some ⟨g, 0, none⟩) n cap) l) (hB : BlkW w B 86 ws) : g ≠ B := by
  rintro rfl
  rcases h.2 with ⟨e, -⟩ | ⟨g', cap', cur, e, -, hc, -⟩
  · cases e
  · cases e
    unfold BlkW at hB
    rw [hB] at hc
    simp at hc
theorem BlkW.grown {w w' : World} {B : Nat} {t : TypeId} {l : List (BitVec 32)} {row : Option Nat} (h : BlkW w B t l) (hg : w.grownBy w' row) (hne : some B ≠ row) : BlkW w' B t l := by
  unfold BlkW
  rw [hg.block B h.lt hne]; exact h
theorem Own.take {w : World} {base g n cap : Nat} {l : List UInt8} (h : Own w base (.slice (some ⟨g, 0, none⟩) n cap) l) (m : Nat) (hm : m ≤ l.length) : Own w base (.slice (some ⟨g, 0, none⟩) m cap) (l.take m) ∧ m ≤ cap ∧ l.length ≤ cap := by
  rcases h.2 with ⟨e, -⟩ | ⟨g', cap', cur, e, hb, hc, h1, h2, h3, h4⟩
  · cases e
  · cases e
    refine ⟨?_, by omega, h1⟩
    have hl : (l.take m).length = m := by rw [List.length_take]; omega
    unfold Own
    rw [hl]
    refine ⟨by rw [Lib.byteCells_length, hl, Nat.mul_one], .inr ⟨g, cap, cur, rfl, hb, hc, by omega, h2, h3, ?_⟩⟩
    rw [Nat.mul_one] at h4 ⊢
    have h5 := congrArg (List.take m) h4
    rw [List.take_take, Nat.min_eq_left hm] at h5
    rw [h5]
    simp [Lib.byteCells, List.map_take]
def FlR (n base B9 : Nat) (w : World) (k nc : List UInt8) (m : Nat) (v i : Value) (wr : World) : Prop :=
  ∃ j g cap : Nat, j ≤ m ∧ i = .int .i64 (j : Int) ∧ v = .slice (some ⟨g, 0, none⟩) (64 * j) cap ∧ Own wr base v (blocksC k nc j) ∧ BlkW wr B9 86 (firstC k 0 nc) ∧ Below n w wr
set_option maxHeartbeats 1000000 in
theorem flow_any (k nc : ByteArray) (hk : k.size = 32) (hn : nc.size = 12) (m : Nat) (hm : m ≤ 4096) (w : World) :
    Calls Tryd.prog 43 #[.string k, .string nc, .int .i64 (m : Int)] w fun e w' => ∃ g cap, e = .returned (.slice (some ⟨g, 0, none⟩) m cap) ∧ Own w' w.heap.size (.slice (some ⟨g, 0, none⟩) m cap) (streamC (bl k) (bl nc) m) ∧ Below w.heap.size w w' := by
  obtain ⟨b, hb⟩ : ∃ b, (m + 63) / 64 = b := ⟨_, rfl⟩
  have hq : Int.tdiv ((m : Int) + 64 - 1) 64 = (b : Int) := by rw [Int.tdiv_eq_ediv_of_nonneg (by omega)]; omega
  have hb64 : b ≤ 64 := by omega
  have HBg := Lib.hid (sBegin_any k nc hk hn)
  obtain ⟨M, hM, hmk⟩ := make_bytes .i64 .i64 0 (b * 64) (by omega) (by omega)
  go_enter Tryd.func43, Tryd.ntmps43
  have hmk2 : ∀ W : World, (Instr.makeSlice 42 (.int .i64 0) (.int .i64 ((b : Int) * 64))).run Tryd.prog W = .ok (.slice (some ⟨W.heap.size, 0, none⟩) 0 (b * 64)) (W.alloc (.cells M 5)) := fun W => by
    have := hmk W
    rw [show ((b * 64 : Nat) : Int) = (b : Int) * 64 by omega] at this
    exact this
  clear hmk
  go_upto_region 3 with fail
  have hO0 := Own.made w M w.heap.size 0 (b * 64) hM (Nat.le_refl _) (by omega) (by omega)
  have hB0 : Below w.heap.size w (w.alloc (.cells M 5)) := by go_grown
  clear hmk2 hM hq
  generalize World.alloc w _ = W0 at hO0 hB0 ⊢
  obtain ⟨g0, eg0⟩ : ∃ g0, w.heap.size = g0 := ⟨_, rfl⟩
  rw [eg0] at hB0 hO0
  have HO0 := Lib.hid hO0
  have HB0 := Lib.hid hB0
  have EG := Lib.hid eg0
  clear hO0 hB0
  simp only [eg0]
  clear eg0
  go_wp2_with fail
  refine (HBg.out _).mono ?_
  rintro e w1 ⟨rfl, hb1⟩
  have hO := HO0.out.onB hb1
  have hB : Below g0 w w1 := HB0.out.trans (hb1.mono (by have := HB0.out.size; rw [EG.out] at this; exact this))
  have hsz : g0 ≤ w1.heap.size := by have := hB.size; rw [EG.out] at this; exact this
  clear HB0 HO0 HBg hb1
  have HO := Lib.hid hO; have HB := Lib.hid hB
  clear hO hB
  have hFr : BlkW (w1.alloc (.cells (Wd (List.replicate 16 0)).toArray 86)) w1.heap.size 86 (List.replicate 16 0) := BlkW.fresh w1 _ _ _ rfl _ rfl
  have HFr := Lib.hid hFr
  clear hFr
  have hl16 := firstC_length (bl k) 0 (bl nc)
  have HL := Lib.hid hl16
  clear hl16
  go_upto_region 4 with (refine store_blk (by rfl) (by rfl) _ _ _ (by rfl) w1.heap.size (by rfl) (l' := firstC (bl k) 0 (bl nc)) (by rfl) HFr.out (by rw [HL.out]; rfl) (by kernel_rfl) ?_)
  have hS := HFr.out.stored (firstC (bl k) 0 (bl nc)) (by rw [HL.out]; rfl)
  have hbb : Below w1.heap.size w1 ((w1.alloc (.cells (Wd (List.replicate 16 0)).toArray 86)).setCells w1.heap.size 0 (Wd (firstC (bl k) 0 (bl nc)))) := below_setCells (Nat.le_refl _) _ _ _ ((Below.refl _ _).alloc (Nat.le_refl _) _)
  have hO := HO.out.onB hbb
  have hB := HB.out.trans (hbb.mono hsz)
  change Code.wp Tryd.prog _ _ _ ((w1.alloc (.cells (Wd (List.replicate 16 0)).toArray 86)).setCells w1.heap.size 0 (Wd (firstC (bl k) 0 (bl nc))))
  clear HFr HB HO hbb
  generalize World.setCells (World.alloc w1 _) _ _ _ = W at hS hO hB ⊢
  obtain ⟨B9, eB⟩ : ∃ B9, w1.heap.size = B9 := ⟨_, rfl⟩
  rw [eB] at hS hsz
  simp only [eB]
  have HO := Lib.hid hO; have HB := Lib.hid hB; have HS := Lib.hid hS
  clear hO hB hS eB
  go_wp2_with fail
  go_loopw [8, 23] (FlR g0 g0 B9 w (bl k) (bl nc) b) (fun _ i _ => b - (intOf i).toNat)
  case atStart => exact ⟨0, g0, b * 64, by omega, rfl, rfl, HO.out, HS.out, HB.out⟩
  case round =>
    clear HO HB HS
    obtain ⟨j, g, cap, hj, rfl, rfl, hO, hS, hB⟩ := hrel
    by_cases hlt : j < b
    · have h1 : (j : Int) < (b : Int) := by omega
      have hsz' : g0 ≤ wr.heap.size := by have := hB.size; rw [EG.out] at this; exact this
      have hcv : (j : Int) + 1 = ((BitVec.ofNat 32 (j + 1)).toNat : Int) := by
        rw [BitVec.toNat_ofNat]; omega
      have HCV := Lib.hid hcv
      clear hcv
      have HBl := Lib.hid (block_ok (bl k) (bl nc) (BitVec.ofNat 32 (j + 1)))
      obtain ⟨r, er⟩ : ∃ r, blockC (bl k) (BitVec.ofNat 32 (j + 1)) (bl nc) = r := ⟨_, rfl⟩
      have hlr : r.length = 64 := by rw [← er]; exact blockC_length _ _ _
      rw [er] at HBl
      have ER := Lib.hid er; have HLR := Lib.hid hlr
      have HO := Lib.hid hO; have HB := Lib.hid hB; have HS := Lib.hid hS
      clear hO hB hS er hlr
      go_upto_region 7 with fail
      refine wp_region_lit ?_
      refine load_blk rfl _ _ rfl B9 rfl HS.out Tryd.underlying86 rfl (by rw [HL.out]; kernel_rfl) ?_
      go_wp2_with fail
      rw [HCV.out]
      refine (HBl.out _).mono ?_
      rintro e w2 ⟨rfl, hb2⟩
      have hO := HO.out.onB hb2
      have hS := HS.out.on hb2
      have hB := HB.out.trans (hb2.mono hsz')
      have hsz2 : g0 ≤ w2.heap.size := Nat.le_trans hsz' hb2.size
      clear HO HS HB HBl hb2 hsz' HCV
      have HO := Lib.hid hO; have HB := Lib.hid hB; have HS := Lib.hid hS
      clear hO hB hS
      have hFr : BlkB (w2.alloc (.cells (Lib.byteCells (List.replicate 64 0)).toArray 88)) w2.heap.size 88 (List.replicate 64 0) := BlkB.fresh w2 _ _ _ rfl _ rfl
      have HFr := Lib.hid hFr
      clear hFr
      go_upto_region 8 with (refine store_bb (by rfl) (by rfl) _ _ _ (by rfl) w2.heap.size (by rfl) (l' := r) (by rfl) HFr.out (by rw [HLR.out]; rfl) (by kernel_rfl) ?_)
      have hT := HFr.out.stored r (by rw [HLR.out]; rfl)
      have hbb : Below w2.heap.size w2 ((w2.alloc (.cells (Lib.byteCells (List.replicate 64 0)).toArray 88)).setCells w2.heap.size 0 (Lib.byteCells r)) := below_setCells (Nat.le_refl _) _ _ _ ((Below.refl _ _).alloc (Nat.le_refl _) _)
      have hO := HO.out.onB hbb
      have hS := HS.out.on hbb
      have hB := HB.out.trans (hbb.mono hsz2)
      change Code.wp Tryd.prog _ _ _ ((w2.alloc (.cells (Lib.byteCells (List.replicate 64 0)).toArray 88)).setCells w2.heap.size 0 (Lib.byteCells r))
      clear HFr HB HO HS hbb
      generalize World.setCells (World.alloc w2 _) _ _ _ = W4 at hT hO hS hB ⊢
      generalize w2.heap.size = B11 at hT ⊢ hsz2
      have hne := hO.blkW hS
      have hsz4 : g0 ≤ W4.heap.size := by have := hB.size; rw [EG.out] at this; exact this
      have hcell : ∀ i y, r[i]? = some y → W4.cell? ⟨B11, i, none⟩ = some (.int .u8 (y.toNat : Int)) := by
        intro i y hi
        have hil : i < r.length := (List.getElem?_eq_some_iff.1 hi).1
        rw [hT.cell i hil]
        simp [List.getD, hi]
      have HO := Lib.hid hO; have HB := Lib.hid hB; have HS := Lib.hid hS; have HC := Lib.hid hcell
      clear hO hB hS hT hcell
      refine wp_region_lit ?_
      iterate 2 (refine wpList_step (fun K hK => ?_); go_simp; refine hK _ _ ?_; clear hK K)
      refine append_bytes rfl _ _ rfl g0 (.slice (some ⟨g, 0, none⟩) (64 * j) cap) (blocksC (bl k) (bl nc) j) r B11 rfl HO.out 64 rfl HLR.out.symm (by omega) HC.out (by rw [blocksC_length]; omega) hsz4 ?_
      intro g' cap' W5 hO5 hgr
      have hS5 := HS.out.grown hgr (by simp [Value.ownBlock]; exact fun h => hne h.symm)
      have hB5 : Below g0 w W5 := HB.out.grown hgr hsz4 (fun i hi => (World.ownsRow.lt HO.out i hi).1)
      have hlb := blocksC_length (bl k) (bl nc) j
      have hnx : blocksC (bl k) (bl nc) (j + 1) = blocksC (bl k) (bl nc) j ++ r := by rw [← ER.out]; rfl
      rw [← hnx] at hO5
      rw [hlb, show 64 * j + 64 = 64 * (j + 1) by omega] at hO5 ⊢
      have HO5 := Lib.hid hO5; have HB5 := Lib.hid hB5; have HS5 := Lib.hid hS5
      clear HO HB HS HC hO5 hB5 hS5 hgr hlb hnx ER hne
      go_wp2_with fail
      exact ⟨⟨j + 1, g', cap', by omega, by simp, rfl, HO5.out, HS5.out, HB5.out⟩, by simp [intOf]; omega⟩
    · obtain rfl : j = b := by omega
      have hmb : m ≤ (blocksC (bl k) (bl nc) j).length := by rw [blocksC_length]; omega
      obtain ⟨hT, hc1, hc2⟩ := hO.take m hmb
      rw [show (blocksC (bl k) (bl nc) j).take m = streamC (bl k) (bl nc) m from streamC_of _ _ m j (by omega)] at hT
      have h2 : (m : Int) ≤ (cap : Int) := by omega
      have HT := Lib.hid hT; have HB := Lib.hid hB
      clear hT hB hO hS
      go_wp2_with fail
      go_ret
      exact ⟨g, cap, rfl, by rw [EG.out]; exact HT.out, by rw [EG.out]; exact HB.out⟩
end Go.Proofs.YtikgefcbmoomjaaDoor