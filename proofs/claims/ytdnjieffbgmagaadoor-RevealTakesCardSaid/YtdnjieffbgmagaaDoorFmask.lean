/- Tags by the document's words; the contract of derive's masked. -/
import Derived.Test.YtdnjieffbgmagaaDoorBg8
import Derived.Test.YtdnjieffbgmagaaDoorBg5
import Derived.Test.YtdnjieffbgmagaaDoorBg1
import Derived.Test.YtdnjieffbgmagaaDoorBg3
namespace Go.Proofs.YtdnjieffbgmagaaDoor
open Go.RowKit
set_option maxRecDepth 100000
/-- a text's sum -/
def ofL (l : List UInt8) : List UInt8 := sumL (mixAll firstS l) (restOf l) l.length
theorem ofL_length (l : List UInt8) : (ofL l).length = 32 := sumL_length _ _ _
/-- the key, or its sum -/
def keyL (k : List UInt8) : List UInt8 := if k.length ≤ 64 then k else ofL k
theorem keyL_length (k : List UInt8) : (keyL k).length ≤ 64 := by
  unfold keyL
  split
  · assumption
  · rw [ofL_length]; omega
/-- with bytes 0 behind it, to 64 -/
def padK (k : List UInt8) : List UInt8 := k ++ List.replicate (64 - k.length) 0
theorem padK_length (k : List UInt8) (h : k.length ≤ 64) : (padK k).length = 64 := by simp [padK]; omega
/-- each byte of it xor the mask -/
def maskL (k : List UInt8) (c : UInt8) : List UInt8 := (padK (keyL k)).map fun x => x ^^^ c
theorem maskL_length (k : List UInt8) (c : UInt8) : (maskL k c).length = 64 := by
  unfold maskL
  rw [List.length_map, padK_length _ (keyL_length k)]
/-- the tag -/
def tagL (k s : List UInt8) : List UInt8 := ofL (maskL k 92 ++ ofL (maskL k 54 ++ s))

/-- the first k bytes xor the mask -/
def mixB (p : List UInt8) (c : UInt8) (k : Nat) : List UInt8 := (p.take k).map (fun x => x ^^^ c) ++ p.drop k
theorem mixB_length (p : List UInt8) (c : UInt8) (k : Nat) : (mixB p c k).length = p.length := by
  simp [mixB]; omega
theorem mixB_get (p : List UInt8) (c : UInt8) (k : Nat) (h : k < p.length) : (mixB p c k).getD k 0 = p.getD k 0 := by
  have hl : ((p.take k).map (fun x => x ^^^ c)).length = k := by simp; omega
  rw [List.getD_eq_getElem?_getD, mixB, List.getElem?_append_right (by omega), hl, Nat.sub_self]
  simp [List.getD, h]
theorem mixB_set (p : List UInt8) (c : UInt8) (k : Nat) (h : k < p.length) : (mixB p c k).set k (p.getD k 0 ^^^ c) = mixB p c (k + 1) := by
  have hl : ((p.take k).map (fun x => x ^^^ c)).length = k := by simp; omega
  have hg : p.getD k 0 = p[k] := by simp [List.getD, h]
  unfold mixB
  rw [List.set_append_right _ _ (by omega), hl, Nat.sub_self, List.drop_eq_getElem_cons h, List.set_cons_zero, List.take_succ_eq_append_getElem h, List.map_append, hg]
  simp
theorem mixB_all (p : List UInt8) (c : UInt8) (k : Nat) (h : p.length ≤ k) : mixB p c k = p.map (fun x => x ^^^ c) := by
  unfold mixB
  rw [List.take_of_length_le h, List.drop_of_length_le h, List.append_nil]

def MRel (V : World) (l : List UInt8) (q : Nat) (s7 s8 : Value) (W : World) : Prop :=
  ∃ (B D : Nat) (x : ByteArray), s7 = .pointer (some ⟨B, 0, none⟩) ∧ s8 = .int .i64 0 ∧ HashAt W B D (mixAll firstS l) x q ∧ bl x = restOf l ∧ Bel V W
def MaskRel (w : World) (p : List UInt8) (c : UInt8) (i : Value) (wr : World) : Prop :=
  ∃ k : Nat, k ≤ 64 ∧ i = .int .i64 (k : Int) ∧ BlkB wr (w.heap.size + 1) 139 (mixB p c k) ∧ wr.heap[w.heap.size]? = some (.cells #[.slice none 0 0, .string ⟨#[]⟩, .int .u64 0] 118) ∧ Below w.heap.size w wr

set_option maxHeartbeats 4000000 in
theorem masked_any (x : ByteArray) (hx : x.size ≤ 64) (c : UInt8) (w : World) (hF : FirstAt w) (hK : KeysAt w) :
    Calls Tryd.prog 90 #[.string x, .int .u8 (c.toNat : Int)] w fun e w' => ∃ v, e = .returned v ∧ HashV w' v (mixAll firstS ((padK (bl x)).map fun y => y ^^^ c)) (restOf ((padK (bl x)).map fun y => y ^^^ c)) 64 ∧ Below w.heap.size w w' := by
  go_enter Tryd.func90, Tryd.ntmps90
  go_upto_region 2 with fail
  have h0 : ((w.alloc (.cells #[.slice none 0 0, .string ⟨#[]⟩, .int .u64 0] 118)).alloc (.cells (Lib.byteCells (List.replicate 64 0)).toArray 139)).heap[w.heap.size]? = some (.cells #[.slice none 0 0, .string ⟨#[]⟩, .int .u64 0] 118) := heap_alloc2_old _ _ _
  have h1 : BlkB ((w.alloc (.cells #[.slice none 0 0, .string ⟨#[]⟩, .int .u64 0] 118)).alloc (.cells (Lib.byteCells (List.replicate 64 0)).toArray 139)) (w.heap.size + 1) 139 (List.replicate 64 0) := heap_alloc2_new _ _ _
  have hb : Below w.heap.size w ((w.alloc (.cells #[.slice none 0 0, .string ⟨#[]⟩, .int .u64 0] 118)).alloc (.cells (Lib.byteCells (List.replicate 64 0)).toArray 139)) := by go_grown
  change Code.wp Tryd.prog _ _ _ ((w.alloc (.cells #[.slice none 0 0, .string ⟨#[]⟩, .int .u64 0] 118)).alloc (.cells (Lib.byteCells (List.replicate 64 0)).toArray 139))
  generalize World.alloc (World.alloc w _) _ = W at h0 h1 hb ⊢
  have hcp := Lib.run_copy_row_string (P := Tryd.prog) W 74 9 3 5 (w.heap.size + 1) 0 64 64 x (Lib.byteCells (List.replicate 64 0)).toArray 139 Tryd.underlying74 (by kernel_rfl) h1 hx (by simp [Lib.byteCells]; exact hx)
  have hY : ((Lib.byteCells (List.replicate 64 0)).toArray.toList.take 0 ++ Lib.byteCells x.data.toList ++ (Lib.byteCells (List.replicate 64 0)).toArray.toList.drop (0 + x.size)) = Lib.byteCells (padK (bl x)) := by
    rw [List.take_zero, List.nil_append]
    unfold Lib.byteCells padK
    rw [List.map_replicate, List.drop_replicate, List.map_append, List.map_replicate, bl_length, Nat.zero_add]
    rfl
  rw [hY] at hcp
  have hW2 : BlkB (W.setRow (w.heap.size + 1) (Lib.byteCells (padK (bl x))).toArray) (w.heap.size + 1) 139 (padK (bl x)) := setRow_heap _ _ _ _ _ _ h1
  have h02 : (W.setRow (w.heap.size + 1) (Lib.byteCells (padK (bl x))).toArray).heap[w.heap.size]? = some (.cells #[.slice none 0 0, .string ⟨#[]⟩, .int .u64 0] 118) := by rw [setRow_other _ _ _ _ (by omega)]; exact h0
  have hb2 : Below w.heap.size w (W.setRow (w.heap.size + 1) (Lib.byteCells (padK (bl x))).toArray) := hb.trans ⟨rfl, rfl, rfl, by simp, fun k hk => setRow_other _ _ _ _ (by omega)⟩
  have HW2 := Lib.hid hW2; have H02 := Lib.hid h02; have HB2 := Lib.hid hb2
  clear h0 h1 hb hY hW2 h02 hb2
  go_wp2_with fail
  clear hcp
  have hpl : (padK (bl x)).length = 64 := padK_length _ (by rw [bl_length]; exact hx)
  obtain ⟨p, hp⟩ : ∃ p, padK (bl x) = p := ⟨_, rfl⟩
  rw [hp] at HW2 H02 HB2 hpl ⊢
  obtain ⟨ll, hll⟩ : ∃ ll, p.map (fun y => y ^^^ c) = ll := ⟨_, rfl⟩
  have hllen : ll.length = 64 := by rw [← hll, List.length_map]; exact hpl
  have HLL := Lib.hid hll; have HLLEN := Lib.hid hllen; have HP := Lib.hid hp
  clear hp hll hllen
  generalize World.setRow W _ _ = W2 at HW2 H02 HB2 ⊢
  clear hx
  go_loopw [12] (MaskRel w p c) (fun i _ => 64 - (intOf i).toNat)
  case atStart => exact ⟨0, by omega, rfl, by rw [show mixB p c 0 = p by simp [mixB]]; exact HW2.out, H02.out, HB2.out⟩
  case round =>
    clear HW2 H02 HB2
    obtain ⟨k, hk, rfl, hB, hN, hbl⟩ := hrel
    by_cases hlt : k < 64
    · have l1 : (k : Int) < 64 := by omega
      have c1 := hB.cell k (by rw [mixB_length]; omega)
      have f1 := hB.frozen k
      rw [mixB_get _ _ _ (by omega)] at c1
      have hst := hB.set k (p.getD k 0 ^^^ c)
      rw [mixB_set _ _ _ (by omega)] at hst
      have hx8 := bits_xor8 (p.getD k 0) c
      obtain ⟨y, hy⟩ : ∃ y, p.getD k 0 = y := ⟨_, rfl⟩
      rw [hy] at c1 hst hx8
      obtain ⟨z, hz⟩ : ∃ z, y ^^^ c = z := ⟨_, rfl⟩
      rw [hz] at hst hx8
      have hN2 : (wr.setCell ⟨w.heap.size + 1, k, none⟩ (.int .u8 (z.toNat : Int))).heap[w.heap.size]? = some (.cells #[.slice none 0 0, .string ⟨#[]⟩, .int .u64 0] 118) := by rw [heap_setCell_other _ _ _ _ (by show w.heap.size ≠ w.heap.size + 1; omega)]; exact hN
      have hbl2 := hbl.setCell (p := ⟨w.heap.size + 1, k, none⟩) (Nat.le_succ _) (.int .u8 (z.toNat : Int))
      have HST := Lib.hid hst; have HN2 := Lib.hid hN2; have HBL2 := Lib.hid hbl2
      clear hst hN2 hbl2 hB hN hbl hy hz
      go_wp2_with fail
      exact ⟨⟨k + 1, by omega, by simp, HST.out, HN2.out, HBL2.out⟩, by simp [intOf]; omega⟩
    · obtain rfl : k = 64 := by omega
      rw [mixB_all _ _ _ (by omega), HLL.out] at hB
      have hn1 : w.heap.size + 1 < wr.heap.size := hB.lt
      have hF := hF.on hbl
      have hK := hK.on hbl
      obtain ⟨L, hL⟩ : ∃ L, strL ll = L := ⟨_, rfl⟩
      have hLb : bl L = ll := by rw [← hL, bl_strL]
      have hLs : L.size = 64 := by rw [← hL, strL_size, HLLEN.out]
      have hcv : ∀ w' : World, Bel wr w' → ((convert 74 9 (.slice (some ⟨w.heap.size + 1, 0, none⟩) 64 64)).run Tryd.prog w' = .ok (.string L) w') ∧ Bel wr w' := fun w' h => ⟨by have := (hB.on h.b).text 64 64 HLLEN.out.symm; rw [hL] at this; exact this, h⟩
      have hbc : ∀ w' : World, ((convert 74 9 (.slice (some ⟨w.heap.size + 1, 0, none⟩) 64 64)).run Tryd.prog w' = .ok (.string L) w') ∧ Bel wr w' → Bel wr w' := fun w' h => h.2
      have HCV := Lib.hid hcv; have HBC := Lib.hid hbc
      have hwr := fun D W h1 h2 => write_good (some ⟨D, 0, none⟩) 8 8 firstS ⟨#[]⟩ L 0 (by omega) (by rfl) (by omega) W h1 h2
      have hbe : bl ⟨#[]⟩ ++ bl L = ll := by rw [hLb]; rfl
      have hz : ((0 : Nat) : Int) = 0 := rfl
      rw [hbe, hz, show (0 + L.size) % 18446744073709551616 = 64 by omega] at hwr
      have HWR := Lib.hid hwr
      have HN := Lib.hid hN; have HBL := Lib.hid hbl; have HF := Lib.hid hF; have HK := Lib.hid hK
      clear hwr hbe hz hcv hbc hL hLb hLs hB hN hbl hF hK hk hlt
      obtain ⟨V, rfl⟩ : ∃ V : World, V = wr := ⟨_, rfl⟩
      go_wp2_with fail
      go_cut [7, 8] (MRel V ll 64)
      case first =>
        have hS : (fun w' : World => ((convert 74 9 (.slice (some ⟨w.heap.size + 1, 0, none⟩) 64 64)).run Tryd.prog w' = .ok (.string L) w') ∧ Bel V w') V := HCV.out _ (Bel.refl V)
        have hS1 := hS.1
        go_region_held3 (fun w' : World => ((convert 74 9 (.slice (some ⟨w.heap.size + 1, 0, none⟩) 64 64)).run Tryd.prog w' = .ok (.string L) w') ∧ Bel V w')
          ((refine HCV.out _ ?_; (repeat ((with_reducible refine Bel.far ?_ ?far _); (case far => first | exact Nat.le_refl _ | assumption | (simp; done) | (simp; omega) | omega))); first | exact (HBC.out _ (by with_reducible assumption)) | ((with_reducible refine Bel.drew ?_); exact (HBC.out _ (by with_reducible assumption))) | ((with_reducible refine Bel.drew ?_); exact Bel.refl _) | ((with_reducible refine Bel.drew ?_); (with_reducible refine Bel.alloc ?_ _); exact (HBC.out _ (by with_reducible assumption))) | ((with_reducible refine Bel.drew ?_); (with_reducible refine Bel.alloc ?_ _); exact Bel.refl _) | ((with_reducible refine Bel.on ?_ hb); exact (HBC.out _ (by with_reducible assumption))) | ((with_reducible refine Bel.alloc ?_ _); exact (HBC.out _ (by with_reducible assumption))) | exact Bel.swap (HBC.out _ (by with_reducible assumption)) hle1 _))
          (first | (go_at_call 94; refine (new_any _ (HF.out.bel (by first | exact (HBC.out _ (by with_reducible assumption)) | exact Bel.drew (Bel.refl _) | exact Bel.refl _))).mono ?_; rintro e w' ⟨D, y, rfl, hblk, hy, hb⟩; obtain rfl : y = ⟨#[]⟩ := bl_inj hy; have hle1 := (Bel.b (Bel.on (w0 := V) (by first | exact (HBC.out _ (by with_reducible assumption)) | exact Bel.drew (Bel.refl _)) hb)).size; (first | have zh := Zh.first (by with_reducible exact hb) (by rfl) | have zh := Zh.firstd (by with_reducible exact hb) (by rfl) | have zh := Zh.on (by with_reducible assumption) hb | skip)) | (go_at_call 95; refine (HWR.out _ _ (by first | exact hblk.ws 8 8 rfl | exact (hblk.alloc _).ws 8 8 rfl) (HK.out.bel (HBC.out _ (by with_reducible assumption)))).mono ?_; rintro e w' ⟨D2, y2, rfl, hblk2, hy2, hb⟩; have hle1 := (Bel.b (Bel.on (w0 := V) (HBC.out _ (by with_reducible assumption)) hb)).size; (first | (have zh := Zh.first (by with_reducible exact hb) (by rfl); obtain ⟨⟨z0, z1, z2⟩, ⟨f0, f1, f2⟩, zlt⟩ := zh.open) | (have zh := Zh.firstd (by with_reducible exact hb) (by rfl); obtain ⟨⟨z0, z1, z2⟩, ⟨f0, f1, f2⟩, zlt⟩ := zh.open) | (have zh := Zh.on (by with_reducible assumption) hb; obtain ⟨⟨z0, z1, z2⟩, ⟨f0, f1, f2⟩, zlt⟩ := zh.open) | skip)))
        · have hh := HashAt.laid hblk2 y2 64
          have hbe := (HBC.out _ (by with_reducible assumption))
          go_wp2_with fail
          go_meet
          exact ⟨_, _, y2, rfl, rfl, hh, hy2, hbe⟩
        all_goals
          have hh := zh.put hblk2 y2 64
          go_wp2_with fail
          go_meet
          exact ⟨_, _, y2, rfl, rfl, hh, hy2, (HBC.out _ (by with_reducible assumption))⟩
      case rest =>
        obtain ⟨B, D, y, rfl, rfl, hH, hy, hbel⟩ := hcut
        have c0 := hH.c0; have c1 := hH.c1; have c2 := hH.c2
        have hltB := hH.lt
        have hR : wc.heap[w.heap.size]? = some (.cells #[.slice none 0 0, .string ⟨#[]⟩, .int .u64 0] 118) := by rw [hbel.b.block _ (by omega)]; exact HN.out
        have d0 : wc.cell? ⟨w.heap.size, 0, none⟩ = some (.slice none 0 0) := by rw [cell_of_row _ _ _ _ _ _ hR]; rfl
        have d1 : wc.cell? ⟨w.heap.size, 1, none⟩ = some (.string ⟨#[]⟩) := by rw [cell_of_row _ _ _ _ _ _ hR]; rfl
        have d2 : wc.cell? ⟨w.heap.size, 2, none⟩ = some (.int .u64 0) := by rw [cell_of_row _ _ _ _ _ _ hR]; rfl
        have f0 := frozen_of_row wc w.heap.size 0 _ _ hR
        have f1 := frozen_of_row wc w.heap.size 1 _ _ hR
        have f2 := frozen_of_row wc w.heap.size 2 _ _ hR
        have hne : D ≠ w.heap.size := by
          rintro rfl
          have h8 := hH.blk
          unfold BlkW at h8
          rw [hR] at h8
          have := congrArg (fun o => match o with | some (Obj.cells cs _ _) => cs.size | _ => 0) h8
          simp [Wd, S8.l] at this
        have hbw : Below w.heap.size w wc := HBL.out.trans (hbel.b.mono (by omega))
        have s3 := set3 ⟨d0, d1, d2⟩ (.slice (some ⟨D, 0, none⟩) 8 8) (.string y) (.int .u64 64)
        have hk := ((hH.blk.far ⟨w.heap.size, 0, none⟩ hne (.slice (some ⟨D, 0, none⟩) 8 8)).far ⟨w.heap.size, 1, none⟩ hne (.string y)).far ⟨w.heap.size, 2, none⟩ hne (.int .u64 64)
        have hbl : Below w.heap.size w _ := ((hbw.setCell (p := ⟨w.heap.size, 0, none⟩) (Nat.le_refl _) (.slice (some ⟨D, 0, none⟩) 8 8)).setCell (p := ⟨w.heap.size, 1, none⟩) (Nat.le_refl _) (.string y)).setCell (p := ⟨w.heap.size, 2, none⟩) (Nat.le_refl _) (.int .u64 64)
        have HS3 := Lib.hid s3; have HKK := Lib.hid hk; have HBLL := Lib.hid hbl; have HY := Lib.hid hy
        clear s3 hk hbl hy hH hR hne hbel hbw HN HBL HF HK HCV HBC HWR hpl
        go_wp2_with fail
        obtain ⟨e0, e1, e2⟩ := HS3.out
        refine bodyPost_ret (v := .agg #[.slice (some ⟨D, 0, none⟩) 8 8, .string y, .int .u64 64]) (by simp [results, Tryd.results90, go_sem, e0, e1, e2]) rfl ⟨_, rfl, ⟨D, 0, 8, y, rfl, ?_, ?_⟩, HBLL.out⟩
        · rw [HP.out, HLL.out]; exact HKK.out.ws 8 8 rfl
        · rw [HP.out, HLL.out]; exact HY.out
end Go.Proofs.YtdnjieffbgmagaaDoor