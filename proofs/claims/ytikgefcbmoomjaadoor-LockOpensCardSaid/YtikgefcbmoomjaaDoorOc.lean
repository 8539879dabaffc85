/- lock's keys of a message's key: the one that encrypts, the one that tags, and the nonce. -/
import Derived.Test.YtikgefcbmoomjaaDoorZj
import Derived.Test.YtikgefcbmoomjaaDoorQl
import Derived.Test.YtikgefcbmoomjaaDoorFexa
import Derived.Test.YtikgefcbmoomjaaDoorHi
namespace Go.Proofs.YtikgefcbmoomjaaDoor
open Go.RowKit Go.Sort
set_option maxRecDepth 100000
def lockW : ByteArray := ⟨#[108, 111, 99, 107]⟩
/-- the key that encrypts -/
def hideL (k : List UInt8) : List UInt8 := lastT k (bl lockW) 1
/-- the key that tags -/
def tagkL (k : List UInt8) : List UInt8 := lastT k (bl lockW) 2
def nonL (k : List UInt8) : List UInt8 := (lastT k (bl lockW) 3).take 12
theorem hideL_length (k : List UInt8) : (hideL k).length = 32 := ofL_length _
theorem tagkL_length (k : List UInt8) : (tagkL k).length = 32 := ofL_length _
theorem nonL_length (k : List UInt8) : (nonL k).length = 12 := by
  unfold nonL
  rw [List.length_take, lastT, show (tagL k (lastT k (bl lockW) 2 ++ bl lockW ++ [UInt8.ofNat (2 + 1)])).length = 32 from ofL_length _]
  rfl
theorem cut12 (C D : ByteArray) (hC : C.size = 32) (hD : C.extract 0 12 = D) (W : World) : (Instr.slice 9 (.string C) none (some (.int .i64 12)) none).run Tryd.prog W = .ok (.string D) W := by
  have l1 : (12 : Int) ≤ (C.size : Int) := by omega
  clear hC
  rw [← hD]
  go_simp

set_option maxHeartbeats 4000000 in
theorem keysOf_any (k : ByteArray) (hk : k.size ≤ 1000000) (w : World) (hF : FirstAt w) (hK : KeysAt w) :
    Calls Tryd.prog 19 #[.string k] w fun e w' => e = .returned (.agg #[.string (strL (hideL (bl k))), .string (strL (tagkL (bl k))), .string (strL (nonL (bl k)))]) ∧ Below w.heap.size w w' := by
  have hb0 : Below w.heap.size w (w.alloc (.cells #[.string ⟨#[]⟩, .string ⟨#[]⟩, .string ⟨#[]⟩] 46)) := by go_grown
  have hr0 : (w.alloc (.cells #[.string ⟨#[]⟩, .string ⟨#[]⟩, .string ⟨#[]⟩] 46)).heap[w.heap.size]? = some (.cells #[.string ⟨#[]⟩, .string ⟨#[]⟩, .string ⟨#[]⟩] 46) := heap_alloc_new _ _
  have hs : Calls Tryd.prog 30 #[.string k, .string ⟨#[108, 111, 99, 107]⟩, .int .i64 3] (w.alloc (.cells #[.string ⟨#[]⟩, .string ⟨#[]⟩, .string ⟨#[]⟩] 46)) fun e w' => ∃ g cap, e = .returned (.tuple #[.slice (some ⟨g, 0, none⟩) 3 cap, .int .i64 0]) ∧ StrsAt w' (.slice (some ⟨g, 0, none⟩) 3 cap) (rowT (bl k) (bl lockW) 3) ∧ 3 ≤ cap ∧ Below (w.alloc (.cells #[.string ⟨#[]⟩, .string ⟨#[]⟩, .string ⟨#[]⟩] 46)).heap.size (w.alloc (.cells #[.string ⟨#[]⟩, .string ⟨#[]⟩, .string ⟨#[]⟩] 46)) w' :=
    split_good k lockW 3 hk (by decide) (by omega) _ (hF.on hb0) (hK.on hb0)
  have HS := Lib.hid hs; have HB0 := Lib.hid hb0; have HR0 := Lib.hid hr0
  clear hs hb0 hr0 hF hK hk
  go_enter Tryd.func19, Tryd.ntmps19
  go_wp2_with fail
  refine HS.out.mono ?_
  rintro e w1 ⟨g, cap, rfl, hl, -, hb1⟩
  have hBw := HB0.out.trans (hb1.mono HB0.out.size)
  have hr1 : w1.heap[w.heap.size]? = some (.cells #[.string ⟨#[]⟩, .string ⟨#[]⟩, .string ⟨#[]⟩] 46) := by rw [hb1.block _ (by simp)]; exact HR0.out
  obtain ⟨b, o, c, e0, hlt, hcl⟩ := hl
  obtain ⟨⟨rfl, rfl⟩, rfl⟩ : (g = b ∧ 0 = o) ∧ cap = c := by simpa [rowT] using e0
  have c0 := hcl 0 (by rw [rowT_length]; decide); have c1 := hcl 1 (by rw [rowT_length]; decide); have c2 := hcl 2 (by rw [rowT_length]; decide)
  obtain ⟨A, eA⟩ : ∃ A, strL (lastT (bl k) (bl lockW) 1) = A := ⟨_, rfl⟩
  obtain ⟨B, eB⟩ : ∃ B, strL (lastT (bl k) (bl lockW) 2) = B := ⟨_, rfl⟩
  obtain ⟨C, eC⟩ : ∃ C, strL (lastT (bl k) (bl lockW) 3) = C := ⟨_, rfl⟩
  have hrow : rowT (bl k) (bl lockW) 3 = [A, B, C] := by rw [← eA, ← eB, ← eC]; rfl
  rw [hrow] at c0 c1 c2
  replace c0 : w1.cell? ⟨g, 0, none⟩ = some (.string A) := c0
  replace c1 : w1.cell? ⟨g, 1, none⟩ = some (.string B) := c1
  replace c2 : w1.cell? ⟨g, 2, none⟩ = some (.string C) := c2
  have hCs : C.size = 32 := by rw [← eC, strL_size]; exact ofL_length _
  obtain ⟨D, eD⟩ : ∃ D, C.extract 0 12 = D := ⟨_, rfl⟩
  have hD : strL (nonL (bl k)) = D := bl_inj (by rw [← eD, bl_extract, List.drop_zero, ← eC, bl_strL, bl_strL]; rfl)
  have hsl := cut12 C D hCs eD
  have q0 := cell_regrown c0; have q1 := cell_regrown c1; have q2 := cell_regrown c2
  have HR1 := Lib.hid hr1; have HBW := Lib.hid hBw; have HD := Lib.hid hD; have HA := Lib.hid eA; have HBB := Lib.hid eB
  clear HS HB0 HR0 hb1 hBw hr1 e0 hcl hrow eA eB eC eD hD c0 c1 c2 hCs
  go_upto_region 2 with fail
  refine wp_region_last_below 11 _ (by kernel_rfl) rfl rfl rfl rfl (by kernel_rfl) (by kernel_rfl) ?_
  simp only [List.take_succ_cons, List.take_zero]
  iterate 11 (quiet_step (fail))
  refine wpQuiet_nil ?_
  intro _ hw'
  obtain ⟨⟨dq, osq⟩, hw''⟩ := hw'
  subst hw''
  have hb := below_regrown w1 dq osq
  have hR : w.heap.size < w1.heap.size := (Array.getElem?_eq_some_iff.1 HR1.out).1
  have hBW := HBW.out.trans (hb.mono HBW.out.size)
  have hr2 : (grow (redrawn w1 dq) osq).heap[w.heap.size]? = some (.cells #[.string ⟨#[]⟩, .string ⟨#[]⟩, .string ⟨#[]⟩] 46) := by rw [hb.block _ hR]; exact HR1.out
  clear q0 q1 q2 hb hR HR1 HBW hsl hlt
  generalize grow (redrawn w1 dq) osq = W1 at hBW hr2 ⊢
  have r0 : W1.cell? ⟨w.heap.size, 0, none⟩ = some (.string ⟨#[]⟩) := by rw [cell_of_row _ _ _ _ _ _ hr2]; rfl
  have r1 : W1.cell? ⟨w.heap.size, 1, none⟩ = some (.string ⟨#[]⟩) := by rw [cell_of_row _ _ _ _ _ _ hr2]; rfl
  have r2 : W1.cell? ⟨w.heap.size, 2, none⟩ = some (.string ⟨#[]⟩) := by rw [cell_of_row _ _ _ _ _ _ hr2]; rfl
  have f0 := frozen_of_row W1 w.heap.size 0 _ _ hr2
  have f1 := frozen_of_row W1 w.heap.size 1 _ _ hr2
  have f2 := frozen_of_row W1 w.heap.size 2 _ _ hr2
  have hS := set3 ⟨r0, r1, r2⟩ (.string A) (.string B) (.string D)
  have hBS := below3 hBW (Nat.le_refl _) (.string A) (.string B) (.string D)
  have HSS := Lib.hid hS; have HBS := Lib.hid hBS
  clear hS hBS hr2 hBW
  go_wp2_with fail
  clear r0 r1 r2 f0 f1 f2
  generalize World.setCell (World.setCell (World.setCell W1 _ _) _ _) _ _ = V at HSS HBS ⊢
  obtain ⟨s0, s1, s2⟩ := HSS.out
  refine bodyPost_ret (v := .agg #[.string A, .string B, .string D]) (by simp [results, Tryd.results19, go_sem, s0, s1, s2]) rfl ⟨?_, HBS.out⟩
  unfold hideL tagkL
  rw [HA.out, HBB.out, HD.out]
end Go.Proofs.YtikgefcbmoomjaaDoor