/- The law LogScans. -/
import Derived.Test.YtimijdmigdlhfaaUt
import Derived.Test.YtimijdmigdlhfaaUq
namespace Go.Proofs.Ytimijdmigdlhfaa
open Go.RowKit
set_option maxRecDepth 100000

set_option maxHeartbeats 4000000 in
theorem logScans_any (hck : ckP = ckR) (s0 : ByteArray) (_ : s0.size ≤ maxLen) (w : World) :
    Calls Try.prog 4 #[.string s0] w fun e w' => e = .returned (.bool true) ∧ Below w.heap.size w w' := by
  obtain ⟨m, hm, hmin⟩ : ∃ m : Nat, m ≤ s0.size ∧ m ≤ 3000 ∧ min (s0.size : Int) 3000 = (m : Int) := ⟨min s0.size 3000, by omega, by omega, by omega⟩
  obtain ⟨hm3, hmin⟩ := hmin
  have hcut := cut_ahead s0 m hm
  have hsz : (strL ((bl s0).take m)).size ≤ 3000 := by rw [strL_size, List.length_take]; omega
  obtain ⟨s, es⟩ : ∃ s, strL ((bl s0).take m) = s := ⟨_, rfl⟩
  rw [es] at hsz
  simp only [es] at hcut
  clear es hm hm3
  have hle := scanL_le ckR (bl s)
  rw [bl_length] at hle
  have hln : (scanL ckR (bl s)).1.length ≤ 600 := by omega
  have hsm : s.size ≤ maxLen := by unfold maxLen; omega
  have hS := fun W => scan_rd s (scanL ckR (bl s)).1 (scanL ckR (bl s)).2 hsm (by rw [hck]) (by omega) W
  have hR := fun W => recover_rd s (scanL ckR (bl s)).1 (recoverL (scanL ckR (bl s)).1).1 (recoverL (scanL ckR (bl s)).1).2 hsm (by rw [hck]) rfl (by omega) W
  have hS2 := fun W => rScan_any s hsm (by omega) W
  have hR2 := fun W => rRecover_any s hsm (by omega) W
  have hlat : (recoverL (scanL ckR (bl s)).1).2.length ≤ 600 := by
    have := recoverL_len (scanL ckR (bl s)).1
    omega
  generalize (recoverL (scanL ckR (bl s)).1).1 = st at hR hR2
  generalize (recoverL (scanL ckR (bl s)).1).2 = ls at hR hR2 hlat
  generalize (scanL ckR (bl s)).1 = ts at hS hS2 hln
  generalize (scanL ckR (bl s)).2 = n at hS hS2
  have HS := Lib.hid hS; have HR := Lib.hid hR; have HS2 := Lib.hid hS2; have HR2 := Lib.hid hR2; have HL := Lib.hid (And.intro hln hlat)
  clear hS hR hS2 hR2 hln hlat hle hsz hsm hck
  go_enter Try.func4, Try.ntmps4
  go_wp2_with fail
  refine (HS.out w).mono ?_
  rintro e w1 ⟨a1, c1, rfl, hr1, hb1⟩
  have HB1 := Lib.hid hb1; have HD1 := Lib.hid hr1
  clear hb1 hr1 HS hcut hmin
  go_wp2_with fail
  refine (HR.out w1).mono ?_
  rintro e w2 ⟨a2, c2, rfl, hr2, hb2⟩
  have HB2 := Lib.hid (HB1.out.trans (hb2.mono HB1.out.size)); have HD2 := Lib.hid (And.intro (HD1.out.on hb2) hr2)
  clear hb2 hr2 HR HB1 HD1
  go_wp2_with fail
  refine (HS2.out w2).mono ?_
  rintro e w3 ⟨a3, c3, rfl, hr3, hb3, -⟩
  have HB3 := Lib.hid (HB2.out.trans (hb3.mono HB2.out.size)); have HD3 := Lib.hid (And.intro (HD2.out.1.on hb3) (And.intro (HD2.out.2.on hb3) hr3))
  clear hb3 hr3 HS2 HB2 HD2
  go_wp2_with fail
  refine (HR2.out w3).mono ?_
  rintro e w4 ⟨a4, c4, rfl, hr4, hb4⟩
  have HB4 := Lib.hid (HB3.out.trans (hb4.mono HB3.out.size)); have HD4 := Lib.hid (And.intro (HD3.out.1.on hb4) (And.intro (HD3.out.2.1.on hb4) (And.intro (HD3.out.2.2.on hb4) hr4)))
  clear hb4 hr4 HR2 HB3 HD3
  go_upto_region 5 with fail
  obtain ⟨W5, eW5⟩ : ∃ W5, (w4.alloc (.cells #[.slice a3 ts.length c3, .int .i64 (n : Int)] 40)).alloc (.cells #[.string st, .slice a4 ls.length c4] 43) = W5 := ⟨_, rfl⟩
  have p0 := heap_alloc_new w4 (.cells #[.slice a3 ts.length c3, .int .i64 (n : Int)] 40)
  have p1 := heap_alloc_new (w4.alloc (.cells #[.slice a3 ts.length c3, .int .i64 (n : Int)] 40)) (.cells #[.string st, .slice a4 ls.length c4] 43)
  have p2 := heap_alloc_old (w4.alloc (.cells #[.slice a3 ts.length c3, .int .i64 (n : Int)] 40)) (.cells #[.string st, .slice a4 ls.length c4] 43) (show w4.heap.size < _ by simp)
  have hb5 : Below w4.heap.size w4 W5 := by rw [← eW5]; exact ((Below.refl _ w4).alloc (Nat.le_refl _) _).alloc (by simp) _
  rw [World.size_alloc, eW5] at p1
  rw [eW5] at p2
  have HP := Lib.hid (And.intro (p2.trans p0) p1)
  have HB5 := Lib.hid (HB4.out.trans (hb5.mono HB4.out.size)); have HD5 := Lib.hid (And.intro (HD4.out.1.on hb5) (And.intro (HD4.out.2.1.on hb5) (And.intro (HD4.out.2.2.1.on hb5) (HD4.out.2.2.2.on hb5))))
  rw [eW5]
  clear p0 p1 p2 hb5 HB4 HD4 eW5
  obtain ⟨X, eX⟩ : ∃ X, w4.heap.size = X := ⟨_, rfl⟩
  rw [eX] at HP ⊢
  clear eX
  go_wp2_with fail
  refine (alive9_any W5).mono ?_
  rintro e w6 ⟨rfl, hb6⟩
  have j0 : w6.heap[X]? = _ := (hb6.block X (Array.getElem?_eq_some_iff.1 HP.out.1).1).trans HP.out.1
  have j1 : w6.heap[X + 1]? = _ := (hb6.block (X + 1) (Array.getElem?_eq_some_iff.1 HP.out.2).1).trans HP.out.2
  have r0 : w6.cell? ⟨X, 0, none⟩ = some (.slice a3 ts.length c3) := by rw [cell_of_row _ _ _ _ _ _ j0]; rfl
  have HJ := Lib.hid (And.intro j0 j1)
  have HB6 := Lib.hid (HB5.out.trans (hb6.mono HB5.out.size)); have HD6 := Lib.hid (And.intro (HD5.out.1.on hb6) (And.intro (HD5.out.2.1.on hb6) (And.intro (HD5.out.2.2.1.on hb6) (HD5.out.2.2.2.on hb6))))
  clear hb6 j0 j1 HB5 HD5 HP
  go_wp2_with fail
  refine (texts_same a1 a3 c1 c3 ts (by have := HL.out.1; omega) w6 HD6.out.1.ss HD6.out.2.2.1.ss).mono ?_
  rintro e w7 ⟨rfl, hb7⟩
  have j0 : w7.heap[X]? = _ := (hb7.block X (Array.getElem?_eq_some_iff.1 HJ.out.1).1).trans HJ.out.1
  have j1 : w7.heap[X + 1]? = _ := (hb7.block (X + 1) (Array.getElem?_eq_some_iff.1 HJ.out.2).1).trans HJ.out.2
  have r1 : w7.cell? ⟨X, 1, none⟩ = some (.int .i64 (n : Int)) := by rw [cell_of_row _ _ _ _ _ _ j0]; rfl
  have r2 : w7.cell? ⟨X + 1, 0, none⟩ = some (.string st) := by rw [cell_of_row _ _ _ _ _ _ j1]; rfl
  have r3 : w7.cell? ⟨X + 1, 1, none⟩ = some (.slice a4 ls.length c4) := by rw [cell_of_row _ _ _ _ _ _ j1]; rfl
  have HB7 := Lib.hid (HB6.out.trans (hb7.mono HB6.out.size)); have HD7 := Lib.hid (And.intro (HD6.out.2.1.on hb7) (HD6.out.2.2.2.on hb7))
  clear hb7 j0 j1 r0 HB6 HD6 HJ
  go_wp2_with fail
  refine (texts_same a2 a4 c2 c4 ls (by have := HL.out.2; omega) w7 HD7.out.1.ss HD7.out.2.ss).mono ?_
  rintro e w8 ⟨rfl, hb8⟩
  have HB8 := Lib.hid (HB7.out.trans (hb8.mono HB7.out.size))
  clear hb8 HB7 HD7 r1 r2 r3
  go_wp2_with fail
  go_ret
  exact ⟨rfl, HB8.out⟩
end Go.Proofs.Ytimijdmigdlhfaa
