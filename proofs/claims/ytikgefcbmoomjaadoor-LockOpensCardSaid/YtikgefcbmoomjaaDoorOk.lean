/- LockOpens: whether anything locked is opened, and the text, is as the reference says, or refused. -/
import Derived.Test.YtikgefcbmoomjaaDoorOh
import Derived.Test.YtikgefcbmoomjaaDoorOg
import Derived.Test.YtikgefcbmoomjaaDoorEkeys
namespace Go.Proofs.YtikgefcbmoomjaaDoor
open Go.RowKit Go.Sort
set_option maxRecDepth 100000
set_option maxHeartbeats 8000000 in
theorem lockOpens_any (k h x : ByteArray) (hk : k.size ≤ maxLen) (hh : h.size ≤ maxLen) (hx : x.size ≤ maxLen) (w : World) (hF : FirstAt w) (hK : KeysAt w) :
    Calls Tryd.prog 4 #[.string k, .string h, .string x] w fun e w' => e = .returned (.bool true) ∧ Below w.heap.size w w' := by
  have hkr := cutk_run k hk
  have hc1 : ∀ W : World, Calls Tryd.prog 6 #[.string h, .int .i64 60] W fun e w' => e = .returned (.string (cut6 h 60)) ∧ Below W.heap.size W w' := fun W => (cut6_any h hh 60 (by omega) W).mono fun e w' ⟨h1, h2⟩ => ⟨h1, by rw [← h2]; exact Below.refl _ _⟩
  have hc2 : ∀ W : World, Calls Tryd.prog 6 #[.string x, .int .i64 140] W fun e w' => e = .returned (.string (cut6 x 140)) ∧ Below W.heap.size W w' := fun W => (cut6_any x hx 140 (by omega) W).mono fun e w' ⟨h1, h2⟩ => ⟨h1, by rw [← h2]; exact Below.refl _ _⟩
  have hsk := cutS_size k 40
  have hsh := cut6_size h 60 hh (by omega)
  have hsx := cut6_size x 140 hx (by omega)
  obtain ⟨k1, ek⟩ : ∃ k1, cutS k 40 = k1 := ⟨_, rfl⟩
  obtain ⟨h1, eh⟩ : ∃ h1, cut6 h 60 = h1 := ⟨_, rfl⟩
  obtain ⟨x1, ex⟩ : ∃ x1, cut6 x 140 = x1 := ⟨_, rfl⟩
  rw [ek] at hkr hsk
  rw [eh] at hc1 hsh
  rw [ex] at hc2 hsx
  have HC1 := Lib.hid hc1; have HC2 := Lib.hid hc2; have HSZ := Lib.hid (And.intro hsk (And.intro hsh hsx))
  have HFK := Lib.hid (And.intro hF hK)
  clear hc1 hc2 ek eh ex hk hh hx hsk hsh hsx hF hK
  go_enter Tryd.func4, Tryd.ntmps4
  go_upto_region 1 with fail
  refine wp_region_quiet_below (by kernel_rfl) (by kernel_rfl) ?_
  iterate 12 (quiet_step (first | (go_at_call_of 6 (Value.string h); exact Calls.regrown_of (HC1.out _)) | (go_at_call_of 6 (Value.string x); exact Calls.regrown_of (HC2.out _))))
  refine wpQuiet_nil ?_
  intro _ hw'
  obtain ⟨⟨dq, osq⟩, hw''⟩ := hw'
  subst hw''
  have hB0 := below_regrown w dq osq
  have hF0 := HFK.out.1.on hB0; have hK0 := HFK.out.2.on hB0
  clear hkr HC1 HC2 HFK
  generalize grow (redrawn w dq) osq = W at hB0 hF0 hK0 ⊢
  obtain ⟨hk, hh, hx⟩ := HSZ.out
  clear HSZ
  have hwn : IntKind.i64.wrap ((x1.size : Int) - 32) = (x1.size : Int) - 32 := IntWalk.i64_in _ (by unfold maxLen at hx; omega)
  by_cases hg : k1.size = 32 ∧ h1.size ≤ 1024 ∧ (32 ≤ x1.size ∧ x1.size ≤ 1056)
  case neg =>
    have ho := Open_bad k1 h1 x1 hg
    have hm := May_any k1 h1 ((x1.size : Int) - 32)
    have hd : decide (k1.size = 32 ∧ h1.size ≤ 1024 ∧ 0 ≤ (x1.size : Int) - 32 ∧ (x1.size : Int) - 32 ≤ 1024) = false := decide_eq_false (fun ⟨a, b, c, d⟩ => hg ⟨a, b, by omega, by omega⟩)
    rw [hd] at hm
    have HO := Lib.hid ho; have HM := Lib.hid hm; have HB0 := Lib.hid hB0; have HF0 := Lib.hid hF0; have HK0 := Lib.hid hK0
    clear ho hm hd hg hB0 hF0 hK0 hk hh hx
    go_wp2_with fail
    refine (HO.out _).mono ?_
    rintro e w1 ⟨rfl, rfl⟩
    go_wp2_with fail
    refine (HM.out _).mono ?_
    rintro e w2 ⟨rfl, rfl⟩
    go_wp2_with fail
    refine (alive6_any _ HF0.out HK0.out).mono ?_
    rintro e w2 ⟨rfl, hb2⟩
    have hb := HB0.out.trans (hb2.mono HB0.out.size)
    clear HO HM HB0 HF0 HK0 hb2
    go_wp2_with fail
    go_ret
    exact ⟨by first | rfl | simp, hb⟩
  case pos =>
    by_cases hc : tagOfL (tagkL (bl k1)) (bl h1) ((bl x1).take (x1.size - 32)) = (bl x1).drop (x1.size - 32)
    case pos =>
      obtain ⟨g1, g2, g3⟩ := hg
      have ho := Open_good k1 h1 x1 g1 g2 g3 hc
      have hr := fun kv => refopen_good kv k1 h1 x1 g1 g2 g3 hc
      obtain ⟨X, eX⟩ : ∃ X, strL (xorC (hideL (bl k1)) (nonL (bl k1)) ((bl x1).take (x1.size - 32))) = X := ⟨_, rfl⟩
      rw [eX] at ho hr
      clear eX
      have hm := May_any k1 h1 ((x1.size : Int) - 32)
      have hd : decide (k1.size = 32 ∧ h1.size ≤ 1024 ∧ 0 ≤ (x1.size : Int) - 32 ∧ (x1.size : Int) - 32 ≤ 1024) = true := decide_eq_true ⟨g1, g2, by omega, by omega⟩
      rw [hd] at hm
      have HO := Lib.hid ho; have HR := Lib.hid hr; have HM := Lib.hid hm
      have HB0 := Lib.hid hB0; have HF0 := Lib.hid hF0; have HK0 := Lib.hid hK0
      clear ho hr hm hd hc g1 g2 g3 hB0 hF0 hK0 hk hh hx
      go_wp2_with fail
      refine (HO.out _ HF0.out HK0.out).mono ?_
      rintro e w1 ⟨rfl, hb1⟩
      have hF1 := Lib.hid (HF0.out.on hb1); have hK1 := Lib.hid (HK0.out.on hb1)
      have hB1 := Lib.hid (HB0.out.trans (hb1.mono HB0.out.size))
      clear HO HF0 HK0 HB0 hb1
      go_wp2_with fail
      refine (HM.out _).mono ?_
      rintro e w2 ⟨rfl, rfl⟩
      go_wp2_with fail
      refine (numbers_all _).mono ?_
      rintro e w3 ⟨kv, rfl, hKA, hb3⟩
      have hF3 := Lib.hid (hF1.out.on hb3); have hK3 := Lib.hid (hK1.out.on hb3)
      have hB3 := Lib.hid (hB1.out.trans (hb3.mono hB1.out.size))
      have HR3 := Lib.hid (HR.out kv w3 hKA)
      clear HM hwn hF1 hK1 hB1 hb3 hKA HR
      go_wp2_with fail
      refine HR3.out.mono ?_
      rintro e w4 ⟨rfl, hb4⟩
      have hb5 : Below w3.heap.size w3 (w4.alloc (.cells #[.string X, .bool true] 40)) := hb4.alloc hb4.size _
      have hc5 : (w4.alloc (.cells #[.string X, .bool true] 40)).heap[w4.heap.size]? = some (.cells #[.string X, .bool true] 40) := heap_alloc_new _ _
      clear HR3 hb4
      go_upto_region 6 with fail
      generalize World.alloc w4 _ = V at hb5 hc5 ⊢
      have hF5 := Lib.hid (hF3.out.on hb5); have hK5 := Lib.hid (hK3.out.on hb5)
      have hB5 := Lib.hid (hB3.out.trans (hb5.mono hB3.out.size))
      have HC5 := Lib.hid hc5
      clear hF3 hK3 hB3 hb5 hc5
      go_wp2_with fail
      refine (alive6_any _ hF5.out hK5.out).mono ?_
      rintro e w6 ⟨rfl, hb6⟩
      have hlt : w4.heap.size < V.heap.size := (Array.getElem?_eq_some_iff.1 HC5.out).1
      have hc6 : w6.heap[w4.heap.size]? = some (.cells #[.string X, .bool true] 40) := by rw [hb6.block _ hlt]; exact HC5.out
      have e0 : w6.cell? ⟨w4.heap.size, 0, none⟩ = some (.string X) := by rw [cell_of_row _ _ _ _ _ _ hc6]; rfl
      have e1 : w6.cell? ⟨w4.heap.size, 1, none⟩ = some (.bool true) := by rw [cell_of_row _ _ _ _ _ _ hc6]; rfl
      have hend := Lib.hid (hB5.out.trans (hb6.mono hB5.out.size))
      clear hF5 hK5 hB5 HC5 hb6 hlt hc6
      go_wp2_with fail
      go_ret
      exact ⟨by first | rfl | simp, hend.out⟩
    case neg =>
      obtain ⟨g1, g2, g3⟩ := hg
      have ho := Open_not k1 h1 x1 g1 g2 g3 hc
      have hr := fun kv => refopen_not kv k1 h1 x1 g1 g2 g3 hc
      have hm := May_any k1 h1 ((x1.size : Int) - 32)
      have hd : decide (k1.size = 32 ∧ h1.size ≤ 1024 ∧ 0 ≤ (x1.size : Int) - 32 ∧ (x1.size : Int) - 32 ≤ 1024) = true := decide_eq_true ⟨g1, g2, by omega, by omega⟩
      rw [hd] at hm
      have HO := Lib.hid ho; have HR := Lib.hid hr; have HM := Lib.hid hm
      have HB0 := Lib.hid hB0; have HF0 := Lib.hid hF0; have HK0 := Lib.hid hK0
      clear ho hr hm hd hc g1 g2 g3 hB0 hF0 hK0 hk hh hx
      go_wp2_with fail
      refine (HO.out _ HF0.out HK0.out).mono ?_
      rintro e w1 ⟨rfl, hb1⟩
      have hF1 := Lib.hid (HF0.out.on hb1); have hK1 := Lib.hid (HK0.out.on hb1)
      have hB1 := Lib.hid (HB0.out.trans (hb1.mono HB0.out.size))
      clear HO HF0 HK0 HB0 hb1
      go_wp2_with fail
      refine (HM.out _).mono ?_
      rintro e w2 ⟨rfl, rfl⟩
      go_wp2_with fail
      refine (numbers_all _).mono ?_
      rintro e w3 ⟨kv, rfl, hKA, hb3⟩
      have hF3 := Lib.hid (hF1.out.on hb3); have hK3 := Lib.hid (hK1.out.on hb3)
      have hB3 := Lib.hid (hB1.out.trans (hb3.mono hB1.out.size))
      have HR3 := Lib.hid (HR.out kv w3 hKA)
      clear HM hwn hF1 hK1 hB1 hb3 hKA HR
      go_wp2_with fail
      refine HR3.out.mono ?_
      rintro e w4 ⟨rfl, hb4⟩
      have hb5 : Below w3.heap.size w3 (w4.alloc (.cells #[.string ⟨#[]⟩, .bool false] 40)) := hb4.alloc hb4.size _
      have hc5 : (w4.alloc (.cells #[.string ⟨#[]⟩, .bool false] 40)).heap[w4.heap.size]? = some (.cells #[.string ⟨#[]⟩, .bool false] 40) := heap_alloc_new _ _
      clear HR3 hb4
      go_upto_region 6 with fail
      generalize World.alloc w4 _ = V at hb5 hc5 ⊢
      have hF5 := Lib.hid (hF3.out.on hb5); have hK5 := Lib.hid (hK3.out.on hb5)
      have hB5 := Lib.hid (hB3.out.trans (hb5.mono hB3.out.size))
      have HC5 := Lib.hid hc5
      clear hF3 hK3 hB3 hb5 hc5
      go_wp2_with fail
      refine (alive6_any _ hF5.out hK5.out).mono ?_
      rintro e w6 ⟨rfl, hb6⟩
      have hlt : w4.heap.size < V.heap.size := (Array.getElem?_eq_some_iff.1 HC5.out).1
      have hc6 : w6.heap[w4.heap.size]? = some (.cells #[.string ⟨#[]⟩, .bool false] 40) := by rw [hb6.block _ hlt]; exact HC5.out
      have e0 : w6.cell? ⟨w4.heap.size, 0, none⟩ = some (.string ⟨#[]⟩) := by rw [cell_of_row _ _ _ _ _ _ hc6]; rfl
      have e1 : w6.cell? ⟨w4.heap.size, 1, none⟩ = some (.bool false) := by rw [cell_of_row _ _ _ _ _ _ hc6]; rfl
      have hend := Lib.hid (hB5.out.trans (hb6.mono hB5.out.size))
      clear hF5 hK5 hB5 HC5 hb6 hlt hc6
      go_wp2_with fail
      go_ret
      exact ⟨by first | rfl | simp, hend.out⟩
end Go.Proofs.YtikgefcbmoomjaaDoor