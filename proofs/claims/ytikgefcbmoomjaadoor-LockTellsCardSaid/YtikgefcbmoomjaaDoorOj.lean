/- LockTells: any message's keys, any text locked, and any bytes tagged, are as the reference says, or refused. -/
import Derived.Test.YtikgefcbmoomjaaDoorOh
import Derived.Test.YtikgefcbmoomjaaDoorOg
import Derived.Test.YtikgefcbmoomjaaDoorEkeys
namespace Go.Proofs.YtikgefcbmoomjaaDoor
open Go.RowKit Go.Sort
set_option maxRecDepth 100000
set_option maxHeartbeats 16000000 in
theorem lockTells_any (k h x : ByteArray) (hk : k.size ≤ maxLen) (hh : h.size ≤ maxLen) (hx : x.size ≤ maxLen) (w : World) (hF : FirstAt w) (hK : KeysAt w) :
    Calls Tryd.prog 3 #[.string k, .string h, .string x] w fun e w' => e = .returned (.bool true) ∧ Below w.heap.size w w' := by
  have hkr := cutk_run k hk
  have hc1 : ∀ W : World, Calls Tryd.prog 6 #[.string h, .int .i64 60] W fun e w' => e = .returned (.string (cut6 h 60)) ∧ Below W.heap.size W w' := fun W => (cut6_any h hh 60 (by omega) W).mono fun e w' ⟨h1, h2⟩ => ⟨h1, by rw [← h2]; exact Below.refl _ _⟩
  have hc2 : ∀ W : World, Calls Tryd.prog 6 #[.string x, .int .i64 100] W fun e w' => e = .returned (.string (cut6 x 100)) ∧ Below W.heap.size W w' := fun W => (cut6_any x hx 100 (by omega) W).mono fun e w' ⟨h1, h2⟩ => ⟨h1, by rw [← h2]; exact Below.refl _ _⟩
  have hsk := cutS_size k 40
  have hsh := cut6_size h 60 hh (by omega)
  have hsx := cut6_size x 100 hx (by omega)
  obtain ⟨k1, ek⟩ : ∃ k1, cutS k 40 = k1 := ⟨_, rfl⟩
  obtain ⟨h1, eh⟩ : ∃ h1, cut6 h 60 = h1 := ⟨_, rfl⟩
  obtain ⟨x1, ex⟩ : ∃ x1, cut6 x 100 = x1 := ⟨_, rfl⟩
  rw [ek] at hkr hsk
  rw [eh] at hc1 hsh
  rw [ex] at hc2 hsx
  have HC1 := Lib.hid hc1; have HC2 := Lib.hid hc2; have HSZ := Lib.hid (And.intro hsk (And.intro hsh hsx))
  have HFK := Lib.hid (And.intro hF hK)
  clear hc1 hc2 ek eh ex hk hh hx hsk hsh hsx hF hK
  go_enter Tryd.func3, Tryd.ntmps3
  go_upto_region 1 with fail
  refine wp_region_quiet_below (by kernel_rfl) (by kernel_rfl) ?_
  iterate 12 (quiet_step (first | (go_at_call_of 6 (Value.string h); exact Calls.regrown_of (HC1.out _)) | (go_at_call_of 6 (Value.string x); exact Calls.regrown_of (HC2.out _))))
  refine wpQuiet_nil ?_
  intro _ hw'
  obtain ⟨⟨dq, osq⟩, hw''⟩ := hw'
  subst hw''
  have hB0 := below_regrown w dq osq
  have hF0 := HFK.out.1.on hB0; have hK0 := HFK.out.2.on hB0
  clear hkr HC1 HC2 HFK
  generalize grow (redrawn w dq) osq = W at hB0 hF0 hK0 ⊢
  obtain ⟨hk, hh, hx⟩ := HSZ.out
  clear HSZ
  have hz : (⟨#[]⟩ : ByteArray) ++ ⟨#[]⟩ = ⟨#[]⟩ := by rfl
  by_cases hk32 : k1.size = 32
  case neg =>
    by_cases hg : True
    case neg => exact absurd trivial hg
    case pos =>
      clear hg
      have hks := Keys_bad k1 hk32
      have hlo := Lock_bad k1 h1 x1 (fun h => hk32 h.1)
      have hag := Again_bad k1 h1 x1 (fun h => hk32 h.1)
      have hm0 : ∀ W : World, Calls Tryd.prog 11 #[.string k1, .string ⟨#[]⟩, .int .i64 0] W fun e w' => e = .returned (.bool false) ∧ W = w' := fun W => by
        have := May_any k1 ⟨#[]⟩ 0 W
        rw [decide_eq_false (fun h => hk32 h.1)] at this
        exact this
      have hm1 : ∀ W : World, Calls Tryd.prog 11 #[.string k1, .string h1, .int .i64 (x1.size : Int)] W fun e w' => e = .returned (.bool false) ∧ W = w' := fun W => by
        have := May_any k1 h1 (x1.size : Int) W
        rw [decide_eq_false (fun h => hk32 h.1)] at this
        exact this
      have HKS := Lib.hid hks; have HLO := Lib.hid hlo; have HAG := Lib.hid hag; have HM0 := Lib.hid hm0; have HM1 := Lib.hid hm1
      have HB0 := Lib.hid hB0; have HF0 := Lib.hid hF0; have HK0 := Lib.hid hK0
      clear hks hlo hag hm0 hm1 hB0 hF0 hK0 hk hh hx hk32 
      go_wp2_with fail
      refine (HKS.out _).mono ?_
      rintro e w1 ⟨rfl, rfl⟩
      have hF1 := HF0; have hK1 := HK0; have hB1 := HB0
      clear HKS HF0 HK0 HB0
      go_wp2_with fail
      refine (HLO.out _).mono ?_
      rintro e w2 ⟨rfl, rfl⟩
      go_wp2_with fail
      refine (HAG.out _).mono ?_
      rintro e w3 ⟨rfl, rfl⟩
      have hF3 := hF1; have hK3 := hK1; have hB3 := hB1
      clear HLO HAG hF1 hK1 hB1
      go_wp2_with fail
      refine (numbers_all _).mono ?_
      rintro e w4 ⟨kv, rfl, hKA, hb4⟩
      have hF4 := Lib.hid (hF3.out.on hb4); have hK4 := Lib.hid (hK3.out.on hb4)
      have hB4 := Lib.hid (hB3.out.trans (hb4.mono hB3.out.size))
      have hKA' := hKA
      obtain ⟨k0, k2, rfl, hk0, hk2⟩ := hKA'
      obtain ⟨a0, o0, c0, rfl, -, -⟩ := hk0
      obtain ⟨a1, o1, c1, rfl, -, -⟩ := hk2
      simp only [S8.l_length, keysL_length] at hKA ⊢
      have HKA := Lib.hid hKA
      clear hF3 hK3 hB3 hb4 hKA
      go_upto_region 6 with fail
      have hb5 : Below w4.heap.size w4 (w4.alloc (.cells #[.slice (some ⟨a0, o0, none⟩) 64 c0, .slice (some ⟨a1, o1, none⟩) 8 c1] 30)) := by go_grown
      have hc5 : (w4.alloc (.cells #[.slice (some ⟨a0, o0, none⟩) 64 c0, .slice (some ⟨a1, o1, none⟩) 8 c1] 30)).heap[w4.heap.size]? = some (.cells #[.slice (some ⟨a0, o0, none⟩) 64 c0, .slice (some ⟨a1, o1, none⟩) 8 c1] 30) := heap_alloc_new _ _
      generalize World.alloc w4 _ = V at hb5 hc5 ⊢
      have hF5 := Lib.hid (hF4.out.on hb5); have hK5 := Lib.hid (hK4.out.on hb5); have HKA5 := Lib.hid (HKA.out.on hb5)
      have hB5 := Lib.hid (hB4.out.trans (hb5.mono hB4.out.size))
      have e0 : V.cell? ⟨w4.heap.size, 0, none⟩ = some (.slice (some ⟨a0, o0, none⟩) 64 c0) := by rw [cell_of_row _ _ _ _ _ _ hc5]; rfl
      have e1 : V.cell? ⟨w4.heap.size, 1, none⟩ = some (.slice (some ⟨a1, o1, none⟩) 8 c1) := by rw [cell_of_row _ _ _ _ _ _ hc5]; rfl
      have HC5 := Lib.hid hc5
      clear hF4 hK4 hB4 HKA hb5 hc5
      go_wp2_with fail
      refine (HM0.out _).mono ?_
      rintro e w6 ⟨rfl, rfl⟩
      clear HM0
      have hF7 := hF5; have hK7 := hK5; have hB7 := hB5; have HC7 := HC5; have HKA7 := HKA5
      clear hF5 hK5 hB5 HC5 HKA5
      go_wp2_with fail
      refine (alive6_any _ hF7.out hK7.out).mono ?_
      rintro e w8 ⟨rfl, hb8⟩
      clear e0 e1
      have hlt : w4.heap.size < V.heap.size := (Array.getElem?_eq_some_iff.1 HC7.out).1
      have hc8 : w8.heap[w4.heap.size]? = some (.cells #[.slice (some ⟨a0, o0, none⟩) 64 c0, .slice (some ⟨a1, o1, none⟩) 8 c1] 30) := by rw [hb8.block _ hlt]; exact HC7.out
      have hB8 := Lib.hid (hB7.out.trans (hb8.mono hB7.out.size))
      have HKA8 := Lib.hid (HKA7.out.on hb8)
      have HC8 := Lib.hid hc8
      clear hF7 hK7 hB7 HKA7 HC7 hb8 hlt hc8
      go_wp2_with fail
      refine (HM1.out _).mono ?_
      rintro e w9 ⟨rfl, rfl⟩
      clear HM1
      go_wp2_with fail
      go_ret
      exact ⟨by first | rfl | simp, hB8.out⟩
  case pos =>
    by_cases hg : h1.size ≤ 1024 ∧ x1.size ≤ 1024
    case neg =>
      have hks := fun W p q => Keys_good k1 hk32 W p q
      have hrk := fun kv => refkeys_any kv k1 (by omega)
      obtain ⟨A, eA⟩ : ∃ A, strL (hideL (bl k1)) = A := ⟨_, rfl⟩
      obtain ⟨B, eB⟩ : ∃ B, strL (tagkL (bl k1)) = B := ⟨_, rfl⟩
      obtain ⟨D, eD⟩ : ∃ D, strL (nonL (bl k1)) = D := ⟨_, rfl⟩
      rw [eA, eB, eD] at hks hrk
      clear eA eB eD
      have HRK := Lib.hid hrk
      have hlo := Lock_bad k1 h1 x1 (fun h => hg ⟨h.2.1, h.2.2⟩)
      have hag := Again_bad k1 h1 x1 (fun h => hg ⟨h.2.1, h.2.2⟩)
      have hm0 : ∀ W : World, Calls Tryd.prog 11 #[.string k1, .string ⟨#[]⟩, .int .i64 0] W fun e w' => e = .returned (.bool true) ∧ W = w' := fun W => by
        have := May_any k1 ⟨#[]⟩ 0 W
        rw [decide_eq_true ⟨hk32, by decide, by decide, by decide⟩] at this
        exact this
      have hm1 : ∀ W : World, Calls Tryd.prog 11 #[.string k1, .string h1, .int .i64 (x1.size : Int)] W fun e w' => e = .returned (.bool false) ∧ W = w' := fun W => by
        have := May_any k1 h1 (x1.size : Int) W
        rw [decide_eq_false (fun h => hg ⟨h.2.1, by omega⟩)] at this
        exact this
      have HKS := Lib.hid hks; have HLO := Lib.hid hlo; have HAG := Lib.hid hag; have HM0 := Lib.hid hm0; have HM1 := Lib.hid hm1
      have HB0 := Lib.hid hB0; have HF0 := Lib.hid hF0; have HK0 := Lib.hid hK0
      clear hks hlo hag hm0 hm1 hB0 hF0 hK0 hk hh hx hk32 hrk hg
      go_wp2_with fail
      refine (HKS.out _ HF0.out HK0.out).mono ?_
      rintro e w1 ⟨rfl, hb1⟩
      have hF1 := Lib.hid (HF0.out.on hb1); have hK1 := Lib.hid (HK0.out.on hb1)
      have hB1 := Lib.hid (HB0.out.trans (hb1.mono HB0.out.size))
      clear HKS HF0 HK0 HB0 hb1
      go_wp2_with fail
      refine (HLO.out _).mono ?_
      rintro e w2 ⟨rfl, rfl⟩
      go_wp2_with fail
      refine (HAG.out _).mono ?_
      rintro e w3 ⟨rfl, rfl⟩
      have hF3 := hF1; have hK3 := hK1; have hB3 := hB1
      clear HLO HAG hF1 hK1 hB1
      go_wp2_with fail
      refine (numbers_all _).mono ?_
      rintro e w4 ⟨kv, rfl, hKA, hb4⟩
      have hF4 := Lib.hid (hF3.out.on hb4); have hK4 := Lib.hid (hK3.out.on hb4)
      have hB4 := Lib.hid (hB3.out.trans (hb4.mono hB3.out.size))
      have hKA' := hKA
      obtain ⟨k0, k2, rfl, hk0, hk2⟩ := hKA'
      obtain ⟨a0, o0, c0, rfl, -, -⟩ := hk0
      obtain ⟨a1, o1, c1, rfl, -, -⟩ := hk2
      simp only [S8.l_length, keysL_length] at hKA ⊢
      have HKA := Lib.hid hKA
      clear hF3 hK3 hB3 hb4 hKA
      go_upto_region 6 with fail
      have hb5 : Below w4.heap.size w4 (w4.alloc (.cells #[.slice (some ⟨a0, o0, none⟩) 64 c0, .slice (some ⟨a1, o1, none⟩) 8 c1] 30)) := by go_grown
      have hc5 : (w4.alloc (.cells #[.slice (some ⟨a0, o0, none⟩) 64 c0, .slice (some ⟨a1, o1, none⟩) 8 c1] 30)).heap[w4.heap.size]? = some (.cells #[.slice (some ⟨a0, o0, none⟩) 64 c0, .slice (some ⟨a1, o1, none⟩) 8 c1] 30) := heap_alloc_new _ _
      generalize World.alloc w4 _ = V at hb5 hc5 ⊢
      have hF5 := Lib.hid (hF4.out.on hb5); have hK5 := Lib.hid (hK4.out.on hb5); have HKA5 := Lib.hid (HKA.out.on hb5)
      have hB5 := Lib.hid (hB4.out.trans (hb5.mono hB4.out.size))
      have e0 : V.cell? ⟨w4.heap.size, 0, none⟩ = some (.slice (some ⟨a0, o0, none⟩) 64 c0) := by rw [cell_of_row _ _ _ _ _ _ hc5]; rfl
      have e1 : V.cell? ⟨w4.heap.size, 1, none⟩ = some (.slice (some ⟨a1, o1, none⟩) 8 c1) := by rw [cell_of_row _ _ _ _ _ _ hc5]; rfl
      have HC5 := Lib.hid hc5
      clear hF4 hK4 hB4 HKA hb5 hc5
      go_wp2_with fail
      refine (HM0.out _).mono ?_
      rintro e w6 ⟨rfl, rfl⟩
      clear HM0
      go_wp2_with fail
      refine (HRK.out _ _ HKA5.out).mono ?_
      rintro e w7 ⟨rfl, hb7⟩
      have hlt : w4.heap.size < V.heap.size := (Array.getElem?_eq_some_iff.1 HC5.out).1
      have hc7 : w7.heap[w4.heap.size]? = some (.cells #[.slice (some ⟨a0, o0, none⟩) 64 c0, .slice (some ⟨a1, o1, none⟩) 8 c1] 30) := by rw [hb7.block _ hlt]; exact HC5.out
      have hF7 := Lib.hid (hF5.out.on hb7); have hK7 := Lib.hid (hK5.out.on hb7); have HKA7 := Lib.hid (HKA5.out.on hb7)
      have hB7 := Lib.hid (hB5.out.trans (hb7.mono hB5.out.size))
      have HC7 := Lib.hid hc7
      clear hF5 hK5 hB5 HKA5 HC5 hb7 hlt hc7 e0 e1 HRK
      go_wp2_with fail
      refine (alive6_any _ hF7.out hK7.out).mono ?_
      rintro e w8 ⟨rfl, hb8⟩
      have hlt : w4.heap.size < w7.heap.size := (Array.getElem?_eq_some_iff.1 HC7.out).1
      have hc8 : w8.heap[w4.heap.size]? = some (.cells #[.slice (some ⟨a0, o0, none⟩) 64 c0, .slice (some ⟨a1, o1, none⟩) 8 c1] 30) := by rw [hb8.block _ hlt]; exact HC7.out
      have hB8 := Lib.hid (hB7.out.trans (hb8.mono hB7.out.size))
      have HKA8 := Lib.hid (HKA7.out.on hb8)
      have HC8 := Lib.hid hc8
      clear hF7 hK7 hB7 HKA7 HC7 hb8 hlt hc8
      go_wp2_with fail
      refine (HM1.out _).mono ?_
      rintro e w9 ⟨rfl, rfl⟩
      clear HM1
      go_wp2_with fail
      go_ret
      exact ⟨by first | rfl | simp, hB8.out⟩
    case pos =>
      have hks := fun W p q => Keys_good k1 hk32 W p q
      have hrk := fun kv => refkeys_any kv k1 (by omega)
      obtain ⟨A, eA⟩ : ∃ A, strL (hideL (bl k1)) = A := ⟨_, rfl⟩
      obtain ⟨B, eB⟩ : ∃ B, strL (tagkL (bl k1)) = B := ⟨_, rfl⟩
      obtain ⟨D, eD⟩ : ∃ D, strL (nonL (bl k1)) = D := ⟨_, rfl⟩
      rw [eA, eB, eD] at hks hrk
      clear eA eB eD
      have HRK := Lib.hid hrk
      have hlo := fun W p q => Lock_good k1 h1 x1 hk32 hg.1 hg.2 W p q
      have hag := fun W p q => Again_good k1 h1 x1 hk32 hg.1 hg.2 W p q
      have hrl := fun kv => reflock_any kv k1 h1 x1 hk32 hg.1 hg.2
      have hra := fun kv => refagain_any kv k1 h1 x1 (by omega) hg.1 (by omega)
      obtain ⟨S, eS⟩ : ∃ S, strL (lockL (bl k1) (bl h1) (bl x1)) = S := ⟨_, rfl⟩
      obtain ⟨R, eR⟩ : ∃ R, strL (againL (bl k1) (bl h1) (bl x1)) = R := ⟨_, rfl⟩
      rw [eS] at hlo hrl
      rw [eR] at hag hra
      clear eS eR
      have HRL := Lib.hid hrl; have HRA := Lib.hid hra
      clear hrl hra
      have hm0 : ∀ W : World, Calls Tryd.prog 11 #[.string k1, .string ⟨#[]⟩, .int .i64 0] W fun e w' => e = .returned (.bool true) ∧ W = w' := fun W => by
        have := May_any k1 ⟨#[]⟩ 0 W
        rw [decide_eq_true ⟨hk32, by decide, by decide, by decide⟩] at this
        exact this
      have hm1 : ∀ W : World, Calls Tryd.prog 11 #[.string k1, .string h1, .int .i64 (x1.size : Int)] W fun e w' => e = .returned (.bool true) ∧ W = w' := fun W => by
        have := May_any k1 h1 (x1.size : Int) W
        rw [decide_eq_true ⟨hk32, hg.1, by omega, by omega⟩] at this
        exact this
      have HKS := Lib.hid hks; have HLO := Lib.hid hlo; have HAG := Lib.hid hag; have HM0 := Lib.hid hm0; have HM1 := Lib.hid hm1
      have HB0 := Lib.hid hB0; have HF0 := Lib.hid hF0; have HK0 := Lib.hid hK0
      clear hks hlo hag hm0 hm1 hB0 hF0 hK0 hk hh hx hk32 hrk hg
      go_wp2_with fail
      refine (HKS.out _ HF0.out HK0.out).mono ?_
      rintro e w1 ⟨rfl, hb1⟩
      have hF1 := Lib.hid (HF0.out.on hb1); have hK1 := Lib.hid (HK0.out.on hb1)
      have hB1 := Lib.hid (HB0.out.trans (hb1.mono HB0.out.size))
      clear HKS HF0 HK0 HB0 hb1
      go_wp2_with fail
      refine (HLO.out _ hF1.out hK1.out).mono ?_
      rintro e w2 ⟨rfl, hb2⟩
      have hF2 := Lib.hid (hF1.out.on hb2); have hK2 := Lib.hid (hK1.out.on hb2)
      have hB2 := Lib.hid (hB1.out.trans (hb2.mono hB1.out.size))
      clear HLO hF1 hK1 hB1 hb2
      go_wp2_with fail
      refine (HAG.out _ hF2.out hK2.out).mono ?_
      rintro e w3 ⟨rfl, hb3⟩
      have hF3 := Lib.hid (hF2.out.on hb3); have hK3 := Lib.hid (hK2.out.on hb3)
      have hB3 := Lib.hid (hB2.out.trans (hb3.mono hB2.out.size))
      clear HAG hF2 hK2 hB2 hb3
      go_wp2_with fail
      refine (numbers_all _).mono ?_
      rintro e w4 ⟨kv, rfl, hKA, hb4⟩
      have hF4 := Lib.hid (hF3.out.on hb4); have hK4 := Lib.hid (hK3.out.on hb4)
      have hB4 := Lib.hid (hB3.out.trans (hb4.mono hB3.out.size))
      have hKA' := hKA
      obtain ⟨k0, k2, rfl, hk0, hk2⟩ := hKA'
      obtain ⟨a0, o0, c0, rfl, -, -⟩ := hk0
      obtain ⟨a1, o1, c1, rfl, -, -⟩ := hk2
      simp only [S8.l_length, keysL_length] at hKA ⊢
      have HKA := Lib.hid hKA
      clear hF3 hK3 hB3 hb4 hKA
      go_upto_region 6 with fail
      have hb5 : Below w4.heap.size w4 (w4.alloc (.cells #[.slice (some ⟨a0, o0, none⟩) 64 c0, .slice (some ⟨a1, o1, none⟩) 8 c1] 30)) := by go_grown
      have hc5 : (w4.alloc (.cells #[.slice (some ⟨a0, o0, none⟩) 64 c0, .slice (some ⟨a1, o1, none⟩) 8 c1] 30)).heap[w4.heap.size]? = some (.cells #[.slice (some ⟨a0, o0, none⟩) 64 c0, .slice (some ⟨a1, o1, none⟩) 8 c1] 30) := heap_alloc_new _ _
      generalize World.alloc w4 _ = V at hb5 hc5 ⊢
      have hF5 := Lib.hid (hF4.out.on hb5); have hK5 := Lib.hid (hK4.out.on hb5); have HKA5 := Lib.hid (HKA.out.on hb5)
      have hB5 := Lib.hid (hB4.out.trans (hb5.mono hB4.out.size))
      have e0 : V.cell? ⟨w4.heap.size, 0, none⟩ = some (.slice (some ⟨a0, o0, none⟩) 64 c0) := by rw [cell_of_row _ _ _ _ _ _ hc5]; rfl
      have e1 : V.cell? ⟨w4.heap.size, 1, none⟩ = some (.slice (some ⟨a1, o1, none⟩) 8 c1) := by rw [cell_of_row _ _ _ _ _ _ hc5]; rfl
      have HC5 := Lib.hid hc5
      clear hF4 hK4 hB4 HKA hb5 hc5
      go_wp2_with fail
      refine (HM0.out _).mono ?_
      rintro e w6 ⟨rfl, rfl⟩
      clear HM0
      go_wp2_with fail
      refine (HRK.out _ _ HKA5.out).mono ?_
      rintro e w7 ⟨rfl, hb7⟩
      have hlt : w4.heap.size < V.heap.size := (Array.getElem?_eq_some_iff.1 HC5.out).1
      have hc7 : w7.heap[w4.heap.size]? = some (.cells #[.slice (some ⟨a0, o0, none⟩) 64 c0, .slice (some ⟨a1, o1, none⟩) 8 c1] 30) := by rw [hb7.block _ hlt]; exact HC5.out
      have hF7 := Lib.hid (hF5.out.on hb7); have hK7 := Lib.hid (hK5.out.on hb7); have HKA7 := Lib.hid (HKA5.out.on hb7)
      have hB7 := Lib.hid (hB5.out.trans (hb7.mono hB5.out.size))
      have HC7 := Lib.hid hc7
      clear hF5 hK5 hB5 HKA5 HC5 hb7 hlt hc7 e0 e1 HRK
      go_wp2_with fail
      refine (alive6_any _ hF7.out hK7.out).mono ?_
      rintro e w8 ⟨rfl, hb8⟩
      have hlt : w4.heap.size < w7.heap.size := (Array.getElem?_eq_some_iff.1 HC7.out).1
      have hc8 : w8.heap[w4.heap.size]? = some (.cells #[.slice (some ⟨a0, o0, none⟩) 64 c0, .slice (some ⟨a1, o1, none⟩) 8 c1] 30) := by rw [hb8.block _ hlt]; exact HC7.out
      have hB8 := Lib.hid (hB7.out.trans (hb8.mono hB7.out.size))
      have HKA8 := Lib.hid (HKA7.out.on hb8)
      have HC8 := Lib.hid hc8
      clear hF7 hK7 hB7 HKA7 HC7 hb8 hlt hc8
      go_wp2_with fail
      refine (HM1.out _).mono ?_
      rintro e w9 ⟨rfl, rfl⟩
      clear HM1
      have e0 : w8.cell? ⟨w4.heap.size, 0, none⟩ = some (.slice (some ⟨a0, o0, none⟩) 64 c0) := by rw [cell_of_row _ _ _ _ _ _ HC8.out]; rfl
      have e1 : w8.cell? ⟨w4.heap.size, 1, none⟩ = some (.slice (some ⟨a1, o1, none⟩) 8 c1) := by rw [cell_of_row _ _ _ _ _ _ HC8.out]; rfl
      go_wp2_with fail
      refine (HRL.out _ _ HKA8.out).mono ?_
      rintro e w10 ⟨rfl, hb10⟩
      have hlt : w4.heap.size < w8.heap.size := (Array.getElem?_eq_some_iff.1 HC8.out).1
      have hc10 : w10.heap[w4.heap.size]? = some (.cells #[.slice (some ⟨a0, o0, none⟩) 64 c0, .slice (some ⟨a1, o1, none⟩) 8 c1] 30) := by rw [hb10.block _ hlt]; exact HC8.out
      have hB10 := Lib.hid (hB8.out.trans (hb10.mono hB8.out.size))
      have HKA10 := Lib.hid (HKA8.out.on hb10)
      clear e0 e1 hb10 hlt hB8 HKA8 HC8 HRL
      have e0 : w10.cell? ⟨w4.heap.size, 0, none⟩ = some (.slice (some ⟨a0, o0, none⟩) 64 c0) := by rw [cell_of_row _ _ _ _ _ _ hc10]; rfl
      have e1 : w10.cell? ⟨w4.heap.size, 1, none⟩ = some (.slice (some ⟨a1, o1, none⟩) 8 c1) := by rw [cell_of_row _ _ _ _ _ _ hc10]; rfl
      clear hc10
      go_wp2_with fail
      refine (HRA.out _ _ HKA10.out).mono ?_
      rintro e w11 ⟨rfl, hb11⟩
      have hend := Lib.hid (hB10.out.trans (hb11.mono hB10.out.size))
      clear e0 e1 hb11 hB10 HKA10 HRA
      go_wp2_with fail
      go_ret
      exact ⟨by first | rfl | simp, hend.out⟩
end Go.Proofs.YtikgefcbmoomjaaDoor