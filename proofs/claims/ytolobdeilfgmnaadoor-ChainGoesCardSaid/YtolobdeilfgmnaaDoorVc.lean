/- chain's Root and Step. -/
import Derived.Test.YtolobdeilfgmnaaDoorVb
namespace Go.Proofs.YtolobdeilfgmnaaDoor
open Go.RowKit
set_option maxRecDepth 100000

set_option maxHeartbeats 1000000 in
theorem Step_bad (c : ByteArray) (hc : c.size ≠ 32) (w : World) :
    Calls Tryd.prog 8 #[.string c] w fun e w' => e = .returned (.tuple #[.string ⟨#[]⟩, .string ⟨#[]⟩, .int .i64 2]) ∧ w = w' := by
  have h1 := isKeyC_any c
  rw [decide_eq_false hc] at h1
  have H1 := Lib.hid h1
  clear h1 hc
  go_enter Tryd.func8, Tryd.ntmps8
  go_wp2_with fail
  refine (H1.out _).mono ?_
  rintro e w1 ⟨rfl, rfl⟩
  go_wp2_with fail
  go_ret3
  exact ⟨rfl, rfl⟩
set_option maxHeartbeats 1000000 in
theorem Step_good (c : ByteArray) (hc : c.size = 32) (w : World) (hF : FirstAt w) (hK : KeysAt w) :
    Calls Tryd.prog 8 #[.string c] w fun e w' => e = .returned (.tuple #[.string (spA c stWord), .string (spB c stWord), .int .i64 0]) ∧ Below w.heap.size w w' := by
  have h1 := isKeyC_any c
  rw [decide_eq_true hc] at h1
  have hs := splitC_any c stWord (by omega) (by decide) w hF hK
  generalize spA c stWord = A at hs ⊢
  generalize spB c stWord = B at hs ⊢
  unfold stWord at hs
  have H1 := Lib.hid h1; have HS := Lib.hid hs
  clear h1 hc hs hF hK
  go_enter Tryd.func8, Tryd.ntmps8
  go_wp2_with fail
  refine (H1.out _).mono ?_
  rintro e w1 ⟨rfl, rfl⟩
  go_wp2_with fail
  refine HS.out.mono ?_
  rintro e w1 ⟨rfl, hb⟩
  have HB := Lib.hid hb
  clear hb H1 HS
  go_wp2_with fail
  go_ret3
  exact ⟨rfl, HB.out⟩

/-- a root's step, with a shared point: the next root -/
def rootA (r s : ByteArray) : ByteArray := spA (strL (tagL (bl r) (bl s))) rtWord
/-- a chain -/
def rootB (r s : ByteArray) : ByteArray := spB (strL (tagL (bl r) (bl s))) rtWord
set_option maxHeartbeats 1000000 in
theorem Root_bad (r s : ByteArray) (hc : ¬ (r.size = 32 ∧ s.size = 32)) (w : World) :
    Calls Tryd.prog 7 #[.string r, .string s] w fun e w' => e = .returned (.tuple #[.string ⟨#[]⟩, .string ⟨#[]⟩, .int .i64 2]) ∧ w = w' := by
  have h1 := isKeyC_any r
  have h2 := isKeyC_any s
  by_cases hr : r.size = 32
  · rw [decide_eq_true hr] at h1
    rw [decide_eq_false (fun h => hc ⟨hr, h⟩)] at h2
    have H1 := Lib.hid h1; have H2 := Lib.hid h2
    clear h1 h2 hc hr
    go_enter Tryd.func7, Tryd.ntmps7
    go_wp2_with fail
    refine (H1.out _).mono ?_
    rintro e w1 ⟨rfl, rfl⟩
    go_wp2_with fail
    refine (H2.out _).mono ?_
    rintro e w1 ⟨rfl, rfl⟩
    go_wp2_with fail
    go_ret3
    exact ⟨rfl, rfl⟩
  · rw [decide_eq_false hr] at h1
    have H1 := Lib.hid h1
    clear h1 h2 hc hr
    go_enter Tryd.func7, Tryd.ntmps7
    go_wp2_with fail
    refine (H1.out _).mono ?_
    rintro e w1 ⟨rfl, rfl⟩
    go_wp2_with fail
    go_ret3
    exact ⟨rfl, rfl⟩
set_option maxHeartbeats 1000000 in
theorem Root_good (r s : ByteArray) (hr : r.size = 32) (hs : s.size = 32) (w : World) (hF : FirstAt w) (hK : KeysAt w) :
    Calls Tryd.prog 7 #[.string r, .string s] w fun e w' => e = .returned (.tuple #[.string (rootA r s), .string (rootB r s), .int .i64 0]) ∧ Below w.heap.size w w' := by
  have h1 := isKeyC_any r
  have h2 := isKeyC_any s
  rw [decide_eq_true hr] at h1
  rw [decide_eq_true hs] at h2
  have he := extract_any r s (by omega) (by omega) w hF hK
  obtain ⟨T, eT⟩ : ∃ T, strL (tagL (bl r) (bl s)) = T := ⟨_, rfl⟩
  have hT : T.size = 32 := by rw [← eT, strL_size]; exact ofL_length _
  have hsp := splitC_any T rtWord (by omega) (by decide)
  unfold rootA rootB
  rw [eT] at he ⊢
  generalize spA T rtWord = A at hsp ⊢
  generalize spB T rtWord = B at hsp ⊢
  unfold rtWord at hsp
  have H1 := Lib.hid h1; have H2 := Lib.hid h2; have HE := Lib.hid he; have HS := Lib.hid hsp; have HFK := Lib.hid (And.intro hF hK)
  clear h1 h2 he hsp hr hs hT eT hF hK
  go_enter Tryd.func7, Tryd.ntmps7
  go_wp2_with fail
  refine (H1.out _).mono ?_
  rintro e w1 ⟨rfl, rfl⟩
  go_wp2_with fail
  refine (H2.out _).mono ?_
  rintro e w1 ⟨rfl, rfl⟩
  go_wp2_with fail
  refine HE.out.mono ?_
  rintro e w1 ⟨rfl, hb⟩
  have HS1 := Lib.hid (HS.out w1 (HFK.out.1.on hb) (HFK.out.2.on hb)); have HB := Lib.hid hb
  clear hb H1 H2 HE HS HFK
  go_wp2_with fail
  refine HS1.out.mono ?_
  rintro e w2 ⟨rfl, hb⟩
  have HB2 := Lib.hid (HB.out.trans (hb.mono HB.out.size))
  clear hb HS1 HB
  go_wp2_with fail
  go_ret3
  exact ⟨rfl, HB2.out⟩
end Go.Proofs.YtolobdeilfgmnaaDoor
