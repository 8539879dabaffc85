/- The package hello: Initiate and Respond. -/
import Derived.Test.YtnfhfibbaeiglaaDoorWf
namespace Go.Proofs.YtnfhfibbaeiglaaDoor
open Go.RowKit Go.Sort
set_option maxRecDepth 100000

theorem row3 (w : World) (x1 x2 x3 x4 x5 x6 : ByteArray) : OwnR (w.alloc (.cells #[.string x1, .string x2, .string x3, .string x4, .string x5, .string x6] 30)) w.heap.size (.slice (some ⟨w.heap.size, 0, none⟩) 3 3) [(x1, x2), (x3, x4), (x5, x6)] :=
  OwnR.made w w.heap.size [(x1, x2), (x3, x4), (x5, x6)] 3 rfl (Nat.le_refl _) (by simp)
theorem row1 (w : World) (x1 x2 : ByteArray) : PrAt (w.alloc (.cells #[.string x1, .string x2] 30)) w.heap.size 0 (x1, x2) := by
  have hH := heap_alloc_new w (.cells #[.string x1, .string x2] 30)
  exact ⟨by rw [cell_of_row _ _ _ _ _ _ hH]; rfl, by rw [cell_of_row _ _ _ _ _ _ hH]; rfl⟩
set_option maxHeartbeats 4000000 in
theorem Initiate_prs (i b p s o : ByteArray) (w : World) (hT : TriAt w) :
    Calls Tryd.prog 6 #[.string i, .string b, .string p, .string s, .string o] w (SecPost w (prsI i b p s o)) := by
  have hal : Below w.heap.size w (w.alloc (.cells #[.string i, .string s, .string b, .string p, .string b, .string s] 30)) := (Below.refl _ _).alloc (Nat.le_refl _) _
  have hR3 := row3 w i s b p b s
  have hT0 := hT.on hal
  have hn := str_nilH o
  have HAL := Lib.hid hal; have HR3 := Lib.hid hR3; have HT := Lib.hid hT0; have HTW := Lib.hid hT
  clear hal hR3 hT hT0
  by_cases ho : o.size = 0
  · have hs := fun (a : Option Addr) (W : World) => secret_any a [(i, s), (b, p), (b, s)] 3 (by simp) W
    have hprs : prsI i b p s o = [(i, s), (b, p), (b, s)] := by unfold prsI; rw [if_pos ho]; rfl
    rw [decide_eq_true ho] at hn
    have HS := Lib.hid hs; have HP := Lib.hid hprs
    clear hs hprs ho
    go_enter Tryd.func6, Tryd.ntmps6
    go_upto_region 4 with fail
    have hpr : PrL (w.alloc (.cells #[.string i, .string s, .string b, .string p, .string b, .string s] 30)) (some ⟨w.heap.size, 0, none⟩) [(i, s), (b, p), (b, s)] := by
      obtain ⟨a, c, e, -, h⟩ := HR3.out.prl
      simp only [Value.slice.injEq] at e
      rw [e.1]; exact h
    have HS1 := Lib.hid (HS.out (some ⟨w.heap.size, 0, none⟩) (w.alloc (.cells #[.string i, .string s, .string b, .string p, .string b, .string s] 30)) hpr HT.out)
    clear hpr HS HR3
    go_wp2_with fail
    refine HS1.out.mono ?_
    rintro e w2 ⟨h, hb⟩
    have HB2 := Lib.hid (HAL.out.trans (hb.mono (by simp)))
    clear hb HAL HS1 HT HTW
    obtain ⟨hok, rfl⟩ | ⟨hok, rfl⟩ := h
    · have HK := Lib.hid hok
      clear hok
      go_wp2_with fail
      go_ret2
      exact ⟨Or.inl ⟨by rw [HP.out]; exact HK.out, by rw [HP.out]; rfl⟩, HB2.out⟩
    · have HK := Lib.hid hok
      clear hok
      go_wp2_with fail
      go_ret2
      exact ⟨Or.inr ⟨by rw [HP.out]; exact HK.out, rfl⟩, HB2.out⟩
  · have hs := fun (a : Option Addr) (c : Nat) (W : World) => secret_any a ([(i, s), (b, p), (b, s)] ++ [(b, o)]) c (by simp) W
    have hprs : prsI i b p s o = [(i, s), (b, p), (b, s)] ++ [(b, o)] := by unfold prsI; rw [if_neg ho]
    rw [decide_eq_false ho] at hn
    have HS := Lib.hid hs; have HP := Lib.hid hprs
    clear hs hprs ho
    go_enter Tryd.func6, Tryd.ntmps6
    go_upto_region 3 with fail
    have h1 := row1 (w.alloc (.cells #[.string i, .string s, .string b, .string p, .string b, .string s] 30)) b o
    have hR := HR3.out.alloc (.cells #[.string b, .string o] 30)
    have hB1 := HAL.out.alloc (by simp) (.cells #[.string b, .string o] 30)
    have hsz1 : (w.alloc (.cells #[.string i, .string s, .string b, .string p, .string b, .string s] 30)).heap.size = w.heap.size + 1 := by simp
    rw [hsz1] at h1
    obtain ⟨W1, eW1⟩ : ∃ W1, (w.alloc (.cells #[.string i, .string s, .string b, .string p, .string b, .string s] 30)).alloc (.cells #[.string b, .string o] 30) = W1 := ⟨_, rfl⟩
    rw [eW1] at h1 hR hB1
    have H1 := Lib.hid (PrL.one h1); have HR := Lib.hid hR; have HB1 := Lib.hid hB1
    clear h1 hR hB1 hsz1 HR3 HT HAL
    go_wp2_with (at_builtin; refine append_hs rfl _ _ rfl w.heap.size _ [(i, s), (b, p), (b, s)] (some ⟨w.heap.size + 1, 0, none⟩) 1 1 [(b, o)] rfl rfl rfl HR.out H1.out (by simp) HB1.out.size ?_)
    intro v' w2 hO hg
    have hBo := OwnR.below HR.out HB1.out HB1.out.size hg
    obtain ⟨a2, c2, rfl, -, hpr⟩ := hO.prl
    have HS1 := Lib.hid (HS.out a2 c2 w2 hpr (HTW.out.on hBo)); have HB := Lib.hid hBo
    clear hO hg hBo hpr HS H1 HR HTW HB1 eW1
    go_wp2_with fail
    refine HS1.out.mono ?_
    rintro e w3 ⟨h, hb⟩
    have HB2 := Lib.hid (HB.out.trans (hb.mono HB.out.size))
    clear hb HB HS1
    obtain ⟨hok, rfl⟩ | ⟨hok, rfl⟩ := h
    · have HK := Lib.hid hok
      clear hok
      go_wp2_with fail
      go_ret2
      exact ⟨Or.inl ⟨by rw [HP.out]; exact HK.out, by rw [HP.out]; rfl⟩, HB2.out⟩
    · have HK := Lib.hid hok
      clear hok
      go_wp2_with fail
      go_ret2
      exact ⟨Or.inr ⟨by rw [HP.out]; exact HK.out, rfl⟩, HB2.out⟩
theorem Initiate_good (i b p s o : ByteArray) (hm : mayH i b p s o) (w : World) (hT : TriAt w) :
    Calls Tryd.prog 6 #[.string i, .string b, .string p, .string s, .string o] w fun e w' => e = .returned (.tuple #[.string (secB (ptsI i b p s o)), .int .i64 0]) ∧ Below w.heap.size w w' := by
  have hj := join_prsI i b p s o
  refine (Initiate_prs i b p s o w hT).mono ?_
  rintro e w' ⟨⟨-, h⟩ | ⟨h, -⟩, hb⟩
  · rw [hj] at h; exact ⟨h, hb⟩
  · exact absurd ((okL_prsI i b p s o).2 hm) h
theorem Initiate_bad (i b p s o : ByteArray) (hm : ¬ mayH i b p s o) (w : World) (hT : TriAt w) :
    Calls Tryd.prog 6 #[.string i, .string b, .string p, .string s, .string o] w fun e w' => e = .returned (.tuple #[.string ⟨#[]⟩, .int .i64 2]) ∧ Below w.heap.size w w' := by
  refine (Initiate_prs i b p s o w hT).mono ?_
  rintro e w' ⟨⟨h, -⟩ | ⟨-, h⟩, hb⟩
  · exact absurd ((okL_prsI i b p s o).1 h) hm
  · exact ⟨h, hb⟩
set_option maxHeartbeats 4000000 in
theorem Respond_prs (i s o p b : ByteArray) (w : World) (hT : TriAt w) :
    Calls Tryd.prog 9 #[.string i, .string s, .string o, .string p, .string b] w (SecPost w (prsR i s o p b)) := by
  have hal : Below w.heap.size w (w.alloc (.cells #[.string s, .string p, .string i, .string b, .string s, .string b] 30)) := (Below.refl _ _).alloc (Nat.le_refl _) _
  have hR3 := row3 w s p i b s b
  have hT0 := hT.on hal
  have hn := str_nilH o
  have HAL := Lib.hid hal; have HR3 := Lib.hid hR3; have HT := Lib.hid hT0; have HTW := Lib.hid hT
  clear hal hR3 hT hT0
  by_cases ho : o.size = 0
  · have hs := fun (a : Option Addr) (W : World) => secret_any a [(s, p), (i, b), (s, b)] 3 (by simp) W
    have hprs : prsR i s o p b = [(s, p), (i, b), (s, b)] := by unfold prsR; rw [if_pos ho]; rfl
    rw [decide_eq_true ho] at hn
    have HS := Lib.hid hs; have HP := Lib.hid hprs
    clear hs hprs ho
    go_enter Tryd.func9, Tryd.ntmps9
    go_upto_region 4 with fail
    have hpr : PrL (w.alloc (.cells #[.string s, .string p, .string i, .string b, .string s, .string b] 30)) (some ⟨w.heap.size, 0, none⟩) [(s, p), (i, b), (s, b)] := by
      obtain ⟨a, c, e, -, h⟩ := HR3.out.prl
      simp only [Value.slice.injEq] at e
      rw [e.1]; exact h
    have HS1 := Lib.hid (HS.out (some ⟨w.heap.size, 0, none⟩) (w.alloc (.cells #[.string s, .string p, .string i, .string b, .string s, .string b] 30)) hpr HT.out)
    clear hpr HS HR3
    go_wp2_with fail
    refine HS1.out.mono ?_
    rintro e w2 ⟨h, hb⟩
    have HB2 := Lib.hid (HAL.out.trans (hb.mono (by simp)))
    clear hb HAL HS1 HT HTW
    obtain ⟨hok, rfl⟩ | ⟨hok, rfl⟩ := h
    · have HK := Lib.hid hok
      clear hok
      go_wp2_with fail
      go_ret2
      exact ⟨Or.inl ⟨by rw [HP.out]; exact HK.out, by rw [HP.out]; rfl⟩, HB2.out⟩
    · have HK := Lib.hid hok
      clear hok
      go_wp2_with fail
      go_ret2
      exact ⟨Or.inr ⟨by rw [HP.out]; exact HK.out, rfl⟩, HB2.out⟩
  · have hs := fun (a : Option Addr) (c : Nat) (W : World) => secret_any a ([(s, p), (i, b), (s, b)] ++ [(o, b)]) c (by simp) W
    have hprs : prsR i s o p b = [(s, p), (i, b), (s, b)] ++ [(o, b)] := by unfold prsR; rw [if_neg ho]
    rw [decide_eq_false ho] at hn
    have HS := Lib.hid hs; have HP := Lib.hid hprs
    clear hs hprs ho
    go_enter Tryd.func9, Tryd.ntmps9
    go_upto_region 3 with fail
    have h1 := row1 (w.alloc (.cells #[.string s, .string p, .string i, .string b, .string s, .string b] 30)) o b
    have hR := HR3.out.alloc (.cells #[.string o, .string b] 30)
    have hB1 := HAL.out.alloc (by simp) (.cells #[.string o, .string b] 30)
    have hsz1 : (w.alloc (.cells #[.string s, .string p, .string i, .string b, .string s, .string b] 30)).heap.size = w.heap.size + 1 := by simp
    rw [hsz1] at h1
    obtain ⟨W1, eW1⟩ : ∃ W1, (w.alloc (.cells #[.string s, .string p, .string i, .string b, .string s, .string b] 30)).alloc (.cells #[.string o, .string b] 30) = W1 := ⟨_, rfl⟩
    rw [eW1] at h1 hR hB1
    have H1 := Lib.hid (PrL.one h1); have HR := Lib.hid hR; have HB1 := Lib.hid hB1
    clear h1 hR hB1 hsz1 HR3 HT HAL
    go_wp2_with (at_builtin; refine append_hs rfl _ _ rfl w.heap.size _ [(s, p), (i, b), (s, b)] (some ⟨w.heap.size + 1, 0, none⟩) 1 1 [(o, b)] rfl rfl rfl HR.out H1.out (by simp) HB1.out.size ?_)
    intro v' w2 hO hg
    have hBo := OwnR.below HR.out HB1.out HB1.out.size hg
    obtain ⟨a2, c2, rfl, -, hpr⟩ := hO.prl
    have HS1 := Lib.hid (HS.out a2 c2 w2 hpr (HTW.out.on hBo)); have HB := Lib.hid hBo
    clear hO hg hBo hpr HS H1 HR HTW HB1 eW1
    go_wp2_with fail
    refine HS1.out.mono ?_
    rintro e w3 ⟨h, hb⟩
    have HB2 := Lib.hid (HB.out.trans (hb.mono HB.out.size))
    clear hb HB HS1
    obtain ⟨hok, rfl⟩ | ⟨hok, rfl⟩ := h
    · have HK := Lib.hid hok
      clear hok
      go_wp2_with fail
      go_ret2
      exact ⟨Or.inl ⟨by rw [HP.out]; exact HK.out, by rw [HP.out]; rfl⟩, HB2.out⟩
    · have HK := Lib.hid hok
      clear hok
      go_wp2_with fail
      go_ret2
      exact ⟨Or.inr ⟨by rw [HP.out]; exact HK.out, rfl⟩, HB2.out⟩
theorem Respond_good (i s o p b : ByteArray) (hm : mayH i b p s o) (w : World) (hT : TriAt w) :
    Calls Tryd.prog 9 #[.string i, .string s, .string o, .string p, .string b] w fun e w' => e = .returned (.tuple #[.string (secB (ptsR i s o p b)), .int .i64 0]) ∧ Below w.heap.size w w' := by
  have hj := join_prsR i s o p b
  refine (Respond_prs i s o p b w hT).mono ?_
  rintro e w' ⟨⟨-, h⟩ | ⟨h, -⟩, hb⟩
  · rw [hj] at h; exact ⟨h, hb⟩
  · exact absurd ((okL_prsR i s o p b).2 hm) h
theorem Respond_bad (i s o p b : ByteArray) (hm : ¬ mayH i b p s o) (w : World) (hT : TriAt w) :
    Calls Tryd.prog 9 #[.string i, .string s, .string o, .string p, .string b] w fun e w' => e = .returned (.tuple #[.string ⟨#[]⟩, .int .i64 2]) ∧ Below w.heap.size w w' := by
  refine (Respond_prs i s o p b w hT).mono ?_
  rintro e w' ⟨⟨h, -⟩ | ⟨-, h⟩, hb⟩
  · exact absurd ((okL_prsR i s o p b).1 h) hm
  · exact ⟨h, hb⟩
end Go.Proofs.YtnfhfibbaeiglaaDoor
