/- The reference 16's has, Why. -/
import Derived.Test.YtmmaimopombepaaCu
import Derived.Test.YtmmaimopombepaaCn
namespace Go.Proofs.Ytmmaimopombepaa
open Go.RowKit
set_option maxRecDepth 100000

set_option maxHeartbeats 4000000 in
theorem hasRef_any (a : Option Addr) (c : Nat) (l : List Ml) (hl : l.length ≤ 1000) (s : ByteArray) (w : World) (h : PM w a c l) :
    Calls Try.prog 78 #[.slice a l.length c, .string s] w fun e w' => e = .returned (.bool (hasB l s)) ∧ Below w.heap.size w w' := by
  have H := Lib.hid h
  have q : (l.length : Int) ≤ 1000 := by omega
  clear h
  go_enter Try.func78, Try.ntmps78
  go_wp2_with fail
  go_loopw [9] (IxM w l s) (fun i _ => l.length - (Lib.intOf i).toNat)
  case atStart => exact ⟨0, _, rfl, rfl, Nat.zero_le _, Below.refl _ _, rfl⟩
  case round =>
    obtain ⟨k, wr, rfl, rfl, h1, h2, h3⟩ := hrel
    by_cases hk : k < l.length
    · have hkz : (k : Int) < (l.length : Int) := by omega
      obtain ⟨b, off, rfl, hlt, hall⟩ := (H.out.on h2).get k hk
      obtain ⟨c0, c1, c2⟩ := hall k hk
      obtain ⟨m, em⟩ : ∃ m, l[k] = m := ⟨_, rfl⟩
      rw [em] at c0 c1 c2
      obtain ⟨W1, eW1⟩ : ∃ W1, wr.alloc (.cells #[.int .u64 (m.id : Int), .string m.b, .int .u64 (m.born : Int)] 82) = W1 := ⟨_, rfl⟩
      have b1 : Below wr.heap.size wr W1 := by rw [← eW1]; exact (Below.refl _ wr).alloc (Nat.le_refl _) _
      obtain ⟨S, eS⟩ : ∃ S, wr.heap.size = S := ⟨_, rfl⟩
      have kM : BlkV W1 S 82 [.int .u64 (m.id : Int), .string m.b, .int .u64 (m.born : Int)] := by rw [← eW1, ← eS]; exact BlkV.fresh wr _ _ _ rfl _ rfl
      have n1 := kM.cell 1 _ rfl
      have hp1 : l.take (k + 1) = l.take k ++ [m] := by rw [← em]; exact List.take_succ_eq_append_getElem hk
      have Hk := Lib.hid (And.intro (h2.trans (b1.mono h2.size)) (And.intro h3 (And.intro em hp1)))
      clear h2 h3 em hp1 hall b1 kM
      go_upto_region 4 with fail
      clear eW1 c0 c1 c2
      have q2 := str_eqC m.b s
      by_cases hm : m.b = s
      · rw [decide_eq_true hm] at q2
        have HM := Lib.hid hm
        clear hm
        go_wp2_with fail
        go_ret
        exact ⟨by rw [hasB_true.2 ⟨m, by rw [← Hk.out.2.2.1]; exact List.getElem_mem hk, HM.out⟩]; first | done | rfl, Hk.out.1⟩
      · rw [decide_eq_false hm] at q2
        have HM := Lib.hid hm
        clear hm
        go_wp2_with fail
        refine ⟨⟨k + 1, _, rfl, by go_num, by omega, Hk.out.1, ?_⟩, by simp [Lib.intOf]; omega⟩
        rw [Hk.out.2.2.2]
        refine hasB_false.2 fun x hx => ?_
        rcases List.mem_append.1 hx with hx | hx
        · exact hasB_false.1 Hk.out.2.1 x hx
        · rw [List.mem_singleton.1 hx]; exact HM.out
    · have hkz : ¬ (k : Int) < (l.length : Int) := by omega
      have hkn : k = l.length := by omega
      rw [hkn, List.take_length] at h3
      have HX := Lib.hid (And.intro h2 h3)
      clear h2 h3
      go_wp2_with fail
      go_ret
      exact ⟨by rw [HX.out.2]; first | done | rfl, HX.out.1⟩
set_option maxHeartbeats 8000000 in
theorem whyRef_any (a : Option Addr) (c : Nat) (L : List BxM) (now next : Nat) (hn : now < 18446744073709551616) (hf : FewB L) (u : Nat) (b : ByteArray) (w : World) (h : SB w a c L) :
    Calls Try.prog 41 #[.agg #[.slice a L.length c, .int .u64 (now : Int), .int .u64 (next : Int)], .int .u64 (u : Int), .string b] w fun e w' => e = .returned (.int .i64 (pushE ⟨bxs L, now, next⟩ u b)) ∧ Below w.heap.size w w' := by
  obtain ⟨len, elen⟩ : ∃ len, L.length = len := ⟨_, rfl⟩
  have hsl := bxs_length L
  obtain ⟨W0, eW0⟩ : ∃ W0, w.alloc (.cells #[.slice a len c, .int .u64 (now : Int), .int .u64 (next : Int)] 56) = W0 := ⟨_, rfl⟩
  have b0 : Below w.heap.size w W0 := by rw [← eW0]; exact (Below.refl _ w).alloc (Nat.le_refl _) _
  obtain ⟨R, eR⟩ : ∃ R, w.heap.size = R := ⟨_, rfl⟩
  have kR : BlkV W0 R 56 [.slice a len c, .int .u64 (now : Int), .int .u64 (next : Int)] := by rw [← eW0, ← eR]; exact BlkV.fresh w _ _ _ rfl _ rfl
  have d0 := kR.cell 0 _ rfl
  have d1 := kR.cell 1 _ rfl
  have d2 := kR.cell 2 _ rfl
  have hR := rightRef_any a c L now next hn hf W0 (h.on b0)
  have hpe : pushE ⟨bxs L, now, next⟩ u b = if ¬ rightR ⟨bxs L, now, next⟩ then 1 else if 1400 < b.size then 2 else if hasB (mailsR (bxs L) u) b = true then 7 else if (mailsR (bxs L) u).length = 16 ∨ (mailsR (bxs L) u).length = 0 ∧ len = 8 then 6 else if next = 4611686018427387903 then 1 else 0 := by
    unfold pushE
    rw [show (bxs L).length = len by rw [hsl, elen]]
  rw [elen] at hR ⊢
  have HR := Lib.hid hR
  have HK := Lib.hid (And.intro (show Below R w W0 by rw [← eR]; exact b0) (And.intro kR (And.intro (h.on b0) hf)))
  have HRW := Lib.hid (show R ≤ W0.heap.size by rw [← eR]; exact b0.size)
  obtain ⟨E, eE⟩ : ∃ E, pushE ⟨bxs L, now, next⟩ u b = E := ⟨_, rfl⟩
  rw [eE] at hpe ⊢
  have HE := Lib.hid hpe
  clear b0 kR h hf hR hpe eE
  go_enter Try.func41, Try.ntmps41
  go_upto_region 1 with fail
  clear eW0
  by_cases hr : rightR ⟨bxs L, now, next⟩
  case neg =>
    rw [decide_eq_false hr] at HR
    have HN := Lib.hid (HE.out.trans (if_pos hr))
    clear hr
    go_wp2_with fail
    refine HR.out.mono ?_
    rintro e w1 ⟨rfl, hb1⟩
    have HB := Lib.hid (HK.out.1.trans (hb1.mono HRW.out))
    clear hb1
    go_wp2_with fail
    go_ret
    exact ⟨by rw [HN.out]; first | done | rfl, by first | exact HB.out | (rw [eR]; exact HB.out)⟩
  rw [decide_eq_true hr] at HR
  have h1 := HE.out.trans (if_neg (fun g => g hr))
  clear hr HE
  have HE := Lib.hid h1
  clear h1
  go_wp2_with fail
  refine HR.out.mono ?_
  rintro e w1 ⟨rfl, hb1⟩
  have k1 := HK.out.2.1.on hb1
  have y0 := k1.cell 0 _ rfl
  have y1 := k1.cell 1 _ rfl
  have y2 := k1.cell 2 _ rfl
  have hM := mailsRef_any a c L now next HK.out.2.2.2 u w1 (HK.out.2.2.1.on hb1)
  obtain ⟨F, eF⟩ : ∃ F, mailsR (bxs L) u = F := ⟨_, rfl⟩
  have hml : F.length ≤ 1000 := by rw [← eF]; exact mailsR_le HK.out.2.2.2.2 u
  have h1 := HE.out
  simp only [elen, eF] at hM h1
  obtain ⟨lf, elf⟩ : ∃ lf, F.length = lf := ⟨_, rfl⟩
  have hlz : (lf : Int) ≤ 1000 := by omega
  simp only [elf] at hM h1
  have HM := Lib.hid hM
  have H1 := Lib.hid (And.intro (HK.out.1.trans (hb1.mono HRW.out)) (And.intro hml k1))
  clear hb1 HR d0 d1 d2 hM eF HE k1
  have HE := Lib.hid h1
  clear h1
  go_wp2_with fail
  refine HM.out.mono ?_
  rintro e w2 ⟨a2, c2, rfl, hp2, hb2⟩
  have hh := hasRef_any a2 c2 F H1.out.2.1 b w2 hp2
  rw [elf] at hh
  have HH := Lib.hid hh
  have k2 := H1.out.2.2.on hb2
  have x0 := k2.cell 0 _ rfl
  have x2 := k2.cell 2 _ rfl
  have HB := Lib.hid (H1.out.1.trans (hb2.mono (by have := H1.out.1.size; omega)))
  have H2 := Lib.hid k2
  clear hh hp2 hb2 HM y0 y1 y2 k2
  obtain ⟨sz, esz⟩ : ∃ sz, b.size = sz := ⟨_, rfl⟩
  by_cases hs : 1400 < sz
  · have hsz : (b.size : Int) > 1400 := by omega
    have HN := Lib.hid (HE.out.trans (if_pos (by rw [esz]; exact hs)))
    clear HE hs esz
    go_wp2_with fail
    go_ret
    exact ⟨by rw [HN.out]; first | done | rfl, by first | exact HB.out | (rw [eR]; exact HB.out)⟩
  have hsz : ¬ (b.size : Int) > 1400 := by omega
  have h1 := HE.out.trans (if_neg (by rw [esz]; exact hs))
  clear HE hs esz
  have HE := Lib.hid h1
  clear h1
  obtain ⟨t, et⟩ : ∃ t, hasB F b = t := ⟨_, rfl⟩
  rw [et] at HH HE
  clear et
  cases t
  case true =>
    have HN := Lib.hid (HE.out.trans (if_pos rfl))
    clear HE
    go_wp2_with fail
    refine HH.out.mono ?_
    rintro e w3 ⟨rfl, hb3⟩
    have HB3 := Lib.hid (HB.out.trans (hb3.mono (by have := HB.out.size; omega)))
    clear hb3 HB x0 x2
    have HB := HB3
    clear HB3
    go_wp2_with fail
    go_ret
    exact ⟨by rw [HN.out]; first | done | rfl, by first | exact HB.out | (rw [eR]; exact HB.out)⟩
  have h1 := HE.out.trans (if_neg (by decide))
  clear HE
  have HE := Lib.hid h1
  clear h1
  go_wp2_with fail
  refine HH.out.mono ?_
  rintro e w3 ⟨rfl, hb3⟩
  have HB3 := Lib.hid (HB.out.trans (hb3.mono (by have := HB.out.size; omega)))
  have k3 := H2.out.on hb3
  have z0 := k3.cell 0 _ rfl
  have z2 := k3.cell 2 _ rfl
  clear hb3 HB x0 x2 k3 HH
  have HB := HB3
  clear HB3
  by_cases h16 : lf = 16
  · have HN := Lib.hid (HE.out.trans (if_pos (Or.inl h16)))
    clear HE elf
    subst h16
    go_wp2_with fail
    go_ret
    exact ⟨by rw [HN.out]; first | done | rfl, by first | exact HB.out | (rw [eR]; exact HB.out)⟩
  by_cases h0 : lf = 0
  · by_cases h8 : len = 8
    · have HN := Lib.hid (HE.out.trans (if_pos (Or.inr ⟨h0, h8⟩)))
      clear HE elf h16 hsl elen
      subst h0
      subst h8
      go_wp2_with fail
      go_ret
      exact ⟨by rw [HN.out]; first | done | rfl, by first | exact HB.out | (rw [eR]; exact HB.out)⟩
    · have h1 := HE.out.trans (if_neg (by omega))
      have q8 : ((len : Int) == 8) = false := by simp; omega
      have q8b : ¬ (len : Int) = 8 := by omega
      have HE2 := Lib.hid h1
      clear HE elf h16 hsl elen h8 h1
      subst h0
      by_cases hx : next = 4611686018427387903
      · have HN := Lib.hid (HE2.out.trans (if_pos hx))
        clear HE2
        subst hx
        go_wp2_with fail
        go_ret
        exact ⟨by rw [HN.out]; first | done | rfl, by first | exact HB.out | (rw [eR]; exact HB.out)⟩
      · have HN := Lib.hid (HE2.out.trans (if_neg hx))
        have qx : ((next : Int) == 4611686018427387903) = false := by simp; omega
        have qxb : ¬ (next : Int) = 4611686018427387903 := by omega
        clear HE2 hx
        go_wp2_with fail
        go_ret
        exact ⟨by rw [HN.out]; first | done | rfl, by first | exact HB.out | (rw [eR]; exact HB.out)⟩
  · have h1 := HE.out.trans (if_neg (by omega))
    have q16 : ((lf : Int) == 16) = false := by simp; omega
    have q16b : ¬ (lf : Int) = 16 := by omega
    have q0 : ((lf : Int) == 0) = false := by simp; omega
    have q0b : ¬ (lf : Int) = 0 := by omega
    have HE2 := Lib.hid h1
    clear HE elf h16 h0 hsl elen h1
    by_cases hx : next = 4611686018427387903
    · have HN := Lib.hid (HE2.out.trans (if_pos hx))
      clear HE2
      subst hx
      go_wp2_with fail
      go_ret
      exact ⟨by rw [HN.out]; first | done | rfl, by first | exact HB.out | (rw [eR]; exact HB.out)⟩
    · have HN := Lib.hid (HE2.out.trans (if_neg hx))
      have qx : ((next : Int) == 4611686018427387903) = false := by simp; omega
      have qxb : ¬ (next : Int) = 4611686018427387903 := by omega
      clear HE2 hx
      go_wp2_with fail
      go_ret
      exact ⟨by rw [HN.out]; first | done | rfl, by first | exact HB.out | (rw [eR]; exact HB.out)⟩
end Go.Proofs.Ytmmaimopombepaa
