/- prekeys: More; the reference's All; law 15: PrekeysMore. -/
import Derived.Test.YtmmaimopombepaaBy
namespace Go.Proofs.Ytmmaimopombepaa
open Go.RowKit
set_option maxRecDepth 100000

/-- More's answers in one form -/
def MoreV (l : List Sh) (u : Nat) (m : List Pn) (w : World) (e : Ending) (w' : World) : Prop :=
  ∃ (a : Option Addr) (c : Nat) (K : List ShM) (E : Int), e = .returned (.tuple #[.slice a K.length c, .int .i64 E]) ∧ Below w.heap.size w w' ∧ SS w' a c K ∧ (leftE l u ≠ 0 → E = leftE l u ∧ K = []) ∧
    (leftE l u = 0 → rightSL l ∧ ∃ (i : Nat) (hi : i < l.length), placeS l u = some i ∧ E = moreE l[i].once m ∧ (E ≠ 0 → K = []) ∧ (E = 0 → shs K = l.set i { l[i] with once := l[i].once ++ m }))
set_option maxHeartbeats 4000000 in
theorem more_any (a : Option Addr) (c : Nat) (L : List ShM) (u : Nat) (hl : L.length ≤ 1000) (a2 : Option Addr) (c2 : Nat) (m : List Pn) (hm : m.length ≤ 22) (w : World) (h : SS w a c L) (hp : PP w a2 c2 m) :
    Calls Try.prog 29 #[.slice a L.length c, .int .u64 (u : Int), .slice a2 m.length c2] w fun e w' => MoreV (shs L) u m w e w' := by
  obtain ⟨W0, eW0⟩ : ∃ W0, w.alloc (.cells #[.slice a2 m.length c2] 26) = W0 := ⟨_, rfl⟩
  have b0 : Below w.heap.size w W0 := by rw [← eW0]; exact (Below.refl _ w).alloc (Nat.le_refl _) _
  obtain ⟨R, eR⟩ : ∃ R, w.heap.size = R := ⟨_, rfl⟩
  have kR : BlkV W0 R 26 [.slice a2 m.length c2] := by rw [← eW0, ← eR]; exact BlkV.fresh w _ _ _ rfl _ rfl
  have cR := kR.cell 0 _ rfl
  have hS0 := h.on b0
  have hP0 := hp.on b0
  by_cases hE : leftE (shs L) u = 0
  · obtain ⟨hr, i, hi, hpl⟩ : rightSL (shs L) ∧ ∃ (i : Nat) (hi : i < (shs L).length), placeS (shs L) u = some i := by
      rcases leftE_cases (shs L) u with ⟨-, h, -⟩ | ⟨-, -, h, -⟩ | ⟨hr, i, hi, h1, -⟩
      · rw [hE] at h; cases h
      · rw [hE] at h; cases h
      · exact ⟨hr, i, hi, h1⟩
    have HC := Lib.hid (changedN_ok a c L u hl 64 R (moreE (shs L)[i].once m) { (shs L)[i] with once := (shs L)[i].once ++ m } i hi hr hpl W0 hS0 cf_more1 (fun g c' base K hk w3 hKi hO h1 h2 h3 => by
      have := more1_any g c' base i R K hk a2 c2 m (by rw [hKi]; exact (hr.2.1 _ (List.getElem_mem hi)).2.2.1) hm w3 hO h2 ((h3.cell (p := ⟨R, 0, none⟩) (block_lt_of_cell cR)).trans cR) (hP0.on h3)
      rw [hKi] at this
      exact this))
    have HB := Lib.hid (And.intro b0 (And.intro hE (And.intro hr hpl)))
    clear h hp hS0 hP0 b0 kR cR hE hr hpl
    go_enter Try.func29, Try.ntmps29
    go_upto_region 1 with fail
    clear eW0
    go_wp2_with fail
    refine HC.out.mono ?_
    rintro e w1 ⟨hb, hp⟩
    rcases hp with ⟨hE, rfl⟩ | ⟨hE, a', c', K, rfl, hS, hK⟩
    · have HZ := Lib.hid (And.intro hb hE)
      clear hb hE HC
      go_wp2_with fail
      refine bodyPost_ret (v := .tuple #[.slice none 0 0, .int .i64 (moreE (shs L)[i].once m)]) (by simp [results, Try.results29, go_sem]) rfl ?_
      have hb2 := HB.out.1.trans (((HZ.out.1).alloc HZ.out.1.size (.cells #[] 87)).mono HB.out.1.size)
      exact ⟨none, 0, [], _, rfl, hb2, SS.empty _, fun h => absurd HB.out.2.1 h, fun _ => ⟨HB.out.2.2.1, i, hi, HB.out.2.2.2, rfl, fun _ => rfl, fun h => absurd h HZ.out.2⟩⟩
    · have HZ := Lib.hid (And.intro hb (And.intro hE (And.intro hS hK)))
      clear hb hE hS hK HC
      go_wp2_with fail
      refine bodyPost_ret (v := .tuple #[.slice a' K.length c', .int .i64 0]) (by simp [results, Try.results29, go_sem]) rfl ?_
      have hb2 := HB.out.1.trans (((HZ.out.1).alloc HZ.out.1.size (.cells #[] 87)).mono HB.out.1.size)
      exact ⟨a', c', K, _, rfl, hb2, HZ.out.2.2.1.ss.on ((Below.refl _ w1).alloc (Nat.le_refl _) _), fun h => absurd HB.out.2.1 h, fun _ => ⟨HB.out.2.2.1, i, hi, HB.out.2.2.2, HZ.out.2.1.symm, fun h => absurd rfl h, fun _ => HZ.out.2.2.2⟩⟩
  · have HC := Lib.hid (changedN_err a c L u hl (.func (.func 64) #[] #[.pointer (some ⟨R, 0, none⟩)]) hE W0 hS0)
    have HB := Lib.hid (And.intro b0 hE)
    clear h hp hS0 hP0 b0 kR cR hE
    go_enter Try.func29, Try.ntmps29
    go_upto_region 1 with fail
    clear eW0
    go_wp2_with fail
    refine HC.out.mono ?_
    rintro e w1 ⟨rfl, hb⟩
    have HZ := Lib.hid hb
    clear hb HC
    go_wp2_with fail
    refine bodyPost_ret (v := .tuple #[.slice none 0 0, .int .i64 (leftE (shs L) u)]) (by simp [results, Try.results29, go_sem]) rfl ?_
    have hb2 := HB.out.1.trans (((HZ.out).alloc HZ.out.size (.cells #[] 87)).mono HB.out.1.size)
    exact ⟨none, 0, [], _, rfl, hb2, SS.empty _, fun _ => ⟨rfl, rfl⟩, fun h => absurd h HB.out.2⟩
set_option maxHeartbeats 4000000 in
theorem allR_any (x : ShM) (a2 : Option Addr) (c2 : Nat) (m : List Pn) (hx : x.s.once.length ≤ 1000) (hm : m.length ≤ 1000) (w : World) (h : PtsAt w x) (hp : PP w a2 c2 m) :
    Calls Try.prog 30 #[.agg #[.int .u64 (x.s.user : Int), .string x.s.ident, .int .u64 (x.s.sgn.id : Int), .string x.s.sgn.pt, .slice x.a x.s.once.length x.c], .slice a2 m.length c2] w fun e w' => ∃ v, e = .returned v ∧ OwnE ePn 25 w' w.heap.size v (x.s.once ++ m) ∧ Below w.heap.size w w' := by
  obtain ⟨W0, eW0⟩ : ∃ W0, w.alloc (.cells #[.int .u64 (x.s.user : Int), .string x.s.ident, .int .u64 (x.s.sgn.id : Int), .string x.s.sgn.pt, .slice x.a x.s.once.length x.c] 28) = W0 := ⟨_, rfl⟩
  have b0 : Below w.heap.size w W0 := by rw [← eW0]; exact (Below.refl _ w).alloc (Nat.le_refl _) _
  obtain ⟨R, eR⟩ : ∃ R, w.heap.size = R := ⟨_, rfl⟩
  have kR : BlkV W0 R 28 [.int .u64 (x.s.user : Int), .string x.s.ident, .int .u64 (x.s.sgn.id : Int), .string x.s.sgn.pt, .slice x.a x.s.once.length x.c] := by rw [← eW0, ← eR]; exact BlkV.fresh w _ _ _ rfl _ rfl
  obtain ⟨W1, eW1⟩ : ∃ W1, W0.alloc (.cells #[] 25) = W1 := ⟨_, rfl⟩
  have b1 : Below W0.heap.size W0 W1 := by rw [← eW1]; exact (Below.refl _ _).alloc (Nat.le_refl _) _
  have b01 := b0.trans (b1.mono b0.size)
  have hO : OwnE ePn 25 W1 w.heap.size (.slice (some ⟨W0.heap.size, 0, none⟩) 0 0) [] := by rw [← eW1]; exact OwnE.empty ePn 25 W0 w.heap.size b0.size
  have c4 := (kR.on b1).cell 4 _ rfl
  have HO := Lib.hid hO
  have HK := Lib.hid (And.intro b01 (And.intro (h.on b01).pp hp))
  have HL := Lib.hid (And.intro hx hm)
  clear h hp b0 kR b1 b01 hO hx hm
  go_enter Try.func30, Try.ntmps30
  go_upto_region 2 with fail
  clear eW0 eW1
  go_upto_region 3 with (at_builtin; refine append_E ePn 26 25 _ 24 Try.underlying26 infoPn rfl rfl _ _ rfl w.heap.size _ [] _ _ _ x.s.once rfl rfl rfl HO.out HK.out.2.1.at_ (fun e => (HK.out.2.1.nil e).2) (by have := HL.out; unfold maxLen; simp; omega) (by have := HL.out; simp; omega) HK.out.1.size ?_; intro v' w3 ho3 hg3; have HO3 := Lib.hid ho3; have HG3 := Lib.hid (OwnE.below HO.out HK.out.1 HK.out.1.size hg3); clear ho3 hg3)
  go_wp2_with (at_builtin; refine append_E ePn 26 25 _ 24 Try.underlying26 infoPn rfl rfl _ _ rfl w.heap.size _ ([] ++ x.s.once) _ _ _ m rfl rfl rfl HO3.out (HK.out.2.2.on HG3.out).at_ (fun e => (HK.out.2.2.nil e).2) (by have := HL.out; unfold maxLen; simp; omega) (by have := HL.out; simp; omega) HG3.out.size ?_; intro v2 w4 ho4 hg4; have HO4 := Lib.hid ho4; have HG4 := Lib.hid (OwnE.below HO3.out HG3.out HG3.out.size hg4); clear ho4 hg4)
  go_ret
  exact ⟨_, rfl, HO4.out, HG4.out⟩
/-- the law where a shelf is there: what is told of the points -/
theorem moreE_cases (o m : List Pn) (ho : okPs o) : (¬ alonePs (o ++ m) ∧ moreE o m = 7) ∨ (alonePs (o ++ m) ∧ 20 < (o ++ m).length ∧ moreE o m = 6) ∨ (alonePs (o ++ m) ∧ ¬ 20 < (o ++ m).length ∧ ¬ okPs (o ++ m) ∧ moreE o m = 1) ∨ (alonePs (o ++ m) ∧ ¬ 20 < (o ++ m).length ∧ okPs (o ++ m) ∧ moreE o m = 0) := by
  have hok : okPs (o ++ m) ↔ okPs m := ⟨fun h p hp => h p (List.mem_append_right _ hp), fun h p hp => by
    rcases List.mem_append.1 hp with hp | hp
    · exact ho p hp
    · exact h p hp⟩
  unfold moreE
  by_cases h1 : alonePs (o ++ m)
  · by_cases h2 : 20 < (o ++ m).length
    · exact Or.inr (Or.inl ⟨h1, h2, by rw [if_neg (fun h => h h1), if_pos h2]⟩)
    · by_cases h3 : okPs m
      · exact Or.inr (Or.inr (Or.inr ⟨h1, h2, hok.2 h3, by rw [if_neg (fun h => h h1), if_neg h2, if_neg (fun h => h h3)]⟩))
      · exact Or.inr (Or.inr (Or.inl ⟨h1, h2, fun h => h3 (hok.1 h), by rw [if_neg (fun h => h h1), if_neg h2, if_pos h3]⟩))
  · exact Or.inl ⟨h1, by rw [if_pos h1]⟩
set_option maxHeartbeats 8000000 in
theorem moreLaw_any (a : Option Addr) (c : Nat) (L : List ShM) (hl : L.length ≤ maxLen) (hp : ∀ m ∈ L, m.s.once.length ≤ maxLen) (u : Nat) (a2 : Option Addr) (c2 : Nat) (m0 : List Pn) (hm0 : m0.length ≤ maxLen) (w : World) (h : SS w a c L) (hpm : PP w a2 c2 m0) :
    Calls Try.prog 5 #[.slice a L.length c, .int .u64 (u : Int), .slice a2 m0.length c2] w fun e w' => e = .returned (.bool true) ∧ Below w.heap.size w w' := by
  have HF := Lib.hid (few_any a c L hl hp w h)
  have HPt := Lib.hid (fun W => points_any a2 c2 m0 hm0 hpm.cap (fun e => (hpm.nil e).1) W)
  obtain ⟨m, em⟩ : ∃ m, m0.take 22 = m := ⟨_, rfl⟩
  rw [em] at HPt
  have hm22 : m.length ≤ 22 := by rw [← em, List.length_take]; omega
  have hpm2 := hpm.take 22
  rw [em] at hpm2
  have HPM := Lib.hid (And.intro hpm2 hm22)
  clear h hl hp hpm hpm2 em hm22 hm0
  go_enter Try.func5, Try.ntmps5
  go_wp2_with fail
  refine HF.out.mono ?_
  rintro e w1 ⟨a1, c1, rfl, hss, hb1⟩
  obtain ⟨M, eM⟩ : ∃ M, fewM L = M := ⟨_, rfl⟩
  have hM10 : M.length ≤ 10 := by rw [← eM, fewM_length]; omega
  have hM22 : ∀ m ∈ M, m.s.once.length ≤ 22 := by rw [← eM]; exact fewM_few L
  rw [eM] at hss ⊢
  clear eM HF
  have HSS := Lib.hid (And.intro hss (And.intro hb1 (And.intro hM10 hM22)))
  clear hss hb1 hM10 hM22
  go_wp2_with fail
  refine (HPt.out w1).mono ?_
  rintro e w2 ⟨rfl, rfl⟩
  have HMo := Lib.hid (more_any a1 c1 M u (by have := HSS.out.2.2.1; omega) a2 c2 m HPM.out.2 w2 HSS.out.1 (HPM.out.1.on HSS.out.2.1))
  clear HPt
  go_wp2_with fail
  refine HMo.out.mono ?_
  rintro e w3 ⟨a4, c4, K, E, rfl, hb3, hK, hbad, hok⟩
  have HA := Lib.hid (atR_any a1 c1 M u w3 (HSS.out.1.on hb3) (by have := HSS.out.2.2.1; omega))
  have HX := Lib.hid (And.intro hb3 (And.intro hK (And.intro hbad hok)))
  clear hb3 hK hbad hok HMo
  go_wp2_with fail
  refine HA.out.mono ?_
  rintro e w4 ⟨rfl, hb4⟩
  have hb34 := HX.out.1.trans (hb4.mono HX.out.1.size)
  have HR := Lib.hid (rightR_any a1 c1 M w4 (HSS.out.1.on hb34) (by have := HSS.out.2.2.1; omega))
  have HK4 := Lib.hid (HX.out.2.1.on hb4)
  have HB4 := Lib.hid hb34
  clear hb4 hb34 HA
  rcases leftE_cases (shs M) u with ⟨hr, hE, -⟩ | ⟨hr, hpl, hE, -, hZ⟩ | ⟨hr, i, hi, hpl, hE, -, hZ⟩
  · rw [decide_eq_false hr] at HR
    obtain ⟨rfl, rfl⟩ := HX.out.2.2.1 (by rw [hE]; decide)
    rw [hE]
    clear hE hr
    go_wp2_with fail
    refine HR.out.mono ?_
    rintro e w5 ⟨rfl, hb5⟩
    have HAl := Lib.hid (alive_any w5)
    have HB5 := Lib.hid (HB4.out.trans (hb5.mono HB4.out.size))
    clear hb5 HR
    go_wp2_with (go_at_call 20; refine HAl.out.mono ?_; rintro e w6 ⟨rfl, hb6⟩)
    go_ret
    exact ⟨rfl, HSS.out.2.1.trans ((HB5.out.trans (hb6.mono HB5.out.size)).mono HSS.out.2.1.size)⟩
  · rw [decide_eq_true hr] at HR
    obtain ⟨rfl, rfl⟩ := HX.out.2.2.1 (by rw [hE]; decide)
    rw [hE, hZ]
    clear hE hr hZ hpl
    go_wp2_with fail
    refine HR.out.mono ?_
    rintro e w5 ⟨rfl, hb5⟩
    have HAl := Lib.hid (alive_any w5)
    have HB5 := Lib.hid (HB4.out.trans (hb5.mono HB4.out.size))
    clear hb5 HR
    go_wp2_with (go_at_call 20; refine HAl.out.mono ?_; rintro e w6 ⟨rfl, hb6⟩)
    go_ret
    exact ⟨rfl, HSS.out.2.1.trans ((HB5.out.trans (hb6.mono HB5.out.size)).mono HSS.out.2.1.size)⟩
  · rw [decide_eq_true hr] at HR
    rw [hZ]
    obtain ⟨-, i', hi', hpl', hEm, hKn, hKs⟩ := HX.out.2.2.2 hE
    obtain rfl : i = i' := Option.some.inj (hpl.symm.trans hpl')
    have hiM : i < M.length := by rw [← shs_length M]; exact hi
    have hiz : (i : Int) < (M.length : Int) := by omega
    have hi0 : ¬ (i : Int) < 0 := by omega
    have hMi : (shs M)[i] = M[i].s := shs_get M i hiM
    have hxr : rightSh M[i].s := by rw [← hMi]; exact hr.2.1 _ (List.getElem_mem hi)
    rw [hMi] at hEm hKs
    have hu : M[i].s.user = u := by rw [← hMi]; exact place_user hpl hi
    have HZ := Lib.hid (And.intro hr (And.intro hEm (And.intro hKn (And.intro hKs (And.intro hxr (And.intro hu (And.intro hMi hiM)))))))
    clear hE hr hZ hpl hpl' hEm hKn hKs hxr hu hMi
    go_wp2_with fail
    refine HR.out.mono ?_
    rintro e w5 ⟨rfl, hb5⟩
    have HB5 := Lib.hid (HB4.out.trans (hb5.mono HB4.out.size))
    have hK5 := HK4.out.on hb5
    have hs5 := HSS.out.1.on HB5.out
    obtain ⟨b, off, rfl, hlt, hall⟩ := hs5.sl.get i hiM
    have hpt := hs5.sl.pts _ (List.getElem_mem hiM)
    obtain ⟨x0, x1, x2, x3, x4⟩ := hall i hiM
    have hx22 := HSS.out.2.2.2 _ (List.getElem_mem hiM)
    have hz1 := HZ.out
    obtain ⟨x, ex⟩ : ∃ x, M[i] = x := ⟨_, rfl⟩
    rw [ex] at x0 x1 x2 x3 x4 hpt hx22 hz1
    have HZ2 := Lib.hid hz1
    obtain ⟨W6, eW6⟩ : ∃ W6, w5.alloc (.cells #[.int .u64 (x.s.user : Int), .string x.s.ident, .int .u64 (x.s.sgn.id : Int), .string x.s.sgn.pt, .slice x.a x.s.once.length x.c] 28) = W6 := ⟨_, rfl⟩
    have b6 : Below w5.heap.size w5 W6 := by rw [← eW6]; exact (Below.refl _ w5).alloc (Nat.le_refl _) _
    obtain ⟨S, eS⟩ : ∃ S, w5.heap.size = S := ⟨_, rfl⟩
    have kS : BlkV W6 S 28 [.int .u64 (x.s.user : Int), .string x.s.ident, .int .u64 (x.s.sgn.id : Int), .string x.s.sgn.pt, .slice x.a x.s.once.length x.c] := by rw [← eW6, ← eS]; exact BlkV.fresh w5 _ _ _ rfl _ rfl
    have q0 := kS.cell 0 _ rfl
    have q1 := kS.cell 1 _ rfl
    have q2 := kS.cell 2 _ rfl
    have q3 := kS.cell 3 _ rfl
    have q4 := kS.cell 4 _ rfl
    have HAll := Lib.hid (allR_any x a2 c2 m (by omega) (by have := HPM.out.2; omega) W6 (hpt.on b6) ((HPM.out.1.on HSS.out.2.1).on (HB5.out.trans (b6.mono HB5.out.size))))
    have HC := Lib.hid (And.intro b6 (And.intro kS (And.intro hK5 (And.intro eS hx22))))
    clear hb5 HR HZ hK5 hs5 hpt hall ex b6 kS hx22 hz1 HX HK4
    go_upto_region 9 with fail
    clear eW6 x0 x1 x2 x3 x4
    go_wp2_with fail
    refine HAll.out.mono ?_
    rintro e w7 ⟨v, rfl, ho, hb7⟩
    obtain ⟨a5, c5, rfl, g1, g2, g3, g4⟩ := ho.sl
    obtain ⟨all, eall⟩ : ∃ all, x.s.once ++ m = all := ⟨_, rfl⟩
    have hpa : PP w7 a5 c5 all := by rw [← eall]; exact ⟨g2, g1, g3⟩
    have hge : Ge W6.heap.size a5 := g4
    have hal : all.length ≤ 44 := by rw [← eall, List.length_append]; have := HC.out.2.2.2.2; have := HPM.out.2; omega
    rw [eall]
    have k7 := HC.out.2.1.on hb7
    have r0 := k7.cell 0 _ rfl
    have r1 := k7.cell 1 _ rfl
    have r2 := k7.cell 2 _ rfl
    have r3 := k7.cell 3 _ rfl
    have r4 := k7.cell 4 _ rfl
    have f4 := k7.frozen 4
    have HD := Lib.hid (And.intro hb7 (And.intro hpa (And.intro hge (And.intro k7 (And.intro eall hal)))))
    clear ho g1 g2 g3 g4 hpa hge k7 q0 q1 q2 q3 q4 HAll hb7
    go_upto_region 10 with fail
    have hSW : S < W6.heap.size := HC.out.2.1.lt
    have k8 := HD.out.2.2.2.1.set 4 (.slice a5 all.length c5)
    have b8 : Below w5.heap.size w5 (w7.setCell ⟨S, 4, none⟩ (.slice a5 all.length c5)) := (HC.out.1.trans (HD.out.1.mono HC.out.1.size)).setCell (show w5.heap.size ≤ (⟨S, 4, none⟩ : Addr).block by show w5.heap.size ≤ S; rw [HC.out.2.2.2.1]; exact Nat.le_refl _) _
    have hk8 : ∀ k, k ≠ S → (w7.setCell ⟨S, 4, none⟩ (.slice a5 all.length c5)).heap[k]? = w7.heap[k]? := fun k hk => heap_setCell_other w7 ⟨S, 4, none⟩ k _ hk
    have hs8 : (w7.setCell ⟨S, 4, none⟩ (.slice a5 all.length c5)).heap.size = w7.heap.size := World.size_setCell _ _ _
    have hp8 : PP (w7.setCell ⟨S, 4, none⟩ (.slice a5 all.length c5)) a5 c5 all := PP_keep HD.out.2.1 HD.out.2.2.1 (by rw [hs8]; exact Nat.le_refl _) (fun k h1 _ => hk8 k (by omega))
    generalize w7.setCell _ _ = W8 at k8 b8 hk8 hs8 hp8 ⊢
    have HT := Lib.hid (twice_any a5 c5 all (by have := HD.out.2.2.2.2.2; omega) W8 hp8)
    have z0 := k8.cell 0 _ rfl
    have z1 := k8.cell 1 _ rfl
    have z2 := k8.cell 2 _ rfl
    have z3 := k8.cell 3 _ rfl
    have z4 := k8.cell 4 _ rfl
    have HE := Lib.hid (And.intro k8 (And.intro b8 hp8))
    have hKl : E ≠ 0 → K = [] := HZ2.out.2.2.1
    have hEq : E = moreE x.s.once m := HZ2.out.2.1
    have hcs := moreE_cases x.s.once m HZ2.out.2.2.2.2.1.2.2.2.1
    rw [HD.out.2.2.2.2.1, ← hEq] at hcs
    clear k8 b8 hk8 hs8 hp8 r0 r1 r2 r3 r4 f4 hSW
    have hbw5 := HSS.out.2.1.trans (HB5.out.mono HSS.out.2.1.size)
    have HW5 := Lib.hid hbw5
    clear hbw5
    rcases hcs with ⟨e1, e2⟩ | ⟨e1, e2, e3⟩ | ⟨e1, e2, e3, e4⟩ | ⟨e1, e2, e3, e4⟩
    · rw [decide_eq_false e1] at HT
      obtain rfl : K = [] := hKl (by omega)
      rw [e2]
      clear e1 e2 hKl hEq
      go_wp2_with fail
      refine HT.out.mono ?_
      rintro e w9 ⟨rfl, hb9⟩
      have HAl := Lib.hid (alive_any w9)
      have HB9 := Lib.hid (HE.out.2.1.trans (hb9.mono HE.out.2.1.size))
      clear hb9
      go_wp2_with (go_at_call 20; refine HAl.out.mono ?_; rintro e w10 ⟨rfl, hb10⟩)
      go_ret
      exact ⟨rfl, HW5.out.trans ((HB9.out.trans (hb10.mono HB9.out.size)).mono HW5.out.size)⟩
    · rw [decide_eq_true e1] at HT
      obtain rfl : K = [] := hKl (by omega)
      rw [e3]
      have e2z : (all.length : Int) > 20 := by omega
      clear e1 e2 e3 hKl hEq
      go_wp2_with fail
      refine HT.out.mono ?_
      rintro e w9 ⟨rfl, hb9⟩
      have y4 := (HE.out.1.on hb9).cell 4 _ rfl
      have HAl := Lib.hid (alive_any w9)
      have HB9 := Lib.hid (HE.out.2.1.trans (hb9.mono HE.out.2.1.size))
      clear hb9
      go_wp2_with (go_at_call 20; refine HAl.out.mono ?_; rintro e w10 ⟨rfl, hb10⟩)
      go_ret
      exact ⟨rfl, HW5.out.trans ((HB9.out.trans (hb10.mono HB9.out.size)).mono HW5.out.size)⟩
    · rw [decide_eq_true e1] at HT
      obtain rfl : K = [] := hKl (by omega)
      rw [e4]
      have e2z : ¬ (all.length : Int) > 20 := by omega
      have HN := Lib.hid e3
      clear e1 e2 e3 e4 hKl hEq
      go_wp2_with fail
      refine HT.out.mono ?_
      rintro e w9 ⟨rfl, hb9⟩
      have y4 := (HE.out.1.on hb9).cell 4 _ rfl
      have HP := Lib.hid (pointsR_any a5 c5 all (by have := HD.out.2.2.2.2.2; omega) w9 (HE.out.2.2.on hb9))
      rw [decide_eq_false HN.out] at HP
      have HB9 := Lib.hid (HE.out.2.1.trans (hb9.mono HE.out.2.1.size))
      clear hb9
      go_wp2_with fail
      refine HP.out.mono ?_
      rintro e w10 ⟨rfl, hb10⟩
      have HAl := Lib.hid (alive_any w10)
      have HB10 := Lib.hid (HB9.out.trans (hb10.mono HB9.out.size))
      clear hb10
      go_wp2_with (go_at_call 20; refine HAl.out.mono ?_; rintro e w11 ⟨rfl, hb11⟩)
      go_ret
      exact ⟨rfl, HW5.out.trans ((HB10.out.trans (hb11.mono HB10.out.size)).mono HW5.out.size)⟩
    · rw [decide_eq_true e1] at HT
      rw [e4]
      have e2z : ¬ (all.length : Int) > 20 := by omega
      have HN := Lib.hid (And.intro e3 (And.intro e4 (by omega : all.length ≤ 20)))
      clear e1 e2 e3 e4 hKl hEq
      go_wp2_with fail
      refine HT.out.mono ?_
      rintro e w9 ⟨rfl, hb9⟩
      have y4 := (HE.out.1.on hb9).cell 4 _ rfl
      have HP := Lib.hid (pointsR_any a5 c5 all (by have := HD.out.2.2.2.2.2; omega) w9 (HE.out.2.2.on hb9))
      rw [decide_eq_true HN.out.1] at HP
      have HB9 := Lib.hid (And.intro hb9 (HE.out.2.1.trans (hb9.mono HE.out.2.1.size)))
      clear hb9
      go_wp2_with fail
      refine HP.out.mono ?_
      rintro e w10 ⟨rfl, hb10⟩
      have HAl := Lib.hid (alive_any w10)
      have HB10 := Lib.hid (And.intro (HB9.out.1.trans (hb10.mono HB9.out.1.size)) (HB9.out.2.trans (hb10.mono HB9.out.2.size)))
      clear hb10 y4
      go_wp2_with fail
      refine HAl.out.mono ?_
      rintro e w11 ⟨rfl, hb11⟩
      have b811 := HB10.out.1.trans (hb11.mono HB10.out.1.size)
      have b511 := HB10.out.2.trans (hb11.mono HB10.out.2.size)
      have b311 := HB5.out.trans (b511.mono HB5.out.size)
      have k11 := HE.out.1.on b811
      have y0 := k11.cell 0 _ rfl
      have y1 := k11.cell 1 _ rfl
      have y2 := k11.cell 2 _ rfl
      have y3 := k11.cell 3 _ rfl
      have y4 := k11.cell 4 _ rfl
      have hp11 : PtsAt w11 ⟨{ x.s with once := all }, a5, c5⟩ := by have := HE.out.2.2.on b811; exact ⟨this.at_, this.cap, this.nil⟩
      have HW := Lib.hid (withR_any (some ⟨b, off, none⟩) c1 M ⟨{ x.s with once := all }, a5, c5⟩ w11 (HSS.out.1.on b311) hp11 (by have := HSS.out.2.2.1; omega))
      have H11 := Lib.hid (And.intro b511 (And.intro b311 b811))
      clear b811 b511 b311 k11 hp11 hb11
      go_wp2_with fail
      refine HW.out.mono ?_
      rintro e w12 ⟨a9, c9, rfl, hss9, hb12⟩
      have b512 := H11.out.1.trans (hb12.mono H11.out.1.size)
      have hPM : shs K = (shs M).set i { x.s with once := all } := by rw [HZ2.out.2.2.2.1 HN.out.2.1, HD.out.2.2.2.2.1]
      have hKl : K.length = M.length := by rw [← shs_length K, hPM, List.length_set, shs_length]
      have hKf : FewP K := fun q hq => by
        have h1 : q.s ∈ shs K := List.mem_map.2 ⟨q, hq, rfl⟩
        rw [hPM] at h1
        rcases List.mem_or_eq_of_mem_set h1 with h2 | h2
        · obtain ⟨y, hy, hys⟩ := List.mem_map.1 h2
          have := HSS.out.2.2.2 y hy
          rw [← hys]
          omega
        · rw [h2]
          show all.length ≤ 1000
          have := HN.out.2.2
          omega
      have hsame : shs K = shs (withM M ⟨{ x.s with once := all }, a5, c5⟩) := by
        rw [withM_shs, hPM]
        exact (with_set HZ2.out.1.2.2 hi (by rw [HZ2.out.2.2.2.2.2.2.1])).symm
      have HSa := Lib.hid (sameR_any a4 a9 c4 c9 K (withM M ⟨{ x.s with once := all }, a5, c5⟩) (by have := HSS.out.2.2.1; omega) hKf w12 (HC.out.2.2.1.on b512) hss9)
      rw [decide_eq_true hsame] at HSa
      have HB12 := Lib.hid b512
      clear b512 hPM hKl hKf hsame hss9 hb12 HW y0 y1 y2 y3 y4
      go_wp2_with (go_at_call 19; refine HSa.out.mono ?_; rintro e w13 ⟨rfl, hb13⟩)
      go_ret
      exact ⟨rfl, HW5.out.trans ((HB12.out.trans (hb13.mono HB12.out.size)).mono HW5.out.size)⟩
end Go.Proofs.Ytmmaimopombepaa
