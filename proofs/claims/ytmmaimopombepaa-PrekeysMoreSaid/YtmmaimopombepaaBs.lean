/- Law 15: PrekeysFetch, for all shelves and users. -/
import Derived.Test.YtmmaimopombepaaBr
namespace Go.Proofs.Ytmmaimopombepaa
open Go.RowKit
set_option maxRecDepth 100000
/-- what Fetch tells, in one form -/
def FetchU (l : List Sh) (u : Nat) (w : World) (e : Ending) (w' : World) : Prop :=
  ∃ (a : Option Addr) (c : Nat) (P : List ShM) (m : ShM), e = .returned (.tuple #[.slice a P.length c, .agg #[.int .u64 (m.s.user : Int), .string m.s.ident, .int .u64 (m.s.sgn.id : Int), .string m.s.sgn.pt, .slice m.a m.s.once.length m.c], .int .i64 (leftE l u)]) ∧ Below w.heap.size w w' ∧ SS w' a c P ∧ PtsAt w' m ∧
    (leftE l u ≠ 0 → P = [] ∧ m.s = sh0) ∧ (leftE l u = 0 → rightSL l ∧ ∃ (i : Nat) (hi : i < l.length), placeS l u = some i ∧ m.s = tellSh l[i] ∧ shs P = l.set i (restSh l[i]))
theorem fetchU_any (a : Option Addr) (c : Nat) (L : List ShM) (u : Nat) (hl : L.length ≤ 1000) (w : World) (h : SS w a c L) :
    Calls Try.prog 23 #[.slice a L.length c, .int .u64 (u : Int)] w fun e w' => FetchU (shs L) u w e w' := by
  refine (fetch_any a c L u hl w h).mono ?_
  rintro e w' ⟨hb, ⟨hne, rfl⟩ | ⟨he, hr, i, hi, hp, a2, c2, L2, a1, c1, rfl, h2, hset, hpp, -⟩⟩
  · exact ⟨none, 0, [], ⟨sh0, none, 0⟩, rfl, hb, SS.empty _, ⟨Sl.nil _ _ _, Nat.le_refl _, fun _ => ⟨rfl, rfl⟩⟩, fun _ => ⟨rfl, rfl⟩, fun h => absurd h hne⟩
  · refine ⟨a2, c2, L2, ⟨tellSh (shs L)[i], a1, c1⟩, by rw [he]; rfl, hb, h2.ss, ⟨hpp.at_, hpp.cap, hpp.nil⟩, fun h => absurd he h, fun _ => ⟨hr, i, hi, hp, rfl, hset⟩⟩
theorem leftE_cases (l : List Sh) (u : Nat) : (¬ rightSL l ∧ leftE l u = 1 ∧ leftN l u = 0) ∨ (rightSL l ∧ placeS l u = none ∧ leftE l u = 5 ∧ leftN l u = 0 ∧ atZ l u = -1) ∨ (rightSL l ∧ ∃ (i : Nat) (hi : i < l.length), placeS l u = some i ∧ leftE l u = 0 ∧ leftN l u = (l[i].once.length : Int) ∧ atZ l u = (i : Int)) := by
  by_cases hr : rightSL l
  · cases hp : placeS l u with
    | none =>
      have := left_none hr hp
      exact Or.inr (Or.inl ⟨hr, rfl, this.2, this.1, by unfold atZ; rw [hp]⟩)
    | some i =>
      have hi : i < l.length := by
        unfold placeS at hp
        exact (List.findIdx?_eq_some_iff_getElem.1 hp).1
      have := left_some hr hp hi
      exact Or.inr (Or.inr ⟨hr, i, hi, rfl, this.2, this.1, by unfold atZ; rw [hp]⟩)
  · exact Or.inl ⟨hr, leftE_bad hr, by unfold leftN; rw [if_pos hr]⟩
theorem two_sets {w : World} {G T : Nat} {t t' : TypeId} {x0 x1 x2 x3 x4 y0 y1 y2 y3 y4 : Value} (kG : BlkV w G t [x0, x1, x2, x3, x4]) (kT : BlkV w T t' [y0, y1, y2, y3, y4]) (hne : G ≠ T) (v v' : Value) :
    BlkV ((w.setCell ⟨G, 4, none⟩ v).setCell ⟨T, 4, none⟩ v') G t [x0, x1, x2, x3, v] ∧ BlkV ((w.setCell ⟨G, 4, none⟩ v).setCell ⟨T, 4, none⟩ v') T t' [y0, y1, y2, y3, v'] :=
  ⟨(kG.set 4 v).far ⟨T, 4, none⟩ (fun e => hne (by cases e; rfl)) v', (kT.far ⟨G, 4, none⟩ (fun e => hne (by cases e; rfl)) v).set 4 v'⟩
set_option maxHeartbeats 8000000 in
theorem fetchLaw_any (a : Option Addr) (c : Nat) (L : List ShM) (hl : L.length ≤ maxLen) (hp : ∀ m ∈ L, m.s.once.length ≤ maxLen) (u : Nat) (w : World) (h : SS w a c L) :
    Calls Try.prog 4 #[.slice a L.length c, .int .u64 (u : Int)] w fun e w' => e = .returned (.bool true) ∧ Below w.heap.size w w' := by
  have HF := Lib.hid (few_any a c L hl hp w h)
  clear h hl hp
  go_enter Try.func4, Try.ntmps4
  go_wp2_with fail
  refine HF.out.mono ?_
  rintro e w1 ⟨a1, c1, rfl, hss, hb1⟩
  obtain ⟨M, eM⟩ : ∃ M, fewM L = M := ⟨_, rfl⟩
  have hM10 : M.length ≤ 10 := by rw [← eM, fewM_length]; omega
  have hM22 : ∀ m ∈ M, m.s.once.length ≤ 22 := by rw [← eM]; exact fewM_few L
  rw [eM] at hss ⊢
  clear eM HF
  have HG := Lib.hid (fetchU_any a1 c1 M u (by omega) w1 hss)
  have HSS := Lib.hid hss
  have HM := Lib.hid (And.intro hM10 hM22)
  have HB1 := Lib.hid hb1
  clear hss hM10 hM22 hb1
  go_wp2_with fail
  refine HG.out.mono ?_
  rintro e w2 ⟨a2, c2, P, m, rfl, hb2, hP, hm, hbad, hok⟩
  obtain ⟨S, eS⟩ : ∃ S, w2.heap.size = S := ⟨_, rfl⟩
  obtain ⟨W3, eW3⟩ : ∃ W3, w2.alloc (.cells #[.int .u64 0, .string ⟨#[]⟩, .int .u64 0, .string ⟨#[]⟩, .slice none 0 0] 28) = W3 := ⟨_, rfl⟩
  have b3 : Below w2.heap.size w2 W3 := by rw [← eW3]; exact (Below.refl _ w2).alloc (Nat.le_refl _) _
  have kS : BlkV W3 S 28 [.int .u64 0, .string ⟨#[]⟩, .int .u64 0, .string ⟨#[]⟩, .slice none 0 0] := by rw [← eW3, ← eS]; exact BlkV.fresh w2 _ _ _ rfl _ rfl
  have x0 := kS.cell 0 _ rfl
  have x1 := kS.cell 1 _ rfl
  have x2 := kS.cell 2 _ rfl
  have x3 := kS.cell 3 _ rfl
  have x4 := kS.cell 4 _ rfl
  have f0 := kS.frozen 0
  have f1 := kS.frozen 1
  have f2 := kS.frozen 2
  have f3 := kS.frozen 3
  have f4 := kS.frozen 4
  have HX := Lib.hid (And.intro hb2 (And.intro hP (And.intro hm (And.intro hbad (And.intro hok (And.intro b3 kS))))))
  clear hb2 hP hm hbad hok b3 kS
  go_upto_region 3 with fail
  have HS4 := HX.out.2.2.2.2.2.2.put5 (.int .u64 (m.s.user : Int)) (.string m.s.ident) (.int .u64 (m.s.sgn.id : Int)) (.string m.s.sgn.pt) (.slice m.a m.s.once.length m.c)
  have hb4 := below_put5 HX.out.2.2.2.2.2.1 S (by rw [← eS]; exact Nat.le_refl _) (.int .u64 (m.s.user : Int)) (.string m.s.ident) (.int .u64 (m.s.sgn.id : Int)) (.string m.s.sgn.pt) (.slice m.a m.s.once.length m.c)
  clear x0 x1 x2 x3 x4 f0 f1 f2 f3 f4 eW3
  generalize World.setCell _ _ _ = W4 at HS4 hb4 ⊢
  have hb14 := HX.out.1.trans (hb4.mono HX.out.1.size)
  have HL := Lib.hid (left_any a1 c1 M u (by have := HM.out.1; omega) W4 (HSS.out.on hb14))
  have H4 := Lib.hid (And.intro HS4 (And.intro (HX.out.2.1.on hb4) (And.intro (HX.out.2.2.1.on hb4) (And.intro HX.out.2.2.2.1 (And.intro HX.out.2.2.2.2.1 (HSS.out.on hb14))))))
  have HW4 := Lib.hid (HB1.out.trans (hb14.mono HB1.out.size))
  clear HX HS4 hb4 hb14 HSS HG HB1
  go_wp2_with fail
  refine HL.out.mono ?_
  rintro e w5 ⟨rfl, hb5⟩
  have HA := Lib.hid (atR_any a1 c1 M u w5 (H4.out.2.2.2.2.2.on hb5) (by have := HM.out.1; omega))
  have HB5 := Lib.hid hb5
  clear hb5 HL
  go_wp2_with fail
  refine HA.out.mono ?_
  rintro e w6 ⟨rfl, hb6⟩
  have hb46 := HB5.out.trans (hb6.mono HB5.out.size)
  have HR := Lib.hid (rightR_any a1 c1 M w6 (H4.out.2.2.2.2.2.on hb46) (by have := HM.out.1; omega))
  have HB6 := Lib.hid hb46
  clear hb6 hb46 HB5 HA
  rcases leftE_cases (shs M) u with ⟨hr, hE, hN⟩ | ⟨hr, hpl, hE, hN, hZ⟩ | ⟨hr, i, hi, hpl, hE, hN, hZ⟩
  · rw [decide_eq_false hr] at HR
    obtain ⟨rfl, hm0⟩ := H4.out.2.2.2.1 (by rw [hE]; decide)
    have HZ := Lib.hid hm0
    clear hm0
    rw [hE, hN] 
    clear hE hN
    go_wp2_with fail
    refine HR.out.mono ?_
    rintro e w7 ⟨rfl, hb7⟩
    have HAl := Lib.hid (alive_any w7)
    have HB7 := Lib.hid (HB6.out.trans (hb7.mono HB6.out.size))
    clear hb7 HB6 HR
    go_wp2_with fail
    refine HAl.out.mono ?_
    rintro e w8 ⟨rfl, hb8⟩
    have hb48 := HB7.out.trans (hb8.mono HB7.out.size)
    have k8 := H4.out.1.on hb48
    have d0 := k8.cell 0 _ rfl
    have d1 := k8.cell 1 _ rfl
    have d2 := k8.cell 2 _ rfl
    have d3 := k8.cell 3 _ rfl
    have d4 := k8.cell 4 _ rfl
    have HO := Lib.hid (one_any m ⟨sh0, none, 0⟩ (by rw [HZ.out]; decide) w8 (H4.out.2.2.1.on hb48) ⟨Sl.nil _ _ _, Nat.le_refl _, fun _ => ⟨rfl, rfl⟩⟩)
    rw [decide_eq_true HZ.out] at HO
    have HB8 := Lib.hid hb48
    clear k8 hb48 hb8 HB7
    go_wp2_with (go_at_call 26; refine HO.out.mono ?_; rintro e w9 ⟨rfl, hb9⟩)
    all_goals (go_ret; exact ⟨rfl, HW4.out.trans ((HB8.out.trans (hb9.mono HB8.out.size)).mono HW4.out.size)⟩)
  · rw [decide_eq_true hr] at HR
    obtain ⟨rfl, hm0⟩ := H4.out.2.2.2.1 (by rw [hE]; decide)
    have HZ := Lib.hid hm0
    clear hm0
    rw [hE, hN, hZ] 
    clear hE hN hZ
    go_wp2_with fail
    refine HR.out.mono ?_
    rintro e w7 ⟨rfl, hb7⟩
    have HAl := Lib.hid (alive_any w7)
    have HB7 := Lib.hid (HB6.out.trans (hb7.mono HB6.out.size))
    clear hb7 HB6 HR
    go_wp2_with fail
    refine HAl.out.mono ?_
    rintro e w8 ⟨rfl, hb8⟩
    have hb48 := HB7.out.trans (hb8.mono HB7.out.size)
    have k8 := H4.out.1.on hb48
    have d0 := k8.cell 0 _ rfl
    have d1 := k8.cell 1 _ rfl
    have d2 := k8.cell 2 _ rfl
    have d3 := k8.cell 3 _ rfl
    have d4 := k8.cell 4 _ rfl
    have HO := Lib.hid (one_any m ⟨sh0, none, 0⟩ (by rw [HZ.out]; decide) w8 (H4.out.2.2.1.on hb48) ⟨Sl.nil _ _ _, Nat.le_refl _, fun _ => ⟨rfl, rfl⟩⟩)
    rw [decide_eq_true HZ.out] at HO
    have HB8 := Lib.hid hb48
    clear k8 hb48 hb8 HB7
    go_wp2_with (go_at_call 26; refine HO.out.mono ?_; rintro e w9 ⟨rfl, hb9⟩)
    all_goals (go_ret; exact ⟨rfl, HW4.out.trans ((HB8.out.trans (hb9.mono HB8.out.size)).mono HW4.out.size)⟩)
  · rw [decide_eq_true hr] at HR
    obtain ⟨-, i', hi', hpl', hms, hset⟩ := H4.out.2.2.2.2.1 hE
    rw [hpl] at hpl'
    obtain rfl : i = i' := Option.some.inj hpl'
    have hiM : i < M.length := by rw [← shs_length M]; exact hi
    have hiz : (i : Int) < (M.length : Int) := by omega
    have hi0 : ¬ (i : Int) < 0 := by omega
    have hMi : (shs M)[i] = M[i].s := by simp [shs]
    rw [hMi] at hms hset hN
    rw [hE, hN, hZ]
    have HZ := Lib.hid (And.intro hr (And.intro hms (And.intro hset (And.intro hpl hMi))))
    clear hE hN hZ hms hset hpl hpl' hMi hr
    go_wp2_with fail
    refine HR.out.mono ?_
    rintro e w7 ⟨rfl, hb7⟩
    have HB7 := Lib.hid (HB6.out.trans (hb7.mono HB6.out.size))
    clear hb7 HB6 HR
    go_upto_region 12 with fail
    obtain ⟨b, off, rfl, hlt, hall⟩ := (H4.out.2.2.2.2.2.on HB7.out).sl.get i hiM
    have hpt := (H4.out.2.2.2.2.2.on HB7.out).sl.pts _ (List.getElem_mem hiM)
    obtain ⟨x0, x1, x2, x3, x4⟩ := hall i hiM
    obtain ⟨x, ex⟩ : ∃ x, M[i] = x := ⟨_, rfl⟩
    rw [ex] at x0 x1 x2 x3 x4 hpt ⊢
    have HY := Lib.hid (And.intro hpt (And.intro ex hall))
    clear hpt hall ex
    have hxl : x.s.once.length ≤ 1000 := by have := HM.out.2 _ (List.getElem_mem hiM); rw [HY.out.2.1] at this; omega
    have HFi := Lib.hid (fun W (hq : PP W x.a x.c x.s.once) => first_any x.a x.c x.s.once hxl W hq)
    have HRe := Lib.hid (fun W (hq : PP W x.a x.c x.s.once) => rest_any x.a x.c x.s.once hxl W hq)
    have HXL := Lib.hid hxl
    clear hxl
    go_cut [12, 13] from 66 to 73 (fun s t wx => ∃ G T : Nat, s = .pointer (some ⟨G, 0, none⟩) ∧ t = .pointer (some ⟨T, 0, none⟩) ∧ G ≠ T ∧ w7.heap.size ≤ G ∧ w7.heap.size ≤ T ∧ BlkV wx G 28 [.int .u64 (x.s.user : Int), .string x.s.ident, .int .u64 (x.s.sgn.id : Int), .string x.s.sgn.pt, .slice x.a x.s.once.length x.c] ∧ BlkV wx T 28 [.int .u64 (x.s.user : Int), .string x.s.ident, .int .u64 (x.s.sgn.id : Int), .string x.s.sgn.pt, .slice x.a x.s.once.length x.c] ∧ Below w7.heap.size w7 wx)
    case first =>
      have q1 : BlkV (((w7.alloc (.cells ([.int .u64 (x.s.user : Int), .string x.s.ident, .int .u64 (x.s.sgn.id : Int), .string x.s.sgn.pt, .slice x.a x.s.once.length x.c]).toArray 28)).alloc (.cells ([.int .u64 (x.s.user : Int), .string x.s.ident, .int .u64 (x.s.sgn.id : Int), .string x.s.sgn.pt, .slice x.a x.s.once.length x.c]).toArray 28)).drew) w7.heap.size 28 [.int .u64 (x.s.user : Int), .string x.s.ident, .int .u64 (x.s.sgn.id : Int), .string x.s.sgn.pt, .slice x.a x.s.once.length x.c] := (BlkV.fresh w7 _ _ _ rfl _ rfl).alloc _
      have q2 : BlkV (((w7.alloc (.cells ([.int .u64 (x.s.user : Int), .string x.s.ident, .int .u64 (x.s.sgn.id : Int), .string x.s.sgn.pt, .slice x.a x.s.once.length x.c]).toArray 28)).alloc (.cells ([.int .u64 (x.s.user : Int), .string x.s.ident, .int .u64 (x.s.sgn.id : Int), .string x.s.sgn.pt, .slice x.a x.s.once.length x.c]).toArray 28)).drew) (w7.heap.size + 1) 28 [.int .u64 (x.s.user : Int), .string x.s.ident, .int .u64 (x.s.sgn.id : Int), .string x.s.sgn.pt, .slice x.a x.s.once.length x.c] := BlkV.fresh _ _ _ _ rfl _ (by simp)
      have q3 : Below w7.heap.size w7 (((w7.alloc (.cells ([.int .u64 (x.s.user : Int), .string x.s.ident, .int .u64 (x.s.sgn.id : Int), .string x.s.sgn.pt, .slice x.a x.s.once.length x.c]).toArray 28)).alloc (.cells ([.int .u64 (x.s.user : Int), .string x.s.ident, .int .u64 (x.s.sgn.id : Int), .string x.s.sgn.pt, .slice x.a x.s.once.length x.c]).toArray 28)).drew) := (((Below.refl _ w7).alloc (Nat.le_refl _) _).alloc (by simp) _).drew
      have HQ := Lib.hid (And.intro q1 (And.intro q2 q3))
      clear q1 q2 q3
      go_region
      · go_wp2_with fail
        go_meet
        exact ⟨w7.heap.size, w7.heap.size + 1, rfl, rfl, by omega, by omega, by omega, HQ.out.1, HQ.out.2.1, HQ.out.2.2⟩
      · go_wp2_with fail
        go_meet
        exact ⟨w7.heap.size + 1, w7.heap.size, rfl, rfl, by omega, by omega, by omega, HQ.out.2.1, HQ.out.1, HQ.out.2.2⟩
    case rest =>
      obtain ⟨G, T, rfl, rfl, hne, hG, hT, kG, kT, hb8⟩ := hcut
      have HK := Lib.hid (And.intro kG (And.intro kT (And.intro hb8 (HY.out.1.pp.on hb8))))
      have e4 := kG.cell 4 _ rfl
      have d4 := kT.cell 4 _ rfl
      have f4 := kG.frozen 4
      have g4 := kT.frozen 4
      clear kG kT hb8 x0 x1 x2 x3 x4
      obtain ⟨n1, en1⟩ : ∃ n1, (x.s.once.take 1).length = n1 := ⟨_, rfl⟩
      obtain ⟨n2, en2⟩ : ∃ n2, (x.s.once.drop 1).length = n2 := ⟨_, rfl⟩
      rw [en1] at HFi
      rw [en2] at HRe
      have HN := Lib.hid (And.intro en1 en2)
      clear en1 en2
      go_upto_region 13 with fail
      go_cut [] from 74 to 81 (fun wx => ∃ (a' : Option Addr) (c' : Nat), BlkV wx G 28 [.int .u64 (x.s.user : Int), .string x.s.ident, .int .u64 (x.s.sgn.id : Int), .string x.s.sgn.pt, .slice x.a n1 x.c] ∧ BlkV wx T 28 [.int .u64 (x.s.user : Int), .string x.s.ident, .int .u64 (x.s.sgn.id : Int), .string x.s.sgn.pt, .slice a' n2 c'] ∧ Below w7.heap.size w7 wx ∧ PP wx a' c' (x.s.once.drop 1))
      case first =>
        go_region_with (first
          | (go_at_call 27; refine (HFi.out _ ?_).mono ?_; exact HK.out.2.2.2.on (Below.refl _ _).drew; rintro e w' ⟨rfl, rfl⟩)
          | (go_at_call 28; refine (HRe.out _ ?_).mono ?_; exact HK.out.2.2.2.on (Below.refl _ _).drew; rintro e w' ⟨a', c', rfl, rfl, hR⟩))
        all_goals
          go_wp2_with fail
          go_meet
          have hB : ∀ v v', Below w7.heap.size w7 (((wc.setCell ⟨G, 4, none⟩ v).setCell ⟨T, 4, none⟩ v').drew) := fun v v' => ((HK.out.2.2.1.setCell hG v).setCell hT v').drew
          have hB' : ∀ v v', Below w7.heap.size w7 (((wc.setCell ⟨T, 4, none⟩ v').setCell ⟨G, 4, none⟩ v).drew) := fun v v' => ((HK.out.2.2.1.setCell hT v').setCell hG v).drew
          first
            | exact ⟨a', c', (two_sets HK.out.1 HK.out.2.1 hne _ _).1.dr, (two_sets HK.out.1 HK.out.2.1 hne _ _).2.dr, hB _ _, hR _ (HY.out.1.pp.on (hB _ _))⟩
            | exact ⟨a', c', (two_sets HK.out.2.1 HK.out.1 hne.symm _ _).2.dr, (two_sets HK.out.2.1 HK.out.1 hne.symm _ _).1.dr, hB' _ _, hR _ (HY.out.1.pp.on (hB' _ _))⟩
      case rest =>
        obtain ⟨a', c', kG, kT, hb9, hpp⟩ := hcut
        have HAl := Lib.hid (alive_any wc)
        have HQ := Lib.hid (And.intro kG (And.intro kT (And.intro hb9 hpp)))
        clear kG kT hb9 hpp
        go_wp2_with fail
        refine HAl.out.mono ?_
        rintro e w10 ⟨rfl, hb10⟩
        have b710 := HQ.out.2.2.1.trans (hb10.mono HQ.out.2.2.1.size)
        have b10 := HB7.out.trans (b710.mono HB7.out.size)
        have kS := H4.out.1.on b10
        have kG := HQ.out.1.on hb10
        have ss10 := H4.out.2.2.2.2.2.on b10
        obtain ⟨b', off', eb, hlt', hall⟩ := ss10.sl.get i hiM
        cases eb
        have z4 := (hall i hiM).c4
        rw [HY.out.2.1] at z4
        have s0 := kS.cell 0 _ rfl
        have s1 := kS.cell 1 _ rfl
        have s2 := kS.cell 2 _ rfl
        have s3 := kS.cell 3 _ rfl
        have s4 := kS.cell 4 _ rfl
        have t0 := kG.cell 0 _ rfl
        have t1 := kG.cell 1 _ rfl
        have t2 := kG.cell 2 _ rfl
        have t3 := kG.cell 3 _ rfl
        have t4 := kG.cell 4 _ rfl
        have hxs : (shs M)[i] = x.s := by rw [HZ.out.2.2.2.2, HY.out.2.1]
        have hms : m.s = tellSh x.s := by rw [HZ.out.2.1, HY.out.2.1]
        have HO := Lib.hid (one_any m ⟨tellSh x.s, x.a, x.c⟩ (by rw [hms]; show (x.s.once.take 1).length ≤ 1000; rw [List.length_take]; omega) w10 (H4.out.2.2.1.on b10) (by have := (HY.out.1.pp.on b710).take 1; exact ⟨this.at_, this.cap, this.nil⟩))
        rw [decide_eq_true (show m.s = (⟨tellSh x.s, x.a, x.c⟩ : ShM).s from hms)] at HO
        have en1 : (tellSh x.s).once.length = n1 := HN.out.1
        simp only [en1] at HO
        have HV := Lib.hid (And.intro hb10 (And.intro b710 (And.intro b10 (And.intro hxs hms))))
        clear hb10 b710 b10 kS kG ss10 hall hxs hms en1 HAl
        go_wp2_with fail
        refine HO.out.mono ?_
        rintro e w11 ⟨rfl, hb11⟩
        have b10s := HV.out.1.trans (hb11.mono HV.out.1.size)
        have b711 := HV.out.2.1.trans (hb11.mono HV.out.2.1.size)
        have b411 := HV.out.2.2.1.trans (hb11.mono HV.out.2.2.1.size)
        have kT := HQ.out.2.1.on b10s
        have r0 := kT.cell 0 _ rfl
        have r1 := kT.cell 1 _ rfl
        have r2 := kT.cell 2 _ rfl
        have r3 := kT.cell 3 _ rfl
        have r4 := kT.cell 4 _ rfl
        have hp11 : PtsAt w11 ⟨restSh x.s, a', c'⟩ := by have := HQ.out.2.2.2.on b10s; exact ⟨this.at_, this.cap, this.nil⟩
        have HW := Lib.hid (withR_any (some ⟨b, off, none⟩) c1 M ⟨restSh x.s, a', c'⟩ w11 (H4.out.2.2.2.2.2.on b411) hp11 (by have := HM.out.1; omega))
        have en2 : (restSh x.s).once.length = n2 := HN.out.2
        simp only [en2] at HW
        have H11 := Lib.hid b411
        clear b10s b711 b411 kT hp11 en2 hb11 HO s0 s1 s2 s3 s4 t0 t1 t2 t3 t4 z4
        go_wp2_with fail
        refine HW.out.mono ?_
        rintro e w12 ⟨a9, c9, rfl, hss9, hb12⟩
        have b412 := H11.out.trans (hb12.mono H11.out.size)
        have hPM : shs P = (shs M).set i (restSh x.s) := by rw [HZ.out.2.2.1, HY.out.2.1]
        have hPl : P.length = M.length := by rw [← shs_length P, hPM, List.length_set, shs_length]
        have hPf : FewP P := fun p hp => by
          have h1 : p.s ∈ shs P := List.mem_map.2 ⟨p, hp, rfl⟩
          rw [hPM] at h1
          rcases List.mem_or_eq_of_mem_set h1 with h2 | h2
          · obtain ⟨y, hy, hys⟩ := List.mem_map.1 h2
            have := HM.out.2 y hy
            rw [← hys]
            omega
          · rw [h2]
            show (x.s.once.drop 1).length ≤ 1000
            have := HXL.out
            rw [List.length_drop]
            omega
        have hsame : shs P = shs (withM M ⟨restSh x.s, a', c'⟩) := by
          rw [withM_shs, hPM]
          exact (with_set HZ.out.1.2.2 hi (by rw [HV.out.2.2.2.1]; rfl)).symm
        have HSa := Lib.hid (sameR_any a2 a9 c2 c9 P (withM M ⟨restSh x.s, a', c'⟩) (by have := HM.out.1; omega) hPf w12 (H4.out.2.1.on b412) hss9)
        rw [decide_eq_true hsame] at HSa
        have HB12 := Lib.hid b412
        clear b412 hPM hPl hPf hsame hss9 hb12 HW
        go_wp2_with (go_at_call 19; refine HSa.out.mono ?_; rintro e w13 ⟨rfl, hb13⟩)
        all_goals (go_ret; exact ⟨rfl, HW4.out.trans ((HB12.out.trans (hb13.mono HB12.out.size)).mono HW4.out.size)⟩)
end Go.Proofs.Ytmmaimopombepaa