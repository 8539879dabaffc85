/- Law 15: PrekeysOnce, where the user has a shelf. -/
import Derived.Test.YtmmaimopombepaaBu
import Derived.Deep.RegionLaw
namespace Go.Proofs.Ytmmaimopombepaa
open Go.RowKit
set_option maxRecDepth 100000

/-- an append to an own row leaves a block of another type -/
theorem BlkV.keptE {T : Type} {E : Enc T} {t s : TypeId} {w w' : World} {base B : Nat} {v : Value} {l : List T} {vs : List Value} (h : BlkV w B s vs) (ho : OwnE E t w base v l) (hg : w.grownBy w' v.ownBlock) (hst : s ≠ t) : BlkV w' B s vs := ho.keeps hg B _ s (0, 0) h hst
/-- an own row where a block of another type was turned -/
theorem OwnE.farT {T : Type} {E : Enc T} {t s : TypeId} {w w' : World} {base B : Nat} {v : Value} {l : List T} {vs : List Value} (h : OwnE E t w base v l) (hB : BlkV w B s vs) (hst : s ≠ t) (hk : ∀ k, k ≠ B → w'.heap[k]? = w.heap[k]?) : OwnE E t w' base v l := by
  refine ⟨h.1, ?_⟩
  rcases h.2 with h2 | ⟨g, cap, cur, e, hg, hc, hr⟩
  · exact Or.inl h2
  · refine Or.inr ⟨g, cap, cur, e, hg, ?_, hr⟩
    rw [hk g (fun h3 => ?_)]
    · exact hc
    · subst h3
      unfold BlkV at hB
      rw [hc] at hB
      injection hB with hB
      injection hB with _ h4
      exact hst h4.symm
theorem put5_far (w : World) (B : Nat) (y0 y1 y2 y3 y4 : Value) (k : Nat) (hk : k ≠ B) : (((((w.setCell ⟨B, 0, none⟩ y0).setCell ⟨B, 1, none⟩ y1).setCell ⟨B, 2, none⟩ y2).setCell ⟨B, 3, none⟩ y3).setCell ⟨B, 4, none⟩ y4).heap[k]? = w.heap[k]? := by
  rw [heap_setCell_other _ ⟨B, 4, none⟩ k _ hk, heap_setCell_other _ ⟨B, 3, none⟩ k _ hk, heap_setCell_other _ ⟨B, 2, none⟩ k _ hk, heap_setCell_other _ ⟨B, 1, none⟩ k _ hk, heap_setCell_other _ ⟨B, 0, none⟩ k _ hk]
theorem put5_size (w : World) (B : Nat) (y0 y1 y2 y3 y4 : Value) : (((((w.setCell ⟨B, 0, none⟩ y0).setCell ⟨B, 1, none⟩ y1).setCell ⟨B, 2, none⟩ y2).setCell ⟨B, 3, none⟩ y3).setCell ⟨B, 4, none⟩ y4).heap.size = w.heap.size := by
  rw [World.size_setCell, World.size_setCell, World.size_setCell, World.size_setCell, World.size_setCell]
/-- Fetch's answers in one form, with where they lie -/
def FetchV (l : List Sh) (u : Nat) (w : World) (e : Ending) (w' : World) : Prop :=
  ∃ (a : Option Addr) (c : Nat) (P : List ShM) (m : ShM), e = .returned (.tuple #[.slice a P.length c, .agg #[.int .u64 (m.s.user : Int), .string m.s.ident, .int .u64 (m.s.sgn.id : Int), .string m.s.sgn.pt, .slice m.a m.s.once.length m.c], .int .i64 (leftE l u)]) ∧ Below w.heap.size w w' ∧ SSb w' w.heap.size a c P ∧ PP w' m.a m.c m.s.once ∧ Ge w.heap.size m.a ∧
    (leftE l u = 0 → rightSL l ∧ ∃ (i : Nat) (hi : i < l.length), placeS l u = some i ∧ m.s = tellSh l[i] ∧ shs P = l.set i (restSh l[i]))
theorem fetchV_any (a : Option Addr) (c : Nat) (L : List ShM) (u : Nat) (hl : L.length ≤ 1000) (w : World) (h : SS w a c L) :
    Calls Try.prog 23 #[.slice a L.length c, .int .u64 (u : Int)] w fun e w' => FetchV (shs L) u w e w' := by
  refine (fetch_any a c L u hl w h).mono ?_
  rintro e w' ⟨hb, ⟨hne, rfl⟩ | ⟨he, hr, i, hi, hp, a2, c2, L2, a1, c1, rfl, h2, hset, hpp, hge⟩⟩
  · exact ⟨none, 0, [], ⟨sh0, none, 0⟩, rfl, hb, ⟨SS.empty _, fun _ _ _ e => (by cases e), fun m hm => by cases hm⟩, ⟨Sl.nil _ _ _, Nat.le_refl _, fun _ => ⟨rfl, rfl⟩⟩, fun _ _ _ e => (by cases e), fun h => absurd h hne⟩
  · refine ⟨a2, c2, L2, ⟨tellSh (shs L)[i], a1, c1⟩, by rw [he]; rfl, hb, h2, hpp, hge, fun _ => ⟨hr, i, hi, hp, rfl, hset⟩⟩
/-- behind k fetches: what is there now, what was got, the last shelf -/
def OnRel (w : World) (l : List Sh) (i n LB : Nat) (now got c : Value) (wr : World) : Prop :=
  ∃ (k : Nat) (W : World), W = wr ∧ c = .int .i64 (k : Int) ∧ k ≤ n + 2 ∧ Below w.heap.size w wr ∧
    ∃ (a : Option Addr) (cp : Nat) (K : List ShM) (m : ShM), now = .slice a K.length cp ∧ SS wr a cp K ∧ shs K = nowS l i k ∧
      OwnE ePn 25 wr w.heap.size got ((l.getD i sh0).once.take k) ∧ BlkV wr LB 28 (shL m) ∧ (0 < k → m.s = tellSh (dropSh (k - 1) (l.getD i sh0)) ∧ PtsAt wr m)
set_option maxHeartbeats 8000000 in
theorem onceGood_any (a : Option Addr) (c : Nat) (L : List ShM) (hl : L.length ≤ maxLen) (hp : ∀ m ∈ L, m.s.once.length ≤ maxLen) (u : Nat) (hgood : leftE (shs (fewM L)) u = 0) (w : World) (h : SS w a c L) :
    Calls Try.prog 6 #[.slice a L.length c, .int .u64 (u : Int)] w fun e w' => e = .returned (.bool true) ∧ Below w.heap.size w w' := by
  have HF := Lib.hid (few_any a c L hl hp w h)
  clear h hl hp
  go_enter Try.func6, Try.ntmps6
  go_wp2_with fail
  refine HF.out.mono ?_
  rintro e w1 ⟨a1, c1, rfl, hss, hb1⟩
  obtain ⟨M, eM⟩ : ∃ M, fewM L = M := ⟨_, rfl⟩
  have hM10 : M.length ≤ 10 := by rw [← eM, fewM_length]; omega
  have hM22 : ∀ m ∈ M, m.s.once.length ≤ 22 := by rw [← eM]; exact fewM_few L
  rw [eM] at hss hgood ⊢
  clear eM HF
  have HL := Lib.hid (left_any a1 c1 M u (by omega) w1 hss)
  have HSS := Lib.hid hss
  have HB1 := Lib.hid hb1
  have hcase := leftE_cases (shs M) u
  rw [hgood] at hcase
  obtain ⟨hr, i, hi, hpl, hN, hZ⟩ : rightSL (shs M) ∧ ∃ (i : Nat) (hi : i < (shs M).length), placeS (shs M) u = some i ∧ leftN (shs M) u = ((shs M)[i].once.length : Int) ∧ atZ (shs M) u = (i : Int) := by
    rcases hcase with ⟨-, h, -⟩ | ⟨-, -, h, -⟩ | ⟨hr, i, hi, h1, -, h3, h4⟩
    · cases h
    · cases h
    · exact ⟨hr, i, hi, h1, h3, h4⟩
  have hu := place_user hpl hi
  have hgd : (shs M).getD i sh0 = (shs M)[i] := by rw [List.getD_eq_getElem?_getD, List.getElem?_eq_getElem hi]; rfl
  obtain ⟨x, ex⟩ : ∃ x, (shs M)[i] = x := ⟨_, rfl⟩
  have hx20 : x.once.length ≤ 20 := by rw [← ex]; exact (hr.2.1 _ (List.getElem_mem hi)).2.2.1
  rw [ex] at hN hgd hu
  obtain ⟨n, en⟩ : ∃ n, x.once.length = n := ⟨_, rfl⟩
  rw [en] at hN hx20
  rw [hN, hgood] at HL
  have HM := Lib.hid (And.intro hM10 (And.intro hM22 (And.intro hr (And.intro hpl (And.intro hgd (And.intro hu (And.intro ex (And.intro en hZ))))))))
  have hnz : (n : Int) ≤ 20 := by omega
  clear hss hM10 hM22 hb1 hr hpl hgd hu en hZ hN hcase hgood
  go_wp2_with fail
  refine HL.out.mono ?_
  rintro e w2 ⟨rfl, hb2⟩
  have HB1' := Lib.hid (HB1.out.trans (hb2.mono HB1.out.size))
  have HS2 := Lib.hid (HSS.out.on hb2)
  clear hb2 HB1 HSS HL
  obtain ⟨LB, eB⟩ : ∃ LB, w2.heap.size = LB := ⟨_, rfl⟩
  obtain ⟨W3, eW3⟩ : ∃ W3, w2.alloc (.cells #[.int .u64 0, .string ⟨#[]⟩, .int .u64 0, .string ⟨#[]⟩, .slice none 0 0] 28) = W3 := ⟨_, rfl⟩
  have b3 : Below w2.heap.size w2 W3 := by rw [← eW3]; exact (Below.refl _ w2).alloc (Nat.le_refl _) _
  have kB : BlkV W3 LB 28 (shL ⟨sh0, none, 0⟩) := by rw [← eW3, ← eB]; exact BlkV.fresh w2 _ _ _ rfl _ rfl
  have H3 := Lib.hid (And.intro b3 kB)
  clear b3 kB
  go_upto_block 0 with fail
  clear eW3
  go_cut [4, 10, 11, 13, 14, 15] from 49 to 78 (fun _ now got _ _ _ wx => OnRel w2 (shs M) i n LB now got (.int .i64 ((n + 2 : Nat) : Int)) wx)
  case first =>
    go_wp2_with fail
    go_loopw [10, 11, 49] (OnRel w2 (shs M) i n LB) (fun _ _ v _ => n + 2 - (Lib.intOf v).toNat)
    case atStart => exact ⟨0, _, rfl, rfl, by omega, H3.out.1, a1, c1, M, ⟨sh0, none, 0⟩, rfl, HS2.out.on H3.out.1, (nowS_zero _ _ hi).symm, OwnE.nil _ _ _ _, H3.out.2, fun h => absurd h (by omega)⟩
    case round =>
      obtain ⟨k, wr, rfl, rfl, hk, hb, aK, cK, K, m, rfl, hK, hKs, hgot, hLB, hm⟩ := hrel
      by_cases hkn : k < n + 2
      · have hkz : (k : Int) < (n : Int) + 2 := by omega
        have hKl : K.length = M.length := by rw [← shs_length K, hKs, nowS_length, shs_length]
        have HG := Lib.hid (fetchV_any aK cK K u (by have := HM.out.1; omega) wr hK)
        rw [hKs] at HG
        have HK := Lib.hid (And.intro hb (And.intro hK (And.intro hKs (And.intro hgot (And.intro hLB hKl)))))
        have HKm := Lib.hid hm
        clear hb hK hKs hgot hLB hm hKl
        go_wp2_with fail
        refine HG.out.mono ?_
        rintro e w4 ⟨a2, c2, P, y, rfl, hb4, hP, hy, hyg, hok⟩
        have hE : leftE (nowS (shs M) i k) u = 0 := now_left HM.out.2.2.1 k hi (by rw [ex]; exact HM.out.2.2.2.2.2.1)
        obtain ⟨hrK, i', hi', hpl', hys, hset⟩ := hok hE
        rw [show placeS (nowS (shs M) i k) u = some i by have := nowS_place HM.out.2.2.1.2.2 i k hi; rw [ex, HM.out.2.2.2.2.2.1] at this; exact this] at hpl'
        obtain rfl : i = i' := Option.some.inj hpl'
        rw [nowS_at _ i k hi] at hys hset
        rw [now_next i k hi] at hset
        rw [ex] at hys
        have hrP : rightSL (shs P) := by rw [hset]; exact nowS_right HM.out.2.2.1 i (k + 1) hi
        have hPl : P.length = M.length := by rw [← shs_length P, hset, nowS_length, shs_length]
        rw [hE]
        obtain ⟨S, eS⟩ : ∃ S, w4.heap.size = S := ⟨_, rfl⟩
        obtain ⟨W5, eW5⟩ : ∃ W5, w4.alloc (.cells #[.int .u64 0, .string ⟨#[]⟩, .int .u64 0, .string ⟨#[]⟩, .slice none 0 0] 28) = W5 := ⟨_, rfl⟩
        have b5 : Below w4.heap.size w4 W5 := by rw [← eW5]; exact (Below.refl _ w4).alloc (Nat.le_refl _) _
        have kS : BlkV W5 S 28 [.int .u64 0, .string ⟨#[]⟩, .int .u64 0, .string ⟨#[]⟩, .slice none 0 0] := by rw [← eW5, ← eS]; exact BlkV.fresh w4 _ _ _ rfl _ rfl
        have x0 := kS.cell 0 _ rfl
        have x1 := kS.cell 1 _ rfl
        have x2 := kS.cell 2 _ rfl
        have x3 := kS.cell 3 _ rfl
        have x4 := kS.cell 4 _ rfl
        have f0 := kS.frozen 0
        have f1 := kS.frozen 1
        have f2 := kS.frozen 2
        have f3 := kS.frozen 3
        have f4 := kS.frozen 4
        have HX := Lib.hid (And.intro hb4 (And.intro hP.ss (And.intro (And.intro hP (And.intro hy hyg)) (And.intro hys (And.intro hset (And.intro hrP (And.intro hPl (And.intro b5 kS))))))))
        clear hb4 hP hy hyg hys hset hrP hPl b5 kS hok hrK hpl' hi' hE
        go_upto_region 12 with fail
        have HS5 := HX.out.2.2.2.2.2.2.2.2.put5 (.int .u64 (y.s.user : Int)) (.string y.s.ident) (.int .u64 (y.s.sgn.id : Int)) (.string y.s.sgn.pt) (.slice y.a y.s.once.length y.c)
        have hb5 := below_put5 HX.out.2.2.2.2.2.2.2.1 S (by rw [← eS]; exact Nat.le_refl _) (.int .u64 (y.s.user : Int)) (.string y.s.ident) (.int .u64 (y.s.sgn.id : Int)) (.string y.s.sgn.pt) (.slice y.a y.s.once.length y.c)
        clear x0 x1 x2 x3 x4 f0 f1 f2 f3 f4 eW5
        generalize World.setCell _ _ _ = W6 at HS5 hb5 ⊢
        have HR := Lib.hid (right_any a2 c2 P W6 (HX.out.2.1.on hb5) (by have := HM.out.1; have := HX.out.2.2.2.2.2.2.1; omega))
        rw [decide_eq_true HX.out.2.2.2.2.2.1] at HR
        have H6 := Lib.hid (And.intro HS5 hb5)
        clear HS5 hb5
        go_wp2_with fail
        refine HR.out.mono ?_
        rintro e w7 ⟨rfl, hb7⟩
        have HPl := HX.out.2.2.2.2.2.2.1
        have H7 := Lib.hid hb7
        rw [HPl]
        clear hb7 HPl
        go_upto_region 14 with fail
        have b47 : Below w4.heap.size w4 w7 := H6.out.2.trans (H7.out.mono H6.out.2.size)
        have br7 : Below wr.heap.size wr w7 := HX.out.1.trans (b47.mono HX.out.1.size)
        have kS7 := H6.out.1.on H7.out
        have kL7 := HK.out.2.2.2.2.1.on br7
        have ho7 := (HK.out.2.2.2.1.on br7).on (Below.refl _ w7).drew
        rw [HM.out.2.2.2.2.1] at ho7
        have hpy := HX.out.2.2.1.2.1.on (b47.trans ((Below.refl _ w7).drew.mono b47.size))
        have x0 := kS7.cell 0 _ rfl
        have x1 := kS7.cell 1 _ rfl
        have x2 := kS7.cell 2 _ rfl
        have x3 := kS7.cell 3 _ rfl
        have x4 := kS7.cell 4 _ rfl
        have hlen : (x.once.take k).length + y.s.once.length ≤ 100 := by
          rw [HX.out.2.2.2.1, List.length_take]
          show _ + ((x.once.drop k).take 1).length ≤ 100
          rw [List.length_take]
          have := HM.out.2.2.2.2.2.2.2.1
          omega
        have HO := Lib.hid ho7
        have HQ := Lib.hid hpy
        have HLE := Lib.hid hlen
        have hB7 : Below w2.heap.size w2 w7.drew := (HK.out.1.trans (br7.mono HK.out.1.size)).drew
        have H14 := Lib.hid (And.intro b47 (And.intro br7 (And.intro kS7.dr (And.intro kL7.dr hB7))))
        clear b47 br7 kS7 kL7 ho7 hpy hlen hB7
        go_region_law (first
          | (refine step_append_E ePn 26 25 _ 24 Try.underlying26 infoPn rfl rfl _ _ rfl w2.heap.size _ (x.once.take k) y.a y.s.once.length y.c y.s.once rfl rfl rfl HO.out HQ.out.at_ (fun e => (HQ.out.nil e).2) (by have := HLE.out; unfold maxLen; omega) (by have := HLE.out; omega) H14.out.2.2.2.2.size ?_
             intro v' V hov hgv
             have kS8 := H14.out.2.2.1.keptE HO.out hgv (by decide)
             have kL8 := H14.out.2.2.2.1.keptE HO.out hgv (by decide)
             have z0 := kS8.cell 0 _ rfl
             have z1 := kS8.cell 1 _ rfl
             have z2 := kS8.cell 2 _ rfl
             have z3 := kS8.cell 3 _ rfl
             have z4 := kS8.cell 4 _ rfl
             have l0 := kL8.cell 0 _ rfl
             have l1 := kL8.cell 1 _ rfl
             have l2 := kL8.cell 2 _ rfl
             have l3 := kL8.cell 3 _ rfl
             have l4 := kL8.cell 4 _ rfl
             have f0 := kL8.frozen 0
             have f1 := kL8.frozen 1
             have f2 := kL8.frozen 2
             have f3 := kL8.frozen 3
             have f4 := kL8.frozen 4
             have HV := Lib.hid (And.intro hov (And.intro hgv kL8))
             clear hov hgv kS8 kL8))
        all_goals
          clear x0 x1 x2 x3 x4 z0 z1 z2 z3 z4 l0 l1 l2 l3 l4 f0 f1 f2 f3 f4
          go_wp2_with fail
          have hLBr : LB < wr.heap.size := HK.out.2.2.2.2.1.lt
          have hBV : Below w2.heap.size w2 V := OwnE.below HO.out H14.out.2.2.2.2 H14.out.2.2.2.2.size HV.out.2.1
          have hBF := below_put5 hBV LB (by rw [← eB]; exact Nat.le_refl _) (.int .u64 (y.s.user : Int)) (.string y.s.ident) (.int .u64 (y.s.sgn.id : Int)) (.string y.s.sgn.pt) (.slice y.a y.s.once.length y.c)
          have kLF := HV.out.2.2.put5 (.int .u64 (y.s.user : Int)) (.string y.s.ident) (.int .u64 (y.s.sgn.id : Int)) (.string y.s.sgn.pt) (.slice y.a y.s.once.length y.c)
          have hfar := put5_far V LB (.int .u64 (y.s.user : Int)) (.string y.s.ident) (.int .u64 (y.s.sgn.id : Int)) (.string y.s.sgn.pt) (.slice y.a y.s.once.length y.c)
          have hsz := put5_size V LB (.int .u64 (y.s.user : Int)) (.string y.s.ident) (.int .u64 (y.s.sgn.id : Int)) (.string y.s.sgn.pt) (.slice y.a y.s.once.length y.c)
          have hoF := OwnE.farT HV.out.1 HV.out.2.2 (by decide) hfar
          generalize World.setCell _ _ _ = F at hBF kLF hfar hsz hoF ⊢
          have hVs : w7.heap.size ≤ V.heap.size := HV.out.2.1.size
          have hkF : ∀ j, wr.heap.size ≤ j → j < w4.heap.size → F.heap[j]? = w4.heap[j]? := fun j h1 h2 => by
            rw [hfar j (by omega)]
            have h3 : j < w7.heap.size := Nat.lt_of_lt_of_le h2 H14.out.1.size
            have h4 : V.heap[j]? = w7.heap[j]? := HV.out.2.1.block j h3 (fun e => by have := (World.ownsRow.lt HK.out.2.2.2.1 j e.symm).2; omega)
            rw [h4, H14.out.1.block j h2]
          have hsF : w4.heap.size ≤ F.heap.size := by rw [hsz]; exact Nat.le_trans H14.out.1.size hVs
          have hPF := HX.out.2.2.1.1.keep hsF hkF
          have hyF := PP_keep HX.out.2.2.1.2.1 HX.out.2.2.1.2.2 hsF hkF
          have hPl := HX.out.2.2.2.2.2.2.1
          refine ⟨⟨k + 1, _, rfl, by go_num, by omega, hBF, a2, c2, P, y, by rw [hPl], hPF.ss, HX.out.2.2.2.2.1, ?_, kLF, fun _ => ⟨?_, ⟨hyF.at_, hyF.cap, hyF.nil⟩⟩⟩, by simp [Lib.intOf]; omega⟩
          · rw [HM.out.2.2.2.2.1, take_next]
            have := HX.out.2.2.2.1
            have e2 : y.s.once = (x.once.drop k).take 1 := by rw [this]; rfl
            rw [← e2]
            exact hoF
          · rw [HM.out.2.2.2.2.1, Nat.add_sub_cancel]
            exact HX.out.2.2.2.1
      · have hkz : ¬ (k : Int) < (n : Int) + 2 := by omega
        obtain rfl : k = n + 2 := by omega
        go_wp2_with fail
        go_meet
        exact ⟨n + 2, _, rfl, rfl, hk, hb, aK, cK, K, m, rfl, hK, hKs, hgot, hLB, hm⟩
  case rest =>
    obtain ⟨k, wc, rfl, ek, hk, hb, aK, cK, K, m, rfl, hK, hKs, hgot, hLB, hm⟩ := hcut
    obtain rfl : k = n + 2 := by injection ek with _ h; omega
    obtain ⟨hms, hmp⟩ := hm (by omega)
    rw [HM.out.2.2.2.2.1] at hgot hms
    have hxn := HM.out.2.2.2.2.2.2.2.1
    rw [List.take_of_length_le (by omega)] at hgot
    obtain ⟨ga, gc, rfl, hg1, hg2, hg3, -⟩ := hgot.sl
    have hdr : m.s.once = [] := by
      rw [hms]
      show (x.once.drop (n + 2 - 1)).take 1 = []
      rw [List.drop_eq_nil_of_le (by omega)]
      rfl
    have kL : BlkV wc LB 28 [.int .u64 (x.user : Int), .string x.ident, .int .u64 (x.sgn.id : Int), .string x.sgn.pt, .slice m.a 0 m.c] := by
      have h1 : shL m = [.int .u64 (x.user : Int), .string x.ident, .int .u64 (x.sgn.id : Int), .string x.sgn.pt, .slice m.a 0 m.c] := by
        unfold shL
        rw [hdr, hms]
        rfl
      rw [← h1]
      exact hLB
    have hiM : i < M.length := by rw [← shs_length M]; exact hi
    have hKz : (K.length : Int) ≤ 10 := by have h1 := shs_length K; rw [hKs, nowS_length, shs_length] at h1; have := HM.out.1; omega
    have HA := Lib.hid (atR_any a1 c1 M u wc (HS2.out.on hb) (by have := HM.out.1; omega))
    have HR := Lib.hid (And.intro hb (And.intro hK (And.intro hKs (And.intro kL (And.intro (show PP wc ga gc x.once from ⟨hg2, hg1, hg3⟩) hiM)))))
    clear hb hK hKs hLB hm hms hmp hgot hg1 hg2 hg3 hdr kL ek hxn
    go_wp2_with fail
    refine HA.out.mono ?_
    rintro e w5 ⟨rfl, hb5⟩
    rw [HM.out.2.2.2.2.2.2.2.2]
    have bb : Below w2.heap.size w2 w5 := HR.out.1.trans (hb5.mono HR.out.1.size)
    have hS5 := HS2.out.on bb
    obtain ⟨b, off, rfl, hlt, hall⟩ := hS5.sl.get i HR.out.2.2.2.2.2
    have hpt := hS5.sl.pts _ (List.getElem_mem HR.out.2.2.2.2.2)
    have hMi : M[i].s = x := by rw [← HM.out.2.2.2.2.2.2.1]; exact (shs_get M i HR.out.2.2.2.2.2).symm
    obtain ⟨c0, c1', c2', c3, c4⟩ := hall i HR.out.2.2.2.2.2
    have hpp := hpt.pp
    rw [hMi] at c0 c1' c2' c3 c4 hpp
    obtain ⟨xa, exa⟩ : ∃ xa, M[i].a = xa := ⟨_, rfl⟩
    obtain ⟨xc, exc⟩ : ∃ xc, M[i].c = xc := ⟨_, rfl⟩
    rw [exa, exc] at c4 hpp
    have kL5 := HR.out.2.2.2.1.on hb5
    have q1 := cell_regrown c1'
    have q2 := cell_regrown c2'
    have q3 := cell_regrown c3
    have q4 := cell_regrown c4
    have p1 := cell_regrown (kL5.cell 1 _ rfl)
    have p2 := cell_regrown (kL5.cell 2 _ rfl)
    have p3 := cell_regrown (kL5.cell 3 _ rfl)
    have p4 := cell_regrown (kL5.cell 4 _ rfl)
    have hi0 : ((i : Int) < 0) = False := eq_false (by omega)
    have hiz : (i : Int) < (M.length : Int) := by have := HR.out.2.2.2.2.2; omega
    have HS := Lib.hid (fun (d : Nat) (os : Array Obj) => pointsSame_any ga xa gc xc x.once x.once (by have := HM.out.2.2.2.2.2.2.2.1; omega) (Sort.grow (redrawn w5 d) os) ((HR.out.2.2.2.2.1.on hb5).on (below_regrown w5 d os)) (hpp.on (below_regrown w5 d os)))
    rw [decide_eq_true (show x.once = x.once from rfl)] at HS
    have HAl := Lib.hid (fun (d : Nat) (os : Array Obj) => alive_any (Sort.grow (redrawn w5 d) os))
    have hrun := run_ne_pn x.sgn x.sgn
    rw [decide_eq_true (show x.sgn = x.sgn from rfl)] at hrun
    have H5 := Lib.hid (And.intro hb5 bb)
    clear hb5 bb hS5 hall hpt hMi c0 c1' c2' c3 c4 hpp exa exc kL5
    go_upto_region 17 with fail
    refine wp_region_quiet_below (by kernel_rfl) (by kernel_rfl) ?_
    iterate 42 (go_big_quiet_step (first
      | (go_at_call 33; with_reducible exact Calls.regrown_of (HS.out _ _))
      | (go_at_call 20; with_reducible exact Calls.regrown_of (HAl.out _ _))))
    refine wpQuiet_nil ?_
    intro _ hw'
    obtain ⟨⟨dq, osq⟩, hw''⟩ := hw'
    subst hw''
    have HB6 := Lib.hid (And.intro (below_regrown w5 dq osq) (H5.out.2.trans ((below_regrown w5 dq osq).mono H5.out.2.size)))
    generalize Sort.grow (redrawn w5 dq) osq = W6 at HB6 ⊢
    rename_i K' hK'
    refine hK' _ _ ?_
    clear hK' K'
    go_wp2_with fail
    go_loopw [126] (fun v wr => ∃ (j : Nat) (W : World), W = wr ∧ v = .int .i64 (j : Int) ∧ j ≤ K.length ∧ Below W6.heap.size W6 wr) (fun v _ => K.length - (Lib.intOf v).toNat)
    case atStart => exact ⟨0, _, rfl, rfl, Nat.zero_le _, Below.refl _ _⟩
    case round =>
      obtain ⟨j, wr, rfl, rfl, hj, hbr⟩ := hrel
      by_cases hjn : j < K.length
      · have hjz : (j : Int) < (K.length : Int) := by omega
        have hKM : K.length = M.length := by rw [← shs_length K, HR.out.2.2.1, nowS_length, shs_length]
        have hjM : j < M.length := by omega
        have b5r : Below w5.heap.size w5 wr := HB6.out.1.trans (hbr.mono HB6.out.1.size)
        have hKr := HR.out.2.1.on (H5.out.1.trans (b5r.mono H5.out.1.size))
        have hMr := HS2.out.on (H5.out.2.trans (b5r.mono H5.out.2.size))
        obtain ⟨g, goff, rfl, hglt, hgall⟩ := hKr.sl.get j hjn
        obtain ⟨b', off', eb, hlt', hall'⟩ := hMr.sl.get j hjM
        cases eb
        have hpK := hKr.sl.pts _ (List.getElem_mem hjn)
        have hpM := hMr.sl.pts _ (List.getElem_mem hjM)
        obtain ⟨c0, c1', c2', c3, c4⟩ := hgall j hjn
        obtain ⟨d0, d1, d2, d3, d4⟩ := hall' j hjM
        have hKj : (nowS (shs M) i (n + 2))[j]'(by rw [nowS_length, shs_length]; exact hjM) = K[j].s := by
          have h1 := shs_get K j hjn
          rw [← h1]
          congr 1
          exact HR.out.2.2.1.symm
        have hfl : K[j].s.once.length ≤ 1000 := by
          have := ((nowS_right HM.out.2.2.1 i (n + 2) hi).2.1 _ (List.getElem_mem (by rw [nowS_length, shs_length]; exact hjM : j < (nowS (shs M) i (n + 2)).length))).2.2.1
          rw [hKj] at this
          omega
        have hsame : j ≠ i → K[j].s = M[j].s := fun hne => by
          rw [← hKj, nowS_other (shs M) i (n + 2) j (by rw [shs_length]; exact hjM) hne]
          exact shs_get M j hjM
        obtain ⟨y, ey⟩ : ∃ y, K[j] = y := ⟨_, rfl⟩
        obtain ⟨z, ez⟩ : ∃ z, M[j] = z := ⟨_, rfl⟩
        rw [ey] at c0 c1' c2' c3 c4 hpK hfl hsame
        rw [ez] at d0 d1 d2 d3 d4 hpM hsame
        obtain ⟨W7, eW7⟩ : ∃ W7, wr.alloc (.cells #[.int .u64 (y.s.user : Int), .string y.s.ident, .int .u64 (y.s.sgn.id : Int), .string y.s.sgn.pt, .slice y.a y.s.once.length y.c] 28) = W7 := ⟨_, rfl⟩
        have b7 : Below wr.heap.size wr W7 := by rw [← eW7]; exact (Below.refl _ wr).alloc (Nat.le_refl _) _
        obtain ⟨S, eS⟩ : ∃ S, wr.heap.size = S := ⟨_, rfl⟩
        have kS : BlkV W7 S 28 (shL y) := by rw [← eW7, ← eS]; exact BlkV.fresh wr _ _ _ rfl _ rfl
        have q0 := cell_regrown (kS.cell 0 _ rfl)
        have q1 := cell_regrown (kS.cell 1 _ rfl)
        have q2 := cell_regrown (kS.cell 2 _ rfl)
        have q3 := cell_regrown (kS.cell 3 _ rfl)
        have q4 := cell_regrown (kS.cell 4 _ rfl)
        have p0 := cell_regrown ((b7.cell (p := ⟨b, off + j * 5, none⟩) hlt').trans d0)
        have p1 := cell_regrown ((b7.cell (p := ⟨b, off + j * 5 + 1, none⟩) hlt').trans d1)
        have p2 := cell_regrown ((b7.cell (p := ⟨b, off + j * 5 + 2, none⟩) hlt').trans d2)
        have p3 := cell_regrown ((b7.cell (p := ⟨b, off + j * 5 + 3, none⟩) hlt').trans d3)
        have p4 := cell_regrown ((b7.cell (p := ⟨b, off + j * 5 + 4, none⟩) hlt').trans d4)
        have HO := Lib.hid (fun (d : Nat) (os : Array Obj) => one_any y z hfl (Sort.grow (redrawn W7 d) os) ((hpK.on b7).on (below_regrown W7 d os)) ((hpM.on b7).on (below_regrown W7 d os)))
        have hjMz : (j : Int) < (M.length : Int) := by omega
        have HJ := Lib.hid (And.intro hbr b7)
        have HSm := Lib.hid hsame
        clear hKM b5r hKr hMr hgall hall' hpK hpM hKj hfl hsame kS ey ez hbr b7 d0 d1 d2 d3 d4
        by_cases hji : j = i
        · have hne : ((j : Int) != (i : Int)) = false := by rw [hji]; simp
          clear hji
          go_upto_region 22 with fail
          clear c0 c1' c2' c3 c4 eW7
          refine wp_region_quiet_below (by kernel_rfl) (by kernel_rfl) ?_
          iterate 12 (go_big_quiet_step (first | (go_at_call 26; with_reducible exact Calls.regrown_of (HO.out _ _))))
          refine wpQuiet_nil ?_
          intro _ hw'
          obtain ⟨⟨dq, osq⟩, hw''⟩ := hw'
          subst hw''
          have HB2 := Lib.hid (below_regrown W7 dq osq)
          generalize Sort.grow (redrawn W7 dq) osq = W1 at HB2 ⊢
          rename_i K hK
          refine hK _ _ ?_
          clear hK K
          go_wp2_with fail
          exact ⟨⟨j + 1, _, rfl, by go_num, by omega, HJ.out.1.trans ((HJ.out.2.trans (HB2.out.mono HJ.out.2.size)).mono HJ.out.1.size)⟩, by simp [Lib.intOf]; omega⟩
        · have hne : ((j : Int) != (i : Int)) = true := by simp; omega
          rw [decide_eq_true (HSm.out hji)] at HO
          clear hji
          go_upto_region 22 with fail
          clear c0 c1' c2' c3 c4 eW7
          refine wp_region_quiet_below (by kernel_rfl) (by kernel_rfl) ?_
          iterate 12 (go_big_quiet_step (first | (go_at_call 26; with_reducible exact Calls.regrown_of (HO.out _ _))))
          refine wpQuiet_nil ?_
          intro _ hw'
          obtain ⟨⟨dq, osq⟩, hw''⟩ := hw'
          subst hw''
          have HB2 := Lib.hid (below_regrown W7 dq osq)
          generalize Sort.grow (redrawn W7 dq) osq = W1 at HB2 ⊢
          rename_i K hK
          refine hK _ _ ?_
          clear hK K
          go_wp2_with fail
          exact ⟨⟨j + 1, _, rfl, by go_num, by omega, HJ.out.1.trans ((HJ.out.2.trans (HB2.out.mono HJ.out.2.size)).mono HJ.out.1.size)⟩, by simp [Lib.intOf]; omega⟩
      · have hjz : ¬ (j : Int) < (K.length : Int) := by omega
        go_wp2_with fail
        go_ret
        exact ⟨rfl, (HB1'.out.trans (HB6.out.2.mono HB1'.out.size)).trans (hbr.mono (Nat.le_trans HB1'.out.size HB6.out.2.size))⟩
theorem onceLaw_any (a : Option Addr) (c : Nat) (L : List ShM) (hl : L.length ≤ maxLen) (hp : ∀ m ∈ L, m.s.once.length ≤ maxLen) (u : Nat) (w : World) (h : SS w a c L) :
    Calls Try.prog 6 #[.slice a L.length c, .int .u64 (u : Int)] w fun e w' => e = .returned (.bool true) ∧ Below w.heap.size w w' := by
  by_cases hE : leftE (shs (fewM L)) u = 0
  · exact onceGood_any a c L hl hp u hE w h
  · exact onceRefused_any a c L hl hp u hE w h
end Go.Proofs.Ytmmaimopombepaa
