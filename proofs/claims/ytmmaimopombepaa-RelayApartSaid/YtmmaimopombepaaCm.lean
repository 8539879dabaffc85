/- The reference 16's mail, box. -/
import Derived.Test.YtmmaimopombepaaCg
namespace Go.Proofs.Ytmmaimopombepaa
open Go.RowKit
set_option maxRecDepth 100000

set_option maxHeartbeats 2000000 in
theorem mailR_any (a : Option Addr) (n c : Nat) (now next : Nat) (hn : now < 18446744073709551616) (m : Ml) (w : World) :
    Calls Try.prog 100 #[.agg #[.slice a n c, .int .u64 (now : Int), .int .u64 (next : Int)], .agg #[.int .u64 (m.id : Int), .string m.b, .int .u64 (m.born : Int)]] w fun e w' => e = .returned (.bool (decide (okMl now next m))) ∧ Below w.heap.size w w' := by
  have hB : Below w.heap.size w ((w.alloc (.cells #[.slice a n c, .int .u64 (now : Int), .int .u64 (next : Int)] 56)).alloc (.cells #[.int .u64 (m.id : Int), .string m.b, .int .u64 (m.born : Int)] 82)) := ((Below.refl _ w).alloc (Nat.le_refl _) _).alloc (by simp) _
  have HB := Lib.hid hB
  clear hB
  by_cases c1 : m.b.size ≤ 1400
  · have d1 : (m.b.size : Int) ≤ 1400 := by omega
    by_cases c2 : m.id < next
    · have d2 : (m.id : Int) < (next : Int) := by omega
      by_cases c3 : m.born ≤ now
      · have d3 : (m.born : Int) ≤ (now : Int) := by omega
        obtain ⟨z, ez⟩ : ∃ z, IntKind.u64.wrap ((now : Int) - (m.born : Int)) = z := ⟨_, rfl⟩
        have hz : decide (z ≤ 50) = decide (okMl now next m) := by
          have h1 := young_of c3 hn
          unfold youngB at h1
          rw [ez] at h1
          rw [h1]
          by_cases c4 : now - m.born ≤ 50
          · rw [decide_eq_true c4, decide_eq_true (show okMl now next m from ⟨c1, c2, c3, c4⟩)]
          · rw [decide_eq_false c4, decide_eq_false (show ¬ okMl now next m from fun h => c4 h.2.2.2)]
        rw [← hz]
        clear hz c1 c2 c3 hn
        go_enter Try.func100, Try.ntmps100
        go_wp2_with fail
        go_ret
        first
          | exact ⟨rfl, HB.out⟩
          | (rw [ez]; exact ⟨rfl, HB.out⟩)
      · have d3 : ¬ (m.born : Int) ≤ (now : Int) := by omega
        rw [decide_eq_false (show ¬ okMl now next m from fun h => c3 h.2.2.1)]
        clear c1 c2 c3 hn
        go_enter Try.func100, Try.ntmps100
        go_wp2_with fail
        go_ret
        exact ⟨rfl, HB.out⟩
    · have d2 : ¬ (m.id : Int) < (next : Int) := by omega
      rw [decide_eq_false (show ¬ okMl now next m from fun h => c2 h.2.1)]
      clear c1 c2 hn
      go_enter Try.func100, Try.ntmps100
      go_wp2_with fail
      go_ret
      exact ⟨rfl, HB.out⟩
  · have d1 : ¬ (m.b.size : Int) ≤ 1400 := by omega
    rw [decide_eq_false (show ¬ okMl now next m from fun h => c1 h.1)]
    clear c1 hn
    go_enter Try.func100, Try.ntmps100
    go_wp2_with fail
    go_ret
    exact ⟨rfl, HB.out⟩
/-- behind so many mails ahead -/
def InRel (Ws : World) (l : List Ml) (k : Nat) (m : Ml) (i : Value) (wr : World) : Prop := ∃ (j : Nat) (W : World), W = wr ∧ i = .int .i64 (j : Int) ∧ j ≤ k ∧ Below Ws.heap.size Ws wr ∧ ∀ t, (ht : t < l.length) → t < j → l[t].id < m.id ∧ l[t].b ≠ m.b
set_option maxHeartbeats 8000000 in
theorem boxR_any (a : Option Addr) (n c : Nat) (now next : Nat) (hn : now < 18446744073709551616) (x : BxM) (hx : x.s.ml.length ≤ 1000) (w : World) (h : PM w x.a x.c x.s.ml) :
    Calls Try.prog 75 #[.agg #[.slice a n c, .int .u64 (now : Int), .int .u64 (next : Int)], .agg #[.int .u64 (x.s.user : Int), .slice x.a x.s.ml.length x.c]] w fun e w' => e = .returned (.bool (decide (okBx now next x.s))) ∧ Below w.heap.size w w' := by
  obtain ⟨⟨u, l⟩, xa, xc⟩ := x
  obtain ⟨len, elen⟩ : ∃ len, l.length = len := ⟨_, rfl⟩
  simp only [elen] at hx ⊢
  obtain ⟨W0, eW0⟩ : ∃ W0, (w.alloc (.cells #[.slice a n c, .int .u64 (now : Int), .int .u64 (next : Int)] 56)).alloc (.cells #[.int .u64 (u : Int), .slice xa len xc] 101) = W0 := ⟨_, rfl⟩
  have b0 : Below w.heap.size w W0 := by rw [← eW0]; exact ((Below.refl _ w).alloc (Nat.le_refl _) _).alloc (by simp) _
  obtain ⟨R, eR⟩ : ∃ R, w.heap.size = R := ⟨_, rfl⟩
  have kR : BlkV W0 R 56 [.slice a n c, .int .u64 (now : Int), .int .u64 (next : Int)] := by rw [← eW0, ← eR]; exact (BlkV.fresh w _ _ _ rfl _ rfl).alloc _
  have kB : BlkV W0 (R + 1) 101 [.int .u64 (u : Int), .slice xa len xc] := by rw [← eW0, ← eR]; exact BlkV.fresh _ _ _ _ rfl _ (by simp)
  have d1 := kB.cell 1 _ rfl
  have HK := Lib.hid (And.intro (show Below R w W0 by rw [← eR]; exact b0) (And.intro kR (And.intro kB (h.on b0))))
  have hcap : len ≤ xc := by rw [← elen]; exact h.cap
  have HRW := Lib.hid (show R ≤ W0.heap.size by rw [← eR]; exact b0.size)
  have hlz : (len : Int) ≤ 1000 := by omega
  clear b0 kR kB h
  go_enter Try.func75, Try.ntmps75
  go_upto_region 1 with fail
  clear eW0
  go_wp2_with fail
  go_loopw [12] (BmRel W0 now next l) (fun i _ => len - (Lib.intOf i).toNat)
  case atStart => exact ⟨0, _, rfl, rfl, Nat.zero_le _, Below.refl _ _, okMs_nil _ _⟩
  case round =>
    clear d1
    obtain ⟨k, wr, rfl, rfl, h1, h2, h3⟩ := hrel
    by_cases hkn : k < len
    · have hk : k < l.length := by omega
      have hkz : (k : Int) < (len : Int) := by omega
      have hkc : (k : Int) ≤ (xc : Int) := by omega
      have hPr := HK.out.2.2.2.on h2
      obtain ⟨b, off, hba, hlt, hall⟩ := hPr.get k hk
      subst hba
      obtain ⟨c0, c1, c2⟩ := hall k hk
      have hstep := okMs_step now next l k hk
      have hbad := okMs_bad (now := now) (next := next) hk
      obtain ⟨m, em⟩ : ∃ m, l[k] = m := ⟨_, rfl⟩
      rw [em] at c0 c1 c2 hstep
      obtain ⟨W1, eW1⟩ : ∃ W1, wr.alloc (.cells #[.int .u64 (m.id : Int), .string m.b, .int .u64 (m.born : Int)] 82) = W1 := ⟨_, rfl⟩
      have b1 : Below wr.heap.size wr W1 := by rw [← eW1]; exact (Below.refl _ wr).alloc (Nat.le_refl _) _
      obtain ⟨S, eS⟩ : ∃ S, wr.heap.size = S := ⟨_, rfl⟩
      have kM : BlkV W1 S 82 [.int .u64 (m.id : Int), .string m.b, .int .u64 (m.born : Int)] := by rw [← eW1, ← eS]; exact BlkV.fresh wr _ _ _ rfl _ rfl
      have b01 := h2.trans (b1.mono h2.size)
      have kR1 := HK.out.2.1.on b01
      have q0 := kM.cell 0 _ rfl
      have q1 := kM.cell 1 _ rfl
      have q2 := kM.cell 2 _ rfl
      have r0 := kR1.cell 0 _ rfl
      have r1 := kR1.cell 1 _ rfl
      have r2 := kR1.cell 2 _ rfl
      have hM0 := mailR_any a n c now next hn m W1
      obtain ⟨rm, erm⟩ : ∃ rm, decide (okMl now next m) = rm := ⟨_, rfl⟩
      rw [erm] at hM0
      have HM := Lib.hid hM0
      have HB := Lib.hid (And.intro b01 (And.intro h3 (And.intro hbad (And.intro hstep (And.intro erm kM)))))
      clear h2 h3 hstep hbad b1 kM b01 kR1 hall hPr erm em hM0
      go_upto_region 4 with fail
      clear eW1 c0 c1 c2
      cases rm
      · go_wp2_with (go_at_call 100; refine HM.out.mono ?_; rintro e w2 ⟨rfl, hb2⟩)
        go_ret
        have : ¬ okBx now next ⟨u, l⟩ := fun hh => HB.out.2.2.1 (fun hok => of_decide_eq_false HB.out.2.2.2.2.1 (HB.out.2.2.2.1.1 hok).2.1) hh.2.2
        have hbb := HK.out.1.trans ((HB.out.1.trans (hb2.mono HB.out.1.size)).mono HRW.out)
        exact ⟨by rw [decide_eq_false this]; rfl, by first | exact hbb | (rw [eR]; exact hbb)⟩
      · go_upto_region 6 with (go_at_call 100; refine HM.out.mono ?_; rintro e w2 ⟨rfl, hb2⟩)
        have b02 := HB.out.1.trans (hb2.mono HB.out.1.size)
        have kB2 := HK.out.2.2.1.on b02
        have d1 := kB2.cell 1 _ rfl
        have hm2 := HB.out.2.2.2.2.2.on hb2
        have H2 := Lib.hid (And.intro b02 (And.intro hm2 (HK.out.2.2.2.on b02)))
        clear q0 q1 q2 r0 r1 r2 b02 kB2 hm2 hb2
        go_wp2_with fail
        go_loopw [26] (InRel w2 l k m) (fun i _ => k - (Lib.intOf i).toNat)
        case atStart => exact ⟨0, _, rfl, rfl, Nat.zero_le _, Below.refl _ _, fun t _ ht => absurd ht (Nat.not_lt_zero t)⟩
        case round =>
          clear d1
          obtain ⟨j, ws, rfl, rfl, g1, g2, g3⟩ := hrel
          by_cases hj : j < k
          · have hjz : (j : Int) < (k : Int) := by omega
            have hjl : j < l.length := by omega
            obtain ⟨b', off', eb, hlt', hall'⟩ := (H2.out.2.2.on g2).get j hjl
            cases eb
            obtain ⟨n0, n1, n2⟩ := hall' j hjl
            obtain ⟨y, ey⟩ : ∃ y, l[j] = y := ⟨_, rfl⟩
            rw [ey] at n0 n1 n2
            obtain ⟨W3, eW3⟩ : ∃ W3, ws.alloc (.cells #[.int .u64 (y.id : Int), .string y.b, .int .u64 (y.born : Int)] 82) = W3 := ⟨_, rfl⟩
            have b3 : Below ws.heap.size ws W3 := by rw [← eW3]; exact (Below.refl _ ws).alloc (Nat.le_refl _) _
            obtain ⟨S3, eS3⟩ : ∃ S3, ws.heap.size = S3 := ⟨_, rfl⟩
            have kY : BlkV W3 S3 82 [.int .u64 (y.id : Int), .string y.b, .int .u64 (y.born : Int)] := by rw [← eW3, ← eS3]; exact BlkV.fresh ws _ _ _ rfl _ rfl
            have b23 := g2.trans (b3.mono g2.size)
            have kM3 := H2.out.2.1.on b23
            have y0 := kY.cell 0 _ rfl
            have y1 := kY.cell 1 _ rfl
            have m0 := kM3.cell 0 _ rfl
            have m1 := kM3.cell 1 _ rfl
            have hrun := fun W => str_runC (P := Try.prog) y.b m.b 9 W
            have hG := Lib.hid (And.intro b23 (And.intro g3 ey))
            have hw2k : (l.take (k + 1)).length = k + 1 := by rw [List.length_take]; omega
            have hno : ¬ (y.id < m.id ∧ y.b ≠ m.b) → ¬ okBx now next ⟨u, l⟩ := fun hc hh => HB.out.2.2.1 (fun hok => hc (by rw [← ey]; exact (HB.out.2.2.2.1.1 hok).2.2 j hj)) hh.2.2
            have HNO := Lib.hid hno
            clear g2 g3 b3 kY b23 kM3 hall' hno hw2k
            go_upto_region 9 with fail
            clear eW3 n0 n1 n2
            by_cases e1 : y.id < m.id
            · have hq : ¬ (y.id : Int) ≥ (m.id : Int) := by omega
              have hq2 : decide (m.id ≤ y.id) = false := decide_eq_false (by omega)
              have hsq := str_eqC y.b m.b
              by_cases e2 : y.b = m.b
              · rw [decide_eq_true e2] at hsq
                have HD := Lib.hid (decide_eq_false (HNO.out (fun h => h.2 e2)))
                clear e1 e2 hrun
                go_wp2_with fail
                go_ret
                have hbb := HK.out.1.trans ((H2.out.1.trans (hG.out.1.mono H2.out.1.size)).mono HRW.out)
                exact ⟨by rw [HD.out]; rfl, by first | exact hbb | (rw [eR]; exact hbb)⟩
              · rw [decide_eq_false e2] at hsq
                have HD := Lib.hid (And.intro e1 e2)
                clear e1 e2 hrun
                go_wp2_with fail
                refine ⟨⟨j + 1, _, rfl, by go_num, by omega, hG.out.1, fun t ht htj => ?_⟩, by simp [Lib.intOf]; omega⟩
                by_cases htj2 : t < j
                · exact hG.out.2.1 t ht htj2
                · obtain rfl : t = j := by omega
                  rw [hG.out.2.2]
                  exact HD.out
            · have hq : (y.id : Int) ≥ (m.id : Int) := by omega
              have hq2 : decide (m.id ≤ y.id) = true := decide_eq_true (by omega)
              have HD := Lib.hid (decide_eq_false (HNO.out (fun h => e1 h.1)))
              clear e1 hrun
              go_wp2_with fail
              go_ret
              have hbb := HK.out.1.trans ((H2.out.1.trans (hG.out.1.mono H2.out.1.size)).mono HRW.out)
              exact ⟨by rw [HD.out]; rfl, by first | exact hbb | (rw [eR]; exact hbb)⟩
          · have hjz : ¬ (j : Int) < (k : Int) := by omega
            obtain rfl : j = k := by omega
            have HG := Lib.hid (And.intro g2 g3)
            clear g2 g3
            go_wp2_with fail
            refine ⟨⟨j + 1, _, rfl, by go_num, by omega, H2.out.1.trans (HG.out.1.mono H2.out.1.size), ?_⟩, by simp [Lib.intOf]; omega⟩
            exact HB.out.2.2.2.1.2 ⟨HB.out.2.1, of_decide_eq_true HB.out.2.2.2.2.1, fun t ht => HG.out.2 t (by omega) ht⟩
    · have hkz : ¬ (k : Int) < (len : Int) := by omega
      obtain rfl : k = l.length := by omega
      rw [List.take_length] at h3
      have kB2 := HK.out.2.2.1.on h2
      have d1 := kB2.cell 1 _ rfl
      have HB := Lib.hid (And.intro h2 h3)
      clear h2 h3 kB2
      have hbb := HK.out.1.trans (HB.out.1.mono HRW.out)
      by_cases hl1 : 1 ≤ len
      · have z1 : (len : Int) ≥ 1 := by omega
        by_cases hl2 : len ≤ 16
        · have z2 : (len : Int) ≤ 16 := by omega
          have hd := Lib.hid (decide_eq_true (show okBx now next ⟨u, l⟩ from ⟨by rw [elen]; exact hl1, by rw [elen]; exact hl2, HB.out.2⟩))
          clear hl1 hl2
          go_wp2_with fail
          go_ret
          exact ⟨by rw [hd.out]; rfl, by first | exact hbb | (rw [eR]; exact hbb)⟩
        · have z2 : ¬ (len : Int) ≤ 16 := by omega
          have hd := Lib.hid (decide_eq_false (show ¬ okBx now next ⟨u, l⟩ from fun h => hl2 (by rw [← elen]; exact h.2.1)))
          clear hl1 hl2
          go_wp2_with fail
          go_ret
          exact ⟨by rw [hd.out]; rfl, by first | exact hbb | (rw [eR]; exact hbb)⟩
      · have z1 : ¬ (len : Int) ≥ 1 := by omega
        have hd := Lib.hid (decide_eq_false (show ¬ okBx now next ⟨u, l⟩ from fun h => hl1 (by rw [← elen]; exact h.1)))
        clear hl1
        go_wp2_with fail
        go_ret
        exact ⟨by rw [hd.out]; rfl, by first | exact hbb | (rw [eR]; exact hbb)⟩
end Go.Proofs.Ytmmaimopombepaa
