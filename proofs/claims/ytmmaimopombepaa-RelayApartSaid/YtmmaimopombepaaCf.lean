/- relay: filtered. -/
import Derived.Test.YtmmaimopombepaaCe
namespace Go.Proofs.Ytmmaimopombepaa
open Go.RowKit
set_option maxRecDepth 100000

/-- a box's own mails -/
def MlOwn (w : World) (n : Nat) (m : BxM) : Prop := OwnE eMl 82 w n (.slice m.a m.s.ml.length m.c) m.s.ml
theorem OwnE.pm {w : World} {n : Nat} {a : Option Addr} {k c : Nat} {l : List Ml} (h : OwnE eMl 82 w n (.slice a k c) l) : PM w a c l ∧ k = l.length := by
  obtain ⟨a', c', e, h1, h2, h3, -⟩ := OwnE.sl h
  injection e with e1 e2 e3
  subst e1
  subst e3
  exact ⟨⟨h2, h1, h3⟩, e2⟩
theorem MlOwn.pm {w : World} {n : Nat} {m : BxM} (h : MlOwn w n m) : PM w m.a m.c m.s.ml := (OwnE.pm h).1
theorem MlOwn.on {w w' : World} {n : Nat} {m : BxM} (h : MlOwn w n m) (hb : Below w.heap.size w w') : MlOwn w' n m := OwnE.on h hb
theorem MlOwn.mono {w : World} {n n' : Nat} {m : BxM} (h : MlOwn w n m) (hn : n' ≤ n) : MlOwn w n' m := World.ownsRow.mono h hn
/-- a row of boxes that grows leaves it -/
theorem MlOwn.kept {w w' : World} {n base : Nat} {m : BxM} {v : Value} {L : List BxM} (h : MlOwn w n m) (hv : OwnE eBx 101 w base v L) (hg : w.grownBy w' v.ownBlock) : MlOwn w' n m := by
  refine World.ownsRow.kept h hg ?_
  rcases h.2 with ⟨e, -⟩ | ⟨g, cap, cur, e, hn, hc, -⟩
  · rw [e]
    exact Or.inl rfl
  · right
    rw [e]
    intro e2
    rcases hv.2 with ⟨rfl, -⟩ | ⟨g2, cap2, cur2, rfl, hn2, hc2, -⟩
    · cases e2
    · have e3 : g = g2 := by injection e2
      subst e3
      rw [hc] at hc2
      injection hc2 with hc2
      injection hc2 with _ h4
      exact absurd h4 (by decide)
/-- boxes of the call's own: their rows of mails too -/
structure OwnSB (w : World) (base : Nat) (v : Value) (L : List BxM) : Prop where
  row : OwnE eBx 101 w base v L
  mls : ∀ m ∈ L, MlOwn w base m
theorem OwnSB.on {w w' : World} {base : Nat} {v : Value} {L : List BxM} (h : OwnSB w base v L) (hb : Below w.heap.size w w') : OwnSB w' base v L := ⟨h.row.on hb, fun m hm => (h.mls m hm).on hb⟩
theorem OwnSB.mono {w : World} {n n' : Nat} {v : Value} {L : List BxM} (h : OwnSB w n v L) (hn : n' ≤ n) : OwnSB w n' v L := ⟨World.ownsRow.mono h.row hn, fun m hm => (h.mls m hm).mono hn⟩
theorem OwnSB.sb {w : World} {base : Nat} {v : Value} {L : List BxM} (h : OwnSB w base v L) : ∃ a c, v = .slice a L.length c ∧ SB w a c L ∧ (∀ b off sp, a = some ⟨b, off, sp⟩ → base ≤ b) := by
  obtain ⟨a, c, e, h1, h2, h3, h4⟩ := OwnE.sl h.row
  exact ⟨a, c, e, ⟨h2, fun m hm => (h.mls m hm).pm, h1, h3⟩, h4⟩
def FoRel (_w w1 : World) (L : List BxM) (C : List Flt) (v i : Value) (wr : World) : Prop :=
  ∃ (k : Nat) (K : List BxM) (W : World), W = wr ∧ i = .int .i64 (k : Int) ∧ k ≤ L.length ∧ Below w1.heap.size w1 wr ∧ OwnSB wr w1.heap.size v K ∧ bxs K = filtB (allP C) ((bxs L).take k) ∧ K.length ≤ k
def FiRel (w : World) (l : List Ml) (p : Ml → Bool) (v i : Value) (wr : World) : Prop :=
  ∃ (k : Nat) (W : World), W = wr ∧ i = .int .i64 (k : Int) ∧ k ≤ l.length ∧ Below w.heap.size w wr ∧ OwnE eMl 82 wr w.heap.size v ((l.take k).filter p)
theorem filter_le (p : Ml → Bool) (l : List Ml) (k : Nat) : ((l.take k).filter p).length ≤ l.length := by
  have h1 := List.length_filter_le p (l.take k)
  rw [List.length_take] at h1
  omega
set_option maxHeartbeats 8000000 in
theorem filtered_any (a : Option Addr) (c : Nat) (L : List BxM) (hf : FewB L) (ac : Option Addr) (cc : Nat) (C : List Flt) (w : World) (h : SB w a c L) (hc : FS w ac cc C) :
    Calls Try.prog 71 #[.slice a L.length c, .slice ac C.length cc] w fun e w' => ∃ v K, e = .returned v ∧ OwnSB w' w.heap.size v K ∧ bxs K = filtB (allP C) (bxs L) ∧ Below w.heap.size w w' := by
  have HA := Lib.hid (all_any ac cc C w hc)
  have H := Lib.hid (And.intro h hf)
  have hsl := bxs_length L
  have q : (L.length : Int) ≤ 1000 := by have := hf.1; omega
  clear h hf hc
  go_enter Try.func71, Try.ntmps71
  go_wp2_with fail
  refine HA.out.mono ?_
  rintro e w1 ⟨B, rfl, hF, hb1⟩
  have HF := Lib.hid (And.intro hF hb1)
  clear hF hb1 HA
  go_wp2_with fail
  go_loopw [6, 16] (FoRel w w1 L C) (fun _ i _ => L.length - (Lib.intOf i).toNat)
  case atStart => exact ⟨0, [], _, rfl, rfl, Nat.zero_le _, Below.refl _ _, ⟨OwnE.nil _ _ _ _, fun m hm => by cases hm⟩, rfl, Nat.zero_le _⟩
  case round =>
    obtain ⟨k, K, wr, rfl, rfl, h1, h2, h3, h4, h5⟩ := hrel
    have hbw := HF.out.2.trans (h2.mono HF.out.2.size)
    by_cases hk : k < L.length
    · have hkz : (k : Int) < (L.length : Int) := by omega
      obtain ⟨b, off, rfl, hlt, hall⟩ := (H.out.1.on hbw).get k hk
      obtain ⟨c0, c1⟩ := hall k hk
      have hks : k < (bxs L).length := by omega
      have hst := filtB_step (allP C) (bxs L) k hks
      rw [bxs_get L k hk] at hst
      have hpm := (H.out.1.on hbw).mls _ (List.getElem_mem hk)
      have hfl := H.out.2.2 _ (List.getElem_mem hk)
      obtain ⟨x, ex⟩ : ∃ x, L[k] = x := ⟨_, rfl⟩
      rw [ex] at c0 c1 hst hpm hfl
      obtain ⟨W0, eW0⟩ : ∃ W0, wr.alloc (.cells #[.int .u64 (x.s.user : Int), .slice x.a x.s.ml.length x.c] 101) = W0 := ⟨_, rfl⟩
      have b0 : Below wr.heap.size wr W0 := by rw [← eW0]; exact (Below.refl _ wr).alloc (Nat.le_refl _) _
      obtain ⟨S, eS⟩ : ∃ S, wr.heap.size = S := ⟨_, rfl⟩
      have kS : BlkV W0 S 101 [.int .u64 (x.s.user : Int), .slice x.a x.s.ml.length x.c] := by rw [← eW0, ← eS]; exact BlkV.fresh wr _ _ _ rfl _ rfl
      have d0 := kS.cell 0 _ rfl
      have d1 := kS.cell 1 _ rfl
      have hml : (x.s.ml.length : Int) ≤ 1000 := by omega
      have HX := Lib.hid (And.intro (h2.trans (b0.mono h2.size)) (And.intro (h3.on b0) (And.intro h4 (And.intro hst (And.intro kS (And.intro (hpm.on b0) h5))))))
      clear h2 h3 h4 h5 hst b0 kS hpm hall ex hfl hbw
      go_upto_region 6 with fail
      clear eW0 c0 c1
      go_wp2_with fail
      go_loopw [9, 23] (FiRel W0 x.s.ml (allP C x.s.user)) (fun _ i _ => x.s.ml.length - (Lib.intOf i).toNat)
      case atStart => exact ⟨0, _, rfl, rfl, Nat.zero_le _, Below.refl _ _, OwnE.nil _ _ _ _⟩
      case round =>
        clear d0 d1
        obtain ⟨j, ws, rfl, rfl, g1, g2, g3⟩ := hrel
        by_cases hj : j < x.s.ml.length
        · have hjz : (j : Int) < (x.s.ml.length : Int) := by omega
          obtain ⟨bb, boff, hba, hblt, hball⟩ := (HX.out.2.2.2.2.2.1.on g2).get j hj
          obtain ⟨m0, m1, m2⟩ := hball j hj
          have hfs := filter_step (allP C x.s.user) x.s.ml j hj
          have hle := filter_le (allP C x.s.user) x.s.ml j
          obtain ⟨m, em⟩ : ∃ m, x.s.ml[j] = m := ⟨_, rfl⟩
          rw [em] at m0 m1 m2 hfs
          obtain ⟨W1, eW1⟩ : ∃ W1, ws.alloc (.cells #[.int .u64 (m.id : Int), .string m.b, .int .u64 (m.born : Int)] 82) = W1 := ⟨_, rfl⟩
          have b1 : Below ws.heap.size ws W1 := by rw [← eW1]; exact (Below.refl _ ws).alloc (Nat.le_refl _) _
          obtain ⟨S2, eS2⟩ : ∃ S2, ws.heap.size = S2 := ⟨_, rfl⟩
          have kM : BlkV W1 S2 82 [.int .u64 (m.id : Int), .string m.b, .int .u64 (m.born : Int)] := by rw [← eW1, ← eS2]; exact BlkV.fresh ws _ _ _ rfl _ rfl
          have n0 := kM.cell 0 _ rfl
          have n1 := kM.cell 1 _ rfl
          have n2 := kM.cell 2 _ rfl
          have b01 := g2.trans (b1.mono g2.size)
          have d0 := (HX.out.2.2.2.2.1.on b01).cell 0 _ rfl
          have hbW1 : Below w1.heap.size w1 W1 := HX.out.1.trans (b01.mono HX.out.1.size)
          have HC := Lib.hid (HF.out.1.2 W1 hbW1 x.s.user m)
          have HY := Lib.hid (And.intro b01 (And.intro (g3.on b1) (And.intro hfs (And.intro kM hle))))
          obtain ⟨r, er⟩ : ∃ r, allP C x.s.user m = r := ⟨_, rfl⟩
          rw [show (Flt.mk 116 B (allP C)).p x.s.user m = r from er] at HC
          have HR := Lib.hid er
          rw [hba]
          clear g2 g3 hfs b1 kM b01 hbW1 hball em hle er
          go_upto_region 10 with fail
          clear eW1 m0 m1 m2
          cases r
          · go_wp2_with (go_at_call 116; refine HC.out.mono ?_; rintro e w2 ⟨rfl, hb2⟩)
            refine ⟨⟨j + 1, _, rfl, by go_num, by omega, HY.out.1.trans (hb2.mono HY.out.1.size), ?_⟩, by simp [Lib.intOf]; omega⟩
            rw [HY.out.2.2.1, if_neg (by rw [HR.out]; decide), List.append_nil]
            exact HY.out.2.1.on hb2
          · go_upto_region 11 with (go_at_call 116; refine HC.out.mono ?_; rintro e w2 ⟨rfl, hb2⟩)
            have k2 := HY.out.2.2.2.1.on hb2
            have o0 := k2.cell 0 _ rfl
            have o1 := k2.cell 1 _ rfl
            have o2 := k2.cell 2 _ rfl
            have b02 := HY.out.1.trans (hb2.mono HY.out.1.size)
            have HO := Lib.hid (And.intro b02 (HY.out.2.1.on hb2))
            have HQ := Lib.hid (one_ml w2 m w2.heap.size rfl)
            clear n0 n1 n2 d0 k2 b02 hb2
            go_wp2_with (at_builtin; refine append_E eMl 65 82 _ 32 Try.underlying65 infoMl rfl rfl _ _ rfl W0.heap.size _ _ _ _ _ [m] rfl rfl rfl (HO.out.2.alloc _) HQ.out (fun e => by cases e) (by have := HY.out.2.2.2.2; unfold maxLen; simp only [List.length_singleton]; omega) (by have := HY.out.2.2.2.2; simp only [List.length_singleton]; omega) (by have := HO.out.1.size; simp; omega) ?_; intro v' w3 ho3 hg3; have HO3 := Lib.hid ho3; have HG3 := Lib.hid (OwnE.below (HO.out.2.alloc _) (HO.out.1.alloc HO.out.1.size _) (by have := HO.out.1.size; simp; omega) hg3); clear ho3 hg3)
            refine ⟨⟨j + 1, _, rfl, by go_num, by omega, HG3.out, ?_⟩, by simp [Lib.intOf]; omega⟩
            rw [HY.out.2.2.1, if_pos HR.out]
            exact HO3.out
        · have hjz : ¬ (j : Int) < (x.s.ml.length : Int) := by omega
          obtain rfl : j = x.s.ml.length := by omega
          rw [List.take_length] at g3
          obtain ⟨F, eF⟩ : ∃ F, x.s.ml.filter (allP C x.s.user) = F := ⟨_, rfl⟩
          rw [eF] at g3
          have hFl : F.length ≤ x.s.ml.length := by rw [← eF]; exact List.length_filter_le _ _
          obtain ⟨fa, fc, rfl, f1, f2, f3, -⟩ := g3.sl
          have kSs := HX.out.2.2.2.2.1.on g2
          have d0 := kSs.cell 0 _ rfl
          have hFz : (F.length : Int) ≤ 1000 := by omega
          have HY := Lib.hid (And.intro g2 (And.intro g3 (And.intro eF hFl)))
          clear g2 g3 eF f1 f2 f3 kSs
          by_cases hF0 : F = []
          · subst hF0
            have HE := Lib.hid (show filtB (allP C) ((bxs L).take (k + 1)) = filtB (allP C) ((bxs L).take k) by rw [HX.out.2.2.2.1]; unfold keepB; rw [HY.out.2.2.1, if_pos rfl, List.append_nil])
            go_wp2_with fail
            exact ⟨⟨k + 1, K, _, rfl, by go_num, by omega, HX.out.1.trans (HY.out.1.mono HX.out.1.size), HX.out.2.1.on HY.out.1, by rw [HE.out]; exact HX.out.2.2.1, by have := HX.out.2.2.2.2.2.2; omega⟩, by simp [Lib.intOf]; omega⟩
          · have hFp : (0 : Int) < (F.length : Int) := by have := List.length_pos_iff.2 hF0; omega
            have hFp2 : decide ((F.length : Int) > 0) = true := decide_eq_true (by omega)
            have HE := Lib.hid (show filtB (allP C) ((bxs L).take (k + 1)) = filtB (allP C) ((bxs L).take k) ++ [⟨x.s.user, F⟩] by rw [HX.out.2.2.2.1]; unfold keepB; rw [HY.out.2.2.1, if_neg hF0])
            have HKL := Lib.hid (show K.length ≤ 1000 by have := HX.out.2.2.2.2.2.2; omega)
            have HQ := Lib.hid (one_bx ws ⟨⟨x.s.user, F⟩, fa, fc⟩ ws.heap.size rfl)
            clear hF0
            have hOw := HX.out.2.1.on HY.out.1
            have hbs := HX.out.1.trans (HY.out.1.mono HX.out.1.size)
            have hsz : w1.heap.size ≤ ws.heap.size := hbs.size
            have HO := Lib.hid (And.intro hOw (And.intro hbs hsz))
            clear hOw hbs hsz
            go_wp2_with (at_builtin; refine append_E eBx 54 101 _ 32 Try.underlying54 infoBx rfl rfl _ _ rfl w1.heap.size _ _ _ _ _ [⟨⟨x.s.user, F⟩, fa, fc⟩] rfl rfl rfl (HO.out.1.row.alloc _) HQ.out (fun e => by cases e) (by have := HKL.out; unfold maxLen; simp only [List.length_singleton]; omega) (by have := HKL.out; simp only [List.length_singleton]; omega) (by have := HO.out.2.2; simp; omega) ?_; intro v' w3 ho3 hg3; have HO3 := Lib.hid ho3; have HG3 := Lib.hid hg3; clear ho3 hg3)
            refine ⟨⟨k + 1, K ++ [⟨⟨x.s.user, F⟩, fa, fc⟩], _, rfl, by go_num, by omega, ?_, ⟨HO3.out, ?_⟩, ?_, by rw [List.length_append]; have := HX.out.2.2.2.2.2.2; simp; omega⟩, by simp [Lib.intOf]; omega⟩
            · exact OwnE.belowN (HO.out.1.row.alloc _) (HO.out.2.1.alloc HO.out.2.1.size _) (Nat.le_refl _) (by have := HO.out.2.1.size; simp; omega) HG3.out
            · intro m hm
              have hal : ∀ m, MlOwn ws w1.heap.size m → MlOwn w3 w1.heap.size m := fun m hm => (hm.on ((Below.refl _ ws).alloc (Nat.le_refl _) _)).kept (HO.out.1.row.alloc _) HG3.out
              rcases List.mem_append.1 hm with hm | hm
              · exact hal m (HO.out.1.mls m hm)
              · rw [List.mem_singleton.1 hm]
                refine hal _ (MlOwn.mono (n := W0.heap.size) HY.out.2.1 ?_)
                exact HX.out.1.size
            · rw [bxs_append, HX.out.2.2.1, HE.out]
              rfl
    · have hkz : ¬ (k : Int) < (L.length : Int) := by omega
      have hkn : k = (bxs L).length := by omega
      rw [hkn, List.take_length] at h4
      have HX := Lib.hid (And.intro hbw (And.intro h3 h4))
      clear h2 h3 h4 hbw
      go_wp2_with fail
      go_ret
      exact ⟨_, rfl, K, HX.out.2.1.mono HF.out.2.size, HX.out.2.2, HX.out.1⟩
end Go.Proofs.Ytmmaimopombepaa
