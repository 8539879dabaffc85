/- Law 16: few, alive. -/
import Derived.Test.YtmmaimopombepaaCs
import Derived.Test.YtmmaimopombepaaCl
namespace Go.Proofs.Ytmmaimopombepaa
open Go.RowKit
set_option maxRecDepth 100000

/-- a box with its first 18 mails -/
def fewBx (m : BxM) : BxM := ⟨⟨m.s.user, m.s.ml.take 18⟩, m.a, m.c⟩
def fewBs (L : List BxM) : List BxM := (L.take 10).map fewBx
theorem fewBs_length (L : List BxM) : (fewBs L).length = min 10 L.length := by unfold fewBs; rw [List.length_map, List.length_take]
theorem fewBs_few (L : List BxM) : FewB (fewBs L) := ⟨by rw [fewBs_length]; omega, fun m hm => by
  obtain ⟨x, -, rfl⟩ := List.mem_map.1 hm
  show (x.s.ml.take 18).length ≤ 1000
  rw [List.length_take]; omega⟩
theorem fewBs_18 (L : List BxM) : ∀ m ∈ fewBs L, m.s.ml.length ≤ 18 := fun m hm => by
  obtain ⟨x, -, rfl⟩ := List.mem_map.1 hm
  show (x.s.ml.take 18).length ≤ 18
  rw [List.length_take]; omega
theorem one_fewB (w : World) (x : BxM) (k : Nat) (hk : (x.s.ml.take 18).length = k) (n : Nat) (hn : n = w.heap.size) : Sl eBx (w.alloc (.cells #[.int .u64 (x.s.user : Int), .slice x.a k x.c] 101)) (some ⟨n, 0, none⟩) [fewBx x] := by
  subst hk
  exact one_bx w (fewBx x) n hn
/-- a row up to a place -/
theorem slice_toB (a : Option Addr) (k n c : Nat) (hk : k ≤ c) (hn : n ≤ c) (hz : a = none → c = 0) (W : World) :
    (Instr.slice 54 (.slice a n c) none (some (.int .i64 (k : Int))) none).run Try.prog W = .ok (.slice a k c) W := by
  cases a with
  | none =>
    obtain rfl := hz rfl
    obtain rfl : k = 0 := by omega
    obtain rfl : n = 0 := by omega
    rfl
  | some ad =>
    have h1 : (k : Int) ≤ (c : Int) := by omega
    simp [Instr.slice, go_sem, h1]
theorem slice_toM (a : Option Addr) (k n c : Nat) (hk : k ≤ c) (hn : n ≤ c) (hz : a = none → c = 0) (W : World) :
    (Instr.slice 65 (.slice a n c) none (some (.int .i64 (k : Int))) none).run Try.prog W = .ok (.slice a k c) W := by
  cases a with
  | none =>
    obtain rfl := hz rfl
    obtain rfl : k = 0 := by omega
    obtain rfl : n = 0 := by omega
    rfl
  | some ad =>
    have h1 : (k : Int) ≤ (c : Int) := by omega
    simp [Instr.slice, go_sem, h1]
theorem OwnE.farR2 {T : Type} {E : Enc T} {t s : TypeId} {w w' : World} {base B : Nat} {v : Value} {l : List T} {vs : List Value} (h : OwnE E t w base v l) (hB : BlkV w B s vs) (hst : s ≠ t) (hk : ∀ k, k ≠ B → w'.heap[k]? = w.heap[k]?) : OwnE E t w' base v l := OwnE.far2 h hB hst hB hst fun k h1 _ => hk k h1
def FbRel (w : World) (L : List BxM) (n : Nat) (v i : Value) (wr : World) : Prop :=
  ∃ (k : Nat) (W : World), W = wr ∧ i = .int .i64 (k : Int) ∧ k ≤ n ∧ Below w.heap.size w wr ∧ OwnE eBx 101 wr w.heap.size v ((L.take k).map fewBx)
theorem results_cR {P : Program} {fn : Func} {p : Tmp} {T : TypeId} (h : fn.results = #[.cell p T]) (tmps : Array Value) (w : World) (B : Nat) {t : TypeId} {l : List Value} {d : TypeDesc}
    (hp : tmps.getD p undef = .pointer (some ⟨B, 0, none⟩)) (hb : BlkV w B t l) (hu : P.underlying T = some d) (hd : d.isRow = true) (hi : (P.info? T).map (·.size) = some l.length) :
    (results fn tmps).run P w = .ok (.agg l.toArray) w := results_v h tmps w B hp hb hu hd hi
set_option maxHeartbeats 8000000 in
theorem fewR_any (a : Option Addr) (c : Nat) (L : List BxM) (now next : Nat) (hl : L.length ≤ maxLen) (hp : ∀ m ∈ L, m.s.ml.length ≤ maxLen) (w : World) (h : SB w a c L) :
    Calls Try.prog 34 #[.agg #[.slice a L.length c, .int .u64 (now : Int), .int .u64 (next : Int)]] w fun e w' => ∃ (a' : Option Addr) (c' : Nat), e = .returned (.agg #[.slice a' (fewBs L).length c', .int .u64 (now : Int), .int .u64 (next : Int)]) ∧ SB w' a' c' (fewBs L) ∧ OwnE eBx 101 w' w.heap.size (.slice a' (fewBs L).length c') (fewBs L) ∧ Below w.heap.size w w' := by
  obtain ⟨n, en⟩ : ∃ n, min 10 L.length = n := ⟨_, rfl⟩
  obtain ⟨len, elen⟩ : ∃ len, L.length = len := ⟨_, rfl⟩
  have hn : min (len : Int) 10 = (n : Int) := by omega
  have hcap : len ≤ c := by rw [← elen]; exact h.cap
  have hnc : (n : Int) ≤ (c : Int) := by omega
  have hn10 : (n : Int) ≤ 10 := by omega
  have hnl : n ≤ len := by omega
  have HN := Lib.hid (And.intro en (And.intro hp h.nil))
  unfold maxLen at hl
  have hlz : (len : Int) ≤ 9223372036854775807 := by omega
  obtain ⟨W0, eW0⟩ : ∃ W0, (w.alloc (.cells #[.slice a len c, .int .u64 (now : Int), .int .u64 (next : Int)] 56)).alloc (.cells #[.slice none 0 0, .int .u64 0, .int .u64 0] 56) = W0 := ⟨_, rfl⟩
  have b0 : Below w.heap.size w W0 := by rw [← eW0]; exact ((Below.refl _ w).alloc (Nat.le_refl _) _).alloc (by simp) _
  obtain ⟨R, eR⟩ : ∃ R, w.heap.size = R := ⟨_, rfl⟩
  have kR : BlkV W0 R 56 [.slice a len c, .int .u64 (now : Int), .int .u64 (next : Int)] := by rw [← eW0, ← eR]; exact (BlkV.fresh w _ _ _ rfl _ rfl).alloc _
  have kZ : BlkV W0 (R + 1) 56 [.slice none 0 0, .int .u64 0, .int .u64 0] := by rw [← eW0, ← eR]; exact BlkV.fresh _ _ _ _ rfl _ (by simp)
  have d0 := kR.cell 0 _ rfl
  have HK := Lib.hid (And.intro (show Below R w W0 by rw [← eR]; exact b0) (And.intro kR (And.intro kZ (h.on b0))))
  have HRW := Lib.hid (show R ≤ W0.heap.size by rw [← eR]; exact b0.size)
  have HW := Lib.hid h
  have HSl := Lib.hid (fun W => slice_toB a n len c (by omega) (by omega) (fun e => (h.nil e).1) W)
  rw [elen]
  clear b0 kR kZ h hp en
  go_enter Try.func34, Try.ntmps34
  go_upto_region 2 with fail
  clear eW0
  have hsl := HSl.out
  go_wp2_with fail
  go_loopw [3, 14] (FbRel W0 L n) (fun _ i _ => n - (Lib.intOf i).toNat)
  case atStart => exact ⟨0, _, rfl, rfl, Nat.zero_le _, Below.refl _ _, OwnE.nil _ _ _ _⟩
  case round =>
    clear d0 hsl
    obtain ⟨k, wr, rfl, rfl, h1, h2, h3⟩ := hrel
    by_cases hk : k < n
    · have hkz : (k : Int) < (n : Int) := by omega
      have hkl : k < L.length := by omega
      have hSr := HK.out.2.2.2.on h2
      obtain ⟨b, off, eb, hlt, hall⟩ := hSr.get k hkl
      obtain ⟨c0, c1⟩ := hall k hkl
      have hpm := hSr.mls _ (List.getElem_mem hkl)
      have hpl := HN.out.2.1 _ (List.getElem_mem hkl)
      have htk : (L.take (k + 1)).map fewBx = (L.take k).map fewBx ++ [fewBx L[k]] := by rw [List.take_succ_eq_append_getElem hkl, List.map_append]; rfl
      obtain ⟨x, ex⟩ : ∃ x, L[k] = x := ⟨_, rfl⟩
      rw [ex] at c0 c1 hpm hpl htk
      have hlen : ((L.take k).map fewBx).length ≤ 10 := by rw [List.length_map, List.length_take]; omega
      obtain ⟨xl, exl⟩ : ∃ xl, x.s.ml.length = xl := ⟨_, rfl⟩
      obtain ⟨n18, e18⟩ : ∃ n18, (x.s.ml.take 18).length = n18 := ⟨_, rfl⟩
      have e18b := e18
      rw [List.length_take, exl] at e18b
      have hxc : xl ≤ x.c := by rw [← exl]; exact hpm.cap
      have hmin : min (xl : Int) 18 = (n18 : Int) := by omega
      have hxlz : (xl : Int) ≤ 9223372036854775807 := by rw [exl] at hpl; unfold maxLen at hpl; omega
      have HSl2 := Lib.hid (fun W => slice_toM x.a n18 xl x.c (by omega) hxc (fun e => (hpm.nil e).1) W)
      rw [exl] at c1
      obtain ⟨W1, eW1⟩ : ∃ W1, wr.alloc (.cells #[.int .u64 (x.s.user : Int), .slice x.a xl x.c] 101) = W1 := ⟨_, rfl⟩
      have b1 : Below wr.heap.size wr W1 := by rw [← eW1]; exact (Below.refl _ wr).alloc (Nat.le_refl _) _
      obtain ⟨S, eS⟩ : ∃ S, wr.heap.size = S := ⟨_, rfl⟩
      have kS : BlkV W1 S 101 [.int .u64 (x.s.user : Int), .slice x.a xl x.c] := by rw [← eW1, ← eS]; exact BlkV.fresh wr _ _ _ rfl _ rfl
      have q1 := kS.cell 1 _ rfl
      have g1 := kS.frozen 1
      have kS2 := kS.set 1 (.slice x.a n18 x.c)
      have b2 : Below W0.heap.size W0 (W1.setCell ⟨S, 1, none⟩ (.slice x.a n18 x.c)) := (h2.trans (b1.mono h2.size)).setCell (show W0.heap.size ≤ (⟨S, 1, none⟩ : Addr).block by show W0.heap.size ≤ S; rw [← eS]; exact h2.size) _
      have o2 := h3.on (b1.setCell (show wr.heap.size ≤ (⟨S, 1, none⟩ : Addr).block by show wr.heap.size ≤ S; omega) (.slice x.a n18 x.c))
      have HX := Lib.hid (And.intro kS2 (And.intro b2 (And.intro o2 (And.intro htk (And.intro hlen e18)))))
      rw [eb]
      clear h2 h3 hall hSr hpm hpl htk hlen ex b1 kS kS2 b2 o2 e18 e18b hxc exl
      go_upto_region 5 with fail
      clear eW1 c0 c1
      have hsl2 := HSl2.out
      go_upto_region 6 with fail
      clear q1 g1 hsl2
      generalize World.setCell W1 ⟨S, 1, none⟩ (.slice x.a n18 x.c) = W2 at HX ⊢
      have kS2 := HX.out.1
      have r0 := kS2.cell 0 _ rfl
      have r1 := kS2.cell 1 _ rfl
      have HQ := Lib.hid (one_fewB W2 x n18 HX.out.2.2.2.2.2 W2.heap.size rfl)
      have hb9 := HX.out.2.1.size
      clear kS2
      go_wp2_with (at_builtin; refine append_E eBx 54 101 _ 32 Try.underlying54 infoBx rfl rfl _ _ rfl W0.heap.size _ _ _ _ _ [fewBx x] rfl rfl rfl (HX.out.2.2.1.alloc _) HQ.out (fun e => by cases e) (by have := HX.out.2.2.2.2.1; unfold maxLen; simp only [List.length_singleton]; omega) (by have := HX.out.2.2.2.2.1; simp only [List.length_singleton]; omega) (by simp; omega) ?_; intro v' w3 ho3 hg3; have HO3 := Lib.hid ho3; have HG3 := Lib.hid hg3; clear ho3 hg3)
      refine ⟨⟨k + 1, _, rfl, by go_num, by omega, ?_, by rw [HX.out.2.2.2.1]; exact HO3.out⟩, by simp [Lib.intOf]; omega⟩
      exact OwnE.below (HX.out.2.2.1.alloc _) (HX.out.2.1.alloc HX.out.2.1.size _) (by simp; omega) HG3.out
    · have hkz : ¬ (k : Int) < (n : Int) := by omega
      have hkn : k = n := by omega
      have e : (L.take k).map fewBx = fewBs L := by
        unfold fewBs
        congr 1
        rw [hkn, ← HN.out.1]
        exact List.take_eq_take_iff.2 (by omega)
      rw [e] at h3
      obtain ⟨av, cv, rfl, g1, g2, g3, g4⟩ := h3.sl
      have hS := HK.out.2.2.2.on h2
      have hsb : SB wr av cv (fewBs L) := ⟨g2, fun m hm => by
        obtain ⟨x, hx, rfl⟩ := List.mem_map.1 hm
        exact (hS.mls x (List.mem_of_mem_take hx)).take 18, g1, g3⟩
      have kR2 := HK.out.2.1.on h2
      have kZ2 := HK.out.2.2.1.on h2
      have x0 := kR2.cell 0 _ rfl
      have x1 := kR2.cell 1 _ rfl
      have x2 := kR2.cell 2 _ rfl
      have f0 := kR2.frozen 0
      have HX := Lib.hid (And.intro kR2 (And.intro kZ2 (And.intro h3 (And.intro h2 (fun m (hm : m ∈ fewBs L) => show PM wr m.a m.c m.s.ml from hsb.mls m hm)))))
      have HXw := Lib.hid (show ∀ V, Below R w V → ∀ m ∈ fewBs L, PM V m.a m.c m.s.ml from fun V hV m hm => by
        obtain ⟨x, hx, rfl⟩ := List.mem_map.1 hm
        exact ((HW.out.mls x (List.mem_of_mem_take hx)).on (by rw [eR]; exact hV)).take 18)
      obtain ⟨fl, efl⟩ : ∃ fl, (fewBs L).length = fl := ⟨_, rfl⟩
      rw [efl]
      clear h2 h3 e g1 g2 g3 g4 hS hsb kR2 kZ2
      go_upto_region 9 with fail
      have k3 := HX.out.1.set 0 (.slice av fl cv)
      have z3 := HX.out.2.1.far ⟨R, 0, none⟩ (by show R + 1 ≠ R; omega) (.slice av fl cv)
      have b3 := (HK.out.1.trans (HX.out.2.2.2.1.mono HRW.out)).setCell (show R ≤ (⟨R, 0, none⟩ : Addr).block from Nat.le_refl _) (.slice av fl cv)
      have o3 := OwnE.farR2 HX.out.2.2.1 HX.out.1 (by decide) (fun k hk => heap_setCell_other wr ⟨R, 0, none⟩ k (.slice av fl cv) hk)
      generalize wr.setCell ⟨R, 0, none⟩ _ = w5 at k3 z3 b3 o3 ⊢
      have y0 := k3.cell 0 _ rfl
      have y1 := k3.cell 1 _ rfl
      have y2 := k3.cell 2 _ rfl
      have z0 := z3.cell 0 _ rfl
      have z1 := z3.cell 1 _ rfl
      have z2 := z3.cell 2 _ rfl
      have g0 := z3.frozen 0
      have g1 := z3.frozen 1
      have g2 := z3.frozen 2
      have HY := Lib.hid (And.intro z3 (And.intro b3 o3))
      clear x0 x1 x2 f0 k3 z3 b3 o3
      go_wp2_with fail
      have HF := HY.out.1.put3 (.slice av fl cv) (.int .u64 (now : Int)) (.int .u64 (next : Int))
      have hbF := below_put3 HY.out.2.1 (R + 1) (by omega) (.slice av fl cv) (.int .u64 (now : Int)) (.int .u64 (next : Int))
      have hfar := put3_far w5 (R + 1) (.slice av fl cv) (.int .u64 (now : Int)) (.int .u64 (next : Int))
      have o9 := OwnE.farR2 HY.out.2.2 HY.out.1 (by decide) hfar
      generalize World.setCell _ _ _ = W9 at HF hbF hfar o9 ⊢
      refine bodyPost_ret (results_cR (p := 2) (T := 56) (by kernel_rfl) _ _ (R + 1) rfl HF Try.underlying56 rfl (by kernel_rfl)) rfl ?_
      have o9m : OwnE eBx 101 W9 R (.slice av (fewBs L).length cv) (fewBs L) := World.ownsRow.mono (by first | exact o9 | (rw [efl]; exact o9)) HRW.out
      obtain ⟨a9, c9, e9, j1, j2, j3, -⟩ := o9.sl
      injection e9 with e91 e92 e93
      subst e91
      subst e93
      exact ⟨av, cv, rfl, ⟨j2, HXw.out W9 hbF, j1, j3⟩, by first | exact o9m | (rw [eR]; exact o9m) | (rw [← efl]; exact o9m) | (rw [eR, ← efl]; exact o9m), by first | exact hbF | (rw [eR]; exact hbF)⟩
/-- a mail pushed -/
def hiB : ByteArray := ⟨#[104, 105]⟩
theorem alive_push : pushQ ⟨[], 0, 0⟩ 3 hiB = ⟨[⟨3, [⟨0, hiB, 0⟩]⟩], 0, 1⟩ ∧ pushE ⟨[], 0, 0⟩ 3 hiB = 0 := by decide
theorem alive_pull : pullK ⟨[⟨3, [⟨0, hiB, 0⟩]⟩], 0, 1⟩ 3 = [⟨0, hiB, 0⟩] ∧ pullE ⟨[⟨3, [⟨0, hiB, 0⟩]⟩], 0, 1⟩ 3 = 0 := by decide
set_option maxHeartbeats 4000000 in
theorem aliveR_any (w : World) : Calls Try.prog 40 #[] w fun e w' => e = .returned (.bool true) ∧ Below w.heap.size w w' := by
  have HP := Lib.hid (push_any none 0 [] 0 0 (by omega) ⟨by simp, fun m hm => by cases hm⟩ 3 hiB w (SB.empty w))
  go_enter Try.func40, Try.ntmps40
  go_wp2_with fail
  refine HP.out.mono ?_
  rintro e w1 ⟨a1, c1, K, rfl, hS, hK, hb1⟩
  have hq := alive_push
  have hb0 : bxs ([] : List BxM) = [] := rfl
  rw [hb0, hq.1] at hK ⊢
  rw [hq.2]
  obtain ⟨y, rfl, hy⟩ := bxs_one hK
  obtain ⟨⟨yu, yl⟩, ya, yc⟩ := y
  cases hy
  have HS := Lib.hid hS
  obtain ⟨W2, eW2⟩ : ∃ W2, w1.alloc (.cells #[.slice a1 1 c1, .int .u64 0, .int .u64 1] 56) = W2 := ⟨_, rfl⟩
  have b2 : Below w1.heap.size w1 W2 := by rw [← eW2]; exact (Below.refl _ w1).alloc (Nat.le_refl _) _
  obtain ⟨S, eS⟩ : ∃ S, w1.heap.size = S := ⟨_, rfl⟩
  have kS : BlkV W2 S 56 [.slice a1 1 c1, .int .u64 0, .int .u64 1] := by rw [← eW2, ← eS]; exact BlkV.fresh w1 _ _ _ rfl _ rfl
  have x0 := kS.cell 0 _ rfl
  have x1 := kS.cell 1 _ rfl
  have x2 := kS.cell 2 _ rfl
  have hpl := pull_any a1 c1 [⟨⟨3, [⟨0, hiB, 0⟩]⟩, ya, yc⟩] 0 1 (by omega) ⟨by simp, fun m hm => by rw [List.mem_singleton.1 hm]; simp⟩ 3 W2 (hS.on b2)
  have hq2 := alive_pull
  rw [show bxs [(⟨⟨3, [⟨0, hiB, 0⟩]⟩, ya, yc⟩ : BxM)] = [⟨3, [⟨0, hiB, 0⟩]⟩] from rfl, hq2.1, hq2.2] at hpl
  have HPl := Lib.hid hpl
  have HB := Lib.hid (hb1.trans (b2.mono hb1.size))
  clear hS hK hq hq2 hpl b2 kS hb1 HP
  go_upto_region 2 with fail
  clear eW2
  go_wp2_with fail
  refine HPl.out.mono ?_
  rintro e w3 ⟨a3, c3, rfl, hp3, hb3⟩
  obtain ⟨b, off, rfl, hlt, hall⟩ := hp3.get 0 (by simp)
  obtain ⟨m0, m1, m2⟩ := hall 0 (by simp)
  have hbw := HB.out.trans (hb3.mono HB.out.size)
  have HZ := Lib.hid hbw
  simp only [List.getElem_cons_zero, Nat.zero_mul, Nat.add_zero] at m0 m1 m2
  have hhi : (⟨#[104, 105]⟩ : ByteArray) = hiB := rfl
  have hst : (hiB.toList == hiB.toList) = true := by simp
  clear hbw hb3 hp3 hall
  go_wp2_with fail
  go_ret
  exact ⟨rfl, HZ.out⟩
end Go.Proofs.Ytmmaimopombepaa
