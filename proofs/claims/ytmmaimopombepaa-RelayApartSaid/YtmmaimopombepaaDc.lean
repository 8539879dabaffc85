/- Law 16: RelayPushes. -/
import Derived.Test.YtmmaimopombepaaCv
import Derived.Test.YtmmaimopombepaaCz
import Derived.Test.YtmmaimopombepaaDb
import Derived.Test.YtmmaimopombepaaCh
import Derived.BigQuiet
import Derived.Lib.QuietBelow
namespace Go.Proofs.Ytmmaimopombepaa
open Go.RowKit Go.Sort
set_option maxRecDepth 100000

section
variable {P : Program} {ops : Array Oper} {Q : Exit → Act → World → Prop}
theorem wpOp_onR {i : Nat} {o : Oper} {K : Act → World → Prop} {a : Act} {w : World} (hi : ops[i]? = some o) (hw : Region.wanted o (yielded ops a.tmps) = true) (h : o.wp P a w K Q) : wpOp P ops Q i K a w := by
  unfold wpOp
  simp only [hi, hw, if_true]
  exact .inl h
theorem load_anyR {i : Nat} {o : Oper} {K : Act → World → Prop} {a : Act} {w : World} (hi : ops[i]? = some o) (hw : Region.wanted o (yielded ops a.tmps) = true) (T : TypeId) (x : Operand) (ho : o.op = .load T x)
    (B : Nat) (hx : a.eval x = .pointer (some ⟨B, 0, none⟩)) {t : TypeId} {l : List Value} (hb : BlkV w B t l) {d : TypeDesc} (hu : P.underlying T = some d) (hd : d.isRow = true) (hs : (P.info? T).map (·.size) = some l.length)
    (h : K (a.put o.dst (.agg l.toArray)) w) : wpOp P ops Q i K a w :=
  wpOp_onR hi hw (wp_load_mid T x ho B 0 hx l d hb.range hu hd hs h)
theorem store_anyR {i : Nat} {o : Oper} {K : Act → World → Prop} {a : Act} {w : World} (hi : ops[i]? = some o) (hw : Region.wanted o (yielded ops a.tmps) = true) (hdst : o.dst = none) (T : TypeId) (x y : Operand) (ho : o.op = .store T x y)
    (B : Nat) (hx : a.eval x = .pointer (some ⟨B, 0, none⟩)) {l' : List Value} (hy : a.eval y = .agg l'.toArray) {t : TypeId} {l : List Value} (hb : BlkV w B t l) (hl : l'.length = l.length) (h1 : ∀ v ∈ l', v.oneCell' = true)
    (hs : (P.info? T).map (·.size) = some l.length) (h : K a (w.setCells B 0 l')) : wpOp P ops Q i K a w := by
  refine wpOp_onR hi hw (wp_store_mid T x y ho B 0 l'.toArray hx hy ?_ ?_ ?_ ?_)
  · rw [List.size_toArray, hl]; exact hb.there _ (Nat.le_refl _)
  · rw [List.size_toArray, hl]; exact hs
  · exact all_oneCell_toArray h1
  · rw [hdst]; simpa [Act.put] using h
theorem call_exR {i : Nat} {o : Oper} {K : Act → World → Prop} {a : Act} {w : World} (hi : ops[i]? = some o) (hw : Region.wanted o (yielded ops a.tmps) = true) {f : FuncId} {args : Array Value} (he : (execOp a.eval o).run P w = .ok (.enter f args) w)
    {C : Ending → World → Prop} (hc : Calls P f args w C) (h : ∀ e w', C e w' → ∃ v, e = .returned v ∧ K (a.put o.dst v) w') : wpOp P ops Q i K a w := by
  refine wpOp_onR hi hw ?_
  unfold Oper.wp
  rw [he]
  refine hc.mono fun e w' h1 => ?_
  obtain ⟨v, rfl, h2⟩ := h e w' h1
  exact h2
end
theorem rlRow_one (a : Option Addr) (n c : Nat) (x y : Nat) : ∀ v ∈ ([.slice a n c, .int .u64 (x : Int), .int .u64 (y : Int)] : List Value), v.oneCell' = true := by
  intro v hv
  simp only [List.mem_cons, List.not_mem_nil, or_false] at hv
  rcases hv with rfl | rfl | rfl <;> rfl
/-- both relays shortened, each in its box -/
def PuMid (w : World) (R T : Nat) (M N : List BxM) (now next now2 next2 : Nat) (a1 : Option Addr) (c1 : Nat) (a3 : Option Addr) (c3 : Nat) (wx : World) : Prop :=
  BlkV wx R 56 [.slice a1 M.length c1, .int .u64 (now : Int), .int .u64 (next : Int)] ∧ BlkV wx T 56 [.slice a3 N.length c3, .int .u64 (now2 : Int), .int .u64 (next2 : Int)] ∧ SB wx a1 c1 M ∧ SB wx a3 c3 N ∧ Below R w wx
theorem PuMid.dr {w : World} {R T : Nat} {M N : List BxM} {now next now2 next2 : Nat} {a1 : Option Addr} {c1 : Nat} {a3 : Option Addr} {c3 : Nat} {wx : World} (h : PuMid w R T M N now next now2 next2 a1 c1 a3 c3 wx) : PuMid w R T M N now next now2 next2 a1 c1 a3 c3 wx.drew :=
  ⟨h.1.on (Below.refl _ _).drew, h.2.1.on (Below.refl _ _).drew, h.2.2.1.dr, h.2.2.2.1.dr, h.2.2.2.2.drew⟩
theorem puMid_of {w wE : World} {R T : Nat} {M N : List BxM} {now next now2 next2 : Nat} {a1 : Option Addr} {c1 : Nat} {a3 : Option Addr} {c3 : Nat} {x y : List Value} (hx : x.length = 3) (hy : y.length = 3) {b1 b3 : Nat} (hne : R ≠ T) (hRT : R ≤ T)
    (hw : ∀ V, Below R w V → ∀ (a : Option Addr) (c b : Nat), OwnE eBx 101 V b (.slice a M.length c) M → SB V a c M) (hw3 : ∀ V, Below R w V → ∀ (a : Option Addr) (c b : Nat), OwnE eBx 101 V b (.slice a N.length c) N → SB V a c N)
    (kR : BlkV wE R 56 x) (kT : BlkV wE T 56 y) (o1 : OwnE eBx 101 wE b1 (.slice a1 M.length c1) M) (o3 : OwnE eBx 101 wE b3 (.slice a3 N.length c3) N) (hb : Below R w wE) :
    PuMid w R T M N now next now2 next2 a1 c1 a3 c3 ((wE.setCells R 0 [.slice a1 M.length c1, .int .u64 (now : Int), .int .u64 (next : Int)]).setCells T 0 [.slice a3 N.length c3, .int .u64 (now2 : Int), .int .u64 (next2 : Int)]) := by
  have k1 := kR.stored [.slice a1 M.length c1, .int .u64 (now : Int), .int .u64 (next : Int)] hx.symm
  have t1 := kT.farS (fun e => hne e.symm) [.slice a1 M.length c1, .int .u64 (now : Int), .int .u64 (next : Int)]
  have b1' : Below R w (wE.setCells R 0 [.slice a1 M.length c1, .int .u64 (now : Int), .int .u64 (next : Int)]) := below_setCells (Nat.le_refl _) _ 0 _ hb
  have f1 : ∀ k, k ≠ R → (wE.setCells R 0 [.slice a1 M.length c1, .int .u64 (now : Int), .int .u64 (next : Int)]).heap[k]? = wE.heap[k]? := fun k hk => heap_setCells_other R k hk _ _ _
  have o1' := OwnE.farR2 o1 kR (by decide) f1
  have o3' := OwnE.farR2 o3 kR (by decide) f1
  generalize wE.setCells R 0 _ = wF at *
  have t2 := t1.stored [.slice a3 N.length c3, .int .u64 (now2 : Int), .int .u64 (next2 : Int)] hy.symm
  have k2 := k1.farS hne [.slice a3 N.length c3, .int .u64 (now2 : Int), .int .u64 (next2 : Int)]
  have b2' : Below R w (wF.setCells T 0 [.slice a3 N.length c3, .int .u64 (now2 : Int), .int .u64 (next2 : Int)]) := below_setCells hRT _ 0 _ b1'
  have f2 : ∀ k, k ≠ T → (wF.setCells T 0 [.slice a3 N.length c3, .int .u64 (now2 : Int), .int .u64 (next2 : Int)]).heap[k]? = wF.heap[k]? := fun k hk => heap_setCells_other T k hk _ _ _
  have o1'' := OwnE.farR2 o1' t1 (by decide) f2
  have o3'' := OwnE.farR2 o3' t1 (by decide) f2
  exact ⟨k2, t2, hw _ b2' _ _ _ o1'', hw3 _ b2' _ _ _ o3'', b2'⟩
theorem likeSelf_any (a : Option Addr) (c : Nat) (L : List BxM) (n x : Nat) (hf : FewB L) (w : World) (hp : SB w a c L) :
    Calls Try.prog 38 #[.agg #[.slice a L.length c, .int .u64 (n : Int), .int .u64 (x : Int)], .agg #[.slice a L.length c, .int .u64 (n : Int), .int .u64 (x : Int)]] w fun e w' => e = .returned (.bool true) ∧ Below w.heap.size w w' := by
  have h := likeR_any a a c c L L n n x x hf w hp hp
  rw [decide_eq_true rfl] at h
  exact h
theorem pushE_zero {r : Rl} {u : Nat} {b : ByteArray} (h : pushE r u b = 0) : rightR r := by
  by_cases g : rightR r
  · exact g
  · have : pushE r u b = 1 := if_pos g
    rw [h] at this
    exact absurd this (by decide)
theorem fewBs_18' (L : List BxM) (u : Nat) : (mailsR (bxs (fewBs L)) u).length ≤ 18 := mailsR_le (fewBs_18 L) u
set_option maxHeartbeats 16000000 in
theorem pushesLaw_any (a : Option Addr) (c : Nat) (L : List BxM) (now next : Nat) (hn : now < 18446744073709551616) (hl : L.length ≤ maxLen) (hp : ∀ m ∈ L, m.s.ml.length ≤ maxLen) (a2 : Option Addr) (c2 : Nat) (L2 : List BxM) (now2 next2 : Nat) (hl2 : L2.length ≤ maxLen) (hp2 : ∀ m ∈ L2, m.s.ml.length ≤ maxLen) (u : Nat) (b : ByteArray) (w : World) (h : SB w a c L) (h2 : SB w a2 c2 L2) :
    Calls Try.prog 8 #[.agg #[.slice a L.length c, .int .u64 (now : Int), .int .u64 (next : Int)], .agg #[.slice a2 L2.length c2, .int .u64 (now2 : Int), .int .u64 (next2 : Int)], .int .u64 (u : Int), .string b] w fun e w' => e = .returned (.bool true) ∧ Below w.heap.size w w' := by
  obtain ⟨W0, eW0⟩ : ∃ W0, (w.alloc (.cells #[.slice a L.length c, .int .u64 (now : Int), .int .u64 (next : Int)] 56)).alloc (.cells #[.slice a2 L2.length c2, .int .u64 (now2 : Int), .int .u64 (next2 : Int)] 56) = W0 := ⟨_, rfl⟩
  have b0 : Below w.heap.size w W0 := by rw [← eW0]; exact ((Below.refl _ w).alloc (Nat.le_refl _) _).alloc (by simp) _
  obtain ⟨R, eR⟩ : ∃ R, w.heap.size = R := ⟨_, rfl⟩
  obtain ⟨T, eT⟩ : ∃ T, R + 1 = T := ⟨_, rfl⟩
  have hne : R ≠ T := by omega
  have hne2 : ¬ T = R := by omega
  have kR : BlkV W0 R 56 [.slice a L.length c, .int .u64 (now : Int), .int .u64 (next : Int)] := by rw [← eW0, ← eR]; exact (BlkV.fresh w _ _ _ rfl _ rfl).alloc _
  have kT : BlkV W0 T 56 [.slice a2 L2.length c2, .int .u64 (now2 : Int), .int .u64 (next2 : Int)] := by rw [← eW0, ← eT, ← eR]; exact BlkV.fresh _ _ _ _ rfl _ (by simp)
  have d0 := kR.cell 0 _ rfl
  have d1 := kR.cell 1 _ rfl
  have d2 := kR.cell 2 _ rfl
  have e0 := kT.cell 0 _ rfl
  have e1 := kT.cell 1 _ rfl
  have e2 := kT.cell 2 _ rfl
  have hFr := fun V (hV : Bz W0 V) => fewR_any a c L now next hl hp V (h.on (b0.trans (hV.b.mono b0.size)))
  have hFs := fun V (hV : Bz W0 V) => fewR_any a2 c2 L2 now2 next2 hl2 hp2 V (h2.on (b0.trans (hV.b.mono b0.size)))
  have hSw := (show ∀ V, Below R w V → ∀ (a1 : Option Addr) (c1 b : Nat), OwnE eBx 101 V b (.slice a1 (fewBs L).length c1) (fewBs L) → SB V a1 c1 (fewBs L) from fun V hV a1 c1 b ho => few_at h (by rw [eR]; exact hV) ho)
  have hSw2 := (show ∀ V, Below R w V → ∀ (a1 : Option Addr) (c1 b : Nat), OwnE eBx 101 V b (.slice a1 (fewBs L2).length c1) (fewBs L2) → SB V a1 c1 (fewBs L2) from fun V hV a1 c1 b ho => few_at h2 (by rw [eR]; exact hV) ho)
  have hMf := fewBs_few L
  have hM9 : (fewBs L).length ≤ 999 := by rw [fewBs_length]; omega
  have hM18 := fewBs_18' L u
  have hNf := fewBs_few L2
  obtain ⟨M, eM⟩ : ∃ M, fewBs L = M := ⟨_, rfl⟩
  obtain ⟨N, eN⟩ : ∃ N, fewBs L2 = N := ⟨_, rfl⟩
  rw [eM] at hMf hM9 hM18 hSw
  rw [eN] at hNf hSw2
  simp only [eM] at hFr
  simp only [eN] at hFs
  have HFr := Lib.hid hFr
  have HFs := Lib.hid hFs
  have HSw := Lib.hid (And.intro hSw hSw2)
  have HMF := Lib.hid hMf
  have HM9 := Lib.hid (And.intro hM9 hM18)
  have HK := Lib.hid (And.intro (show Below R w W0 by rw [← eR]; exact b0) (And.intro kR (And.intro kT (And.intro (show R ≤ W0.heap.size by rw [← eR]; exact b0.size) (show R ≤ T by omega)))))
  clear b0 kR kT hFr hFs hSw hSw2 hMf hM9 hM18 hNf eM eN h h2 hl hl2 hp hp2
  go_enter Try.func8, Try.ntmps8
  go_upto_region 1 with fail
  clear eW0 eT
  go_cut [] from 12 to 16 (fun wx => ∃ (a1 : Option Addr) (c1 : Nat) (a3 : Option Addr) (c3 : Nat), PuMid w R T M N now next now2 next2 a1 c1 a3 c3 wx)
  case first =>
    have HZ := Lib.hid (And.intro (HK.out.2.1.on (Below.refl _ W0).drew) (HK.out.2.2.1.on (Below.refl _ W0).drew))
    clear d0 d1 d2 e0 e1 e2
    refine wp_region_any (by kernel_rfl) ?_
    refine wpAny_all (rs := [0, 2]) (by kernel_rfl) (by decide) (List.forall_mem_cons.2 ⟨?_, List.forall_mem_cons.2 ⟨?_, List.forall_mem_nil _⟩⟩)
    · skip
      refine load_anyR rfl rfl 56 _ rfl R rfl HZ.out.1 Try.underlying56 rfl (by kernel_rfl) ?_
      refine wpAny_all (rs := [1, 2]) (by kernel_rfl) (by decide) (List.forall_mem_cons.2 ⟨?_, List.forall_mem_cons.2 ⟨?_, List.forall_mem_nil _⟩⟩)
      · skip
        refine call_exR (f := 34) (args := #[.agg #[.slice a L.length c, .int .u64 (now : Int), .int .u64 (next : Int)]]) rfl rfl (by kernel_rfl) (HFr.out _ (Bz.refl _).dr) ?_
        rintro e w1 ⟨a1, c1, rfl, -, ho1, hb1⟩
        refine ⟨_, rfl, ?_⟩
        have hz1 : Bz W0 w1 := Bz.st (Bz.refl _).dr hb1
        have HO1 := Lib.hid (And.intro hz1 (And.intro ho1 (HK.out.2.2.1.on hz1.b)))
        clear hz1 ho1 hb1
        refine wpAny_all (rs := [2]) (by kernel_rfl) (by decide) (List.forall_mem_cons.2 ⟨?_, List.forall_mem_nil _⟩)
        refine load_anyR rfl rfl 56 _ rfl T rfl HO1.out.2.2 Try.underlying56 rfl (by kernel_rfl) ?_
        refine wpAny_all (rs := [3]) (by kernel_rfl) (by decide) (List.forall_mem_cons.2 ⟨?_, List.forall_mem_nil _⟩)
        refine call_exR (f := 34) (args := #[.agg #[.slice a2 L2.length c2, .int .u64 (now2 : Int), .int .u64 (next2 : Int)]]) rfl rfl (by kernel_rfl) (HFs.out _ HO1.out.1) ?_
        rintro e w2 ⟨a3, c3, rfl, -, ho3, hb3⟩
        refine ⟨_, rfl, ?_⟩
        have hz2 : Bz W0 w2 := Bz.st HO1.out.1 hb3
        have hz12 : Bz w1 w2 := Bz.st (Bz.refl _) hb3
        have kR2 := HK.out.2.1.on hz2.b
        have kT2 := HK.out.2.2.1.on hz2.b
        have P := puMid_of (w := w) (now := now) (next := next) (now2 := now2) (next2 := next2) rfl rfl hne HK.out.2.2.2.2 HSw.out.1 HSw.out.2 kR2 kT2 (HO1.out.2.1.on hz12.b) ho3 (HK.out.1.trans (hz2.b.mono HK.out.2.2.2.1))
        have HP := Lib.hid P
        clear P ho3 hb3 hz2 hz12
        refine wpAny_all (rs := [4]) (by kernel_rfl) (by decide) (List.forall_mem_cons.2 ⟨?_, List.forall_mem_nil _⟩)
        refine store_anyR rfl rfl rfl 56 _ _ rfl R rfl (l' := [.slice a1 M.length c1, .int .u64 (now : Int), .int .u64 (next : Int)]) rfl kR2 rfl (rlRow_one _ _ _ _ _) (by kernel_rfl) ?_
        refine wpAny_all (rs := [5]) (by kernel_rfl) (by decide) (List.forall_mem_cons.2 ⟨?_, List.forall_mem_nil _⟩)
        refine store_anyR rfl rfl rfl 56 _ _ rfl T rfl (l' := [.slice a3 N.length c3, .int .u64 (now2 : Int), .int .u64 (next2 : Int)]) rfl (kT2.farS (fun e => hne e.symm) _) rfl (rlRow_one _ _ _ _ _) (by kernel_rfl) ?_
        clear kR2 kT2
        generalize World.setCells _ T 0 _ = w4 at HP ⊢
        refine wpAny_done (by kernel_rfl) ?_ _
        go_wp2_with fail
        go_meet
        exact ⟨_, _, _, _, HP.out⟩
      · skip
        refine load_anyR rfl rfl 56 _ rfl T rfl HZ.out.2 Try.underlying56 rfl (by kernel_rfl) ?_
        refine wpAny_all (rs := [1]) (by kernel_rfl) (by decide) (List.forall_mem_cons.2 ⟨?_, List.forall_mem_nil _⟩)
        refine call_exR (f := 34) (args := #[.agg #[.slice a L.length c, .int .u64 (now : Int), .int .u64 (next : Int)]]) rfl rfl (by kernel_rfl) (HFr.out _ (Bz.refl _).dr) ?_
        rintro e w1 ⟨a1, c1, rfl, -, ho1, hb1⟩
        refine ⟨_, rfl, ?_⟩
        have hz1 : Bz W0 w1 := Bz.st (Bz.refl _).dr hb1
        have HO1 := Lib.hid (And.intro hz1 (And.intro ho1 (HK.out.2.2.1.on hz1.b)))
        clear hz1 ho1 hb1
        refine wpAny_all (rs := [3]) (by kernel_rfl) (by decide) (List.forall_mem_cons.2 ⟨?_, List.forall_mem_nil _⟩)
        refine call_exR (f := 34) (args := #[.agg #[.slice a2 L2.length c2, .int .u64 (now2 : Int), .int .u64 (next2 : Int)]]) rfl rfl (by kernel_rfl) (HFs.out _ HO1.out.1) ?_
        rintro e w2 ⟨a3, c3, rfl, -, ho3, hb3⟩
        refine ⟨_, rfl, ?_⟩
        have hz2 : Bz W0 w2 := Bz.st HO1.out.1 hb3
        have hz12 : Bz w1 w2 := Bz.st (Bz.refl _) hb3
        have kR2 := HK.out.2.1.on hz2.b
        have kT2 := HK.out.2.2.1.on hz2.b
        have P := puMid_of (w := w) (now := now) (next := next) (now2 := now2) (next2 := next2) rfl rfl hne HK.out.2.2.2.2 HSw.out.1 HSw.out.2 kR2 kT2 (HO1.out.2.1.on hz12.b) ho3 (HK.out.1.trans (hz2.b.mono HK.out.2.2.2.1))
        have HP := Lib.hid P
        clear P ho3 hb3 hz2 hz12
        refine wpAny_all (rs := [4]) (by kernel_rfl) (by decide) (List.forall_mem_cons.2 ⟨?_, List.forall_mem_nil _⟩)
        refine store_anyR rfl rfl rfl 56 _ _ rfl R rfl (l' := [.slice a1 M.length c1, .int .u64 (now : Int), .int .u64 (next : Int)]) rfl kR2 rfl (rlRow_one _ _ _ _ _) (by kernel_rfl) ?_
        refine wpAny_all (rs := [5]) (by kernel_rfl) (by decide) (List.forall_mem_cons.2 ⟨?_, List.forall_mem_nil _⟩)
        refine store_anyR rfl rfl rfl 56 _ _ rfl T rfl (l' := [.slice a3 N.length c3, .int .u64 (now2 : Int), .int .u64 (next2 : Int)]) rfl (kT2.farS (fun e => hne e.symm) _) rfl (rlRow_one _ _ _ _ _) (by kernel_rfl) ?_
        clear kR2 kT2
        generalize World.setCells _ T 0 _ = w4 at HP ⊢
        refine wpAny_done (by kernel_rfl) ?_ _
        go_wp2_with fail
        go_meet
        exact ⟨_, _, _, _, HP.out⟩
    · skip
      refine load_anyR rfl rfl 56 _ rfl T rfl HZ.out.2 Try.underlying56 rfl (by kernel_rfl) ?_
      refine wpAny_all (rs := [0]) (by kernel_rfl) (by decide) (List.forall_mem_cons.2 ⟨?_, List.forall_mem_nil _⟩)
      refine load_anyR rfl rfl 56 _ rfl R rfl HZ.out.1 Try.underlying56 rfl (by kernel_rfl) ?_
      refine wpAny_all (rs := [1]) (by kernel_rfl) (by decide) (List.forall_mem_cons.2 ⟨?_, List.forall_mem_nil _⟩)
      refine call_exR (f := 34) (args := #[.agg #[.slice a L.length c, .int .u64 (now : Int), .int .u64 (next : Int)]]) rfl rfl (by kernel_rfl) (HFr.out _ (Bz.refl _).dr) ?_
      rintro e w1 ⟨a1, c1, rfl, -, ho1, hb1⟩
      refine ⟨_, rfl, ?_⟩
      have hz1 : Bz W0 w1 := Bz.st (Bz.refl _).dr hb1
      have HO1 := Lib.hid (And.intro hz1 (And.intro ho1 (HK.out.2.2.1.on hz1.b)))
      clear hz1 ho1 hb1
      refine wpAny_all (rs := [3]) (by kernel_rfl) (by decide) (List.forall_mem_cons.2 ⟨?_, List.forall_mem_nil _⟩)
      refine call_exR (f := 34) (args := #[.agg #[.slice a2 L2.length c2, .int .u64 (now2 : Int), .int .u64 (next2 : Int)]]) rfl rfl (by kernel_rfl) (HFs.out _ HO1.out.1) ?_
      rintro e w2 ⟨a3, c3, rfl, -, ho3, hb3⟩
      refine ⟨_, rfl, ?_⟩
      have hz2 : Bz W0 w2 := Bz.st HO1.out.1 hb3
      have hz12 : Bz w1 w2 := Bz.st (Bz.refl _) hb3
      have kR2 := HK.out.2.1.on hz2.b
      have kT2 := HK.out.2.2.1.on hz2.b
      have P := puMid_of (w := w) (now := now) (next := next) (now2 := now2) (next2 := next2) rfl rfl hne HK.out.2.2.2.2 HSw.out.1 HSw.out.2 kR2 kT2 (HO1.out.2.1.on hz12.b) ho3 (HK.out.1.trans (hz2.b.mono HK.out.2.2.2.1))
      have HP := Lib.hid P
      clear P ho3 hb3 hz2 hz12
      refine wpAny_all (rs := [4]) (by kernel_rfl) (by decide) (List.forall_mem_cons.2 ⟨?_, List.forall_mem_nil _⟩)
      refine store_anyR rfl rfl rfl 56 _ _ rfl R rfl (l' := [.slice a1 M.length c1, .int .u64 (now : Int), .int .u64 (next : Int)]) rfl kR2 rfl (rlRow_one _ _ _ _ _) (by kernel_rfl) ?_
      refine wpAny_all (rs := [5]) (by kernel_rfl) (by decide) (List.forall_mem_cons.2 ⟨?_, List.forall_mem_nil _⟩)
      refine store_anyR rfl rfl rfl 56 _ _ rfl T rfl (l' := [.slice a3 N.length c3, .int .u64 (now2 : Int), .int .u64 (next2 : Int)]) rfl (kT2.farS (fun e => hne e.symm) _) rfl (rlRow_one _ _ _ _ _) (by kernel_rfl) ?_
      clear kR2 kT2
      generalize World.setCells _ T 0 _ = w4 at HP ⊢
      refine wpAny_done (by kernel_rfl) ?_ _
      go_wp2_with fail
      go_meet
      exact ⟨_, _, _, _, HP.out⟩
  case rest =>
    clear d0 d1 d2 e0 e1 e2 HFr HFs
    obtain ⟨a1, c1, a3, c3, hP⟩ := hcut
    have y0 := hP.1.cell 0 _ rfl
    have y1 := hP.1.cell 1 _ rfl
    have y2 := hP.1.cell 2 _ rfl
    have hT := push_any a1 c1 M now next hn HMF.out u b wc hP.2.2.1
    have H2 := Lib.hid (And.intro hP hP.1.lt)
    obtain ⟨rr, err⟩ : ∃ rr : Rl, (⟨bxs M, now, next⟩ : Rl) = rr := ⟨_, rfl⟩
    simp only [err] at hT
    have HT := Lib.hid hT
    clear hT hP
    go_wp2_with fail
    refine HT.out.mono ?_
    rintro e w4 ⟨a4, c4, K, rfl, hS4, hK4, hb4⟩
    obtain ⟨Q, eQ⟩ : ∃ Q, pushQ rr u b = Q := ⟨_, rfl⟩
    obtain ⟨E, eE⟩ : ∃ E, pushE rr u b = E := ⟨_, rfl⟩
    rw [eQ] at hK4
    rw [eQ, eE]
    obtain ⟨W5, eW5⟩ : ∃ W5, w4.alloc (.cells #[.slice none 0 0, .int .u64 0, .int .u64 0] 56) = W5 := ⟨_, rfl⟩
    have b5 : Below w4.heap.size w4 W5 := by rw [← eW5]; exact (Below.refl _ w4).alloc (Nat.le_refl _) _
    obtain ⟨S, eS⟩ : ∃ S, w4.heap.size = S := ⟨_, rfl⟩
    have kS : BlkV W5 S 56 [.slice none 0 0, .int .u64 0, .int .u64 0] := by rw [← eW5, ← eS]; exact BlkV.fresh w4 _ _ _ rfl _ rfl
    have s0 := kS.cell 0 _ rfl
    have s1 := kS.cell 1 _ rfl
    have s2 := kS.cell 2 _ rfl
    have t0 := kS.frozen 0
    have t1 := kS.frozen 1
    have t2 := kS.frozen 2
    have H4 := Lib.hid (And.intro kS (And.intro b5 (And.intro hS4 (And.intro hK4 (And.intro hb4 (And.intro eQ (And.intro eE eS)))))))
    clear kS b5 hS4 hK4 hb4 eQ eE HT y0 y1 y2
    go_upto_region 3 with fail
    have kS6 := H4.out.1.put3 (.slice a4 K.length c4) (.int .u64 (Q.now : Int)) (.int .u64 (Q.next : Int))
    have b46 := below_put3 H4.out.2.1 S (by rw [← H4.out.2.2.2.2.2.2.2]; exact Nat.le_refl _) (.slice a4 K.length c4) (.int .u64 (Q.now : Int)) (.int .u64 (Q.next : Int))
    clear s0 s1 s2 t0 t1 t2 eW5
    generalize World.setCell _ _ _ = w6 at kS6 b46 ⊢
    have b26 := H4.out.2.2.2.2.1.trans (b46.mono H4.out.2.2.2.2.1.size)
    have k6 := H2.out.1.1.on b26
    have k6t := H2.out.1.2.1.on b26
    have sr := H2.out.1.2.2.1.on b26
    have ss := H2.out.1.2.2.2.1.on b26
    have p0 := cell_regrown (k6.cell 0 _ rfl)
    have p1 := cell_regrown (k6.cell 1 _ rfl)
    have p2 := cell_regrown (k6.cell 2 _ rfl)
    have q0 := cell_regrown (k6t.cell 0 _ rfl)
    have q1 := cell_regrown (k6t.cell 1 _ rfl)
    have q2 := cell_regrown (k6t.cell 2 _ rfl)
    have hRl := fun (d : Nat) (os : Array Obj) => rightRl_any a1 c1 M now next hn HMF.out.2 (Sort.grow (redrawn w6 d) os) (sr.on (below_regrown w6 d os))
    have hRr := fun (d : Nat) (os : Array Obj) => rightRef_any a1 c1 M now next hn HMF.out (Sort.grow (redrawn w6 d) os) (sr.on (below_regrown w6 d os))
    have hLk := fun (d : Nat) (os : Array Obj) => likeR_any a1 a3 c1 c3 M N now now2 next next2 HMF.out (Sort.grow (redrawn w6 d) os) (sr.on (below_regrown w6 d os)) (ss.on (below_regrown w6 d os))
    have hSm := fun (d : Nat) (os : Array Obj) => sameRl_any a1 a3 c1 c3 M N now now2 next next2 HMF.out (Sort.grow (redrawn w6 d) os) (sr.on (below_regrown w6 d os)) (ss.on (below_regrown w6 d os))
    have HLs := Lib.hid (fun (d : Nat) (os : Array Obj) => likeSelf_any a1 c1 M now next HMF.out (Sort.grow (redrawn w6 d) os) (sr.on (below_regrown w6 d os)))
    have HAlQ := Lib.hid (fun (d : Nat) (os : Array Obj) => aliveR_any (Sort.grow (redrawn w6 d) os))
    obtain ⟨t, et⟩ : ∃ t, decide (rightR rr) = t := ⟨_, rfl⟩
    obtain ⟨t2, et2⟩ : ∃ t2, decide (rr = (⟨bxs N, now2, next2⟩ : Rl)) = t2 := ⟨_, rfl⟩
    simp only [err, et] at hRl hRr
    simp only [err, et2] at hLk hSm
    have HRl := Lib.hid hRl
    have HRr := Lib.hid hRr
    have HLk := Lib.hid hLk
    have HSm := Lib.hid hSm
    have H6 := Lib.hid (And.intro kS6 (And.intro k6 (And.intro sr (And.intro (H4.out.2.2.1.on b46) (H2.out.1.2.2.2.2.trans (b26.mono (Nat.le_of_lt H2.out.2)))))))
    have HErr := Lib.hid err
    clear kS6 b46 b26 k6 k6t sr ss hRl hRr hLk hSm et et2 err
    go_cut [46] from 23 to 46 (fun v wx => v = .bool false ∧ Below w6.heap.size w6 wx)
    case first =>
      cases t
      · cases t2
        · skip
          refine wp_region_quiet_below (by kernel_rfl) (by kernel_rfl) ?_
          iterate 24 (go_big_quiet_step (first | (go_at_call 36; with_reducible exact Calls.regrown_of (HRl.out _ _)) | (go_at_call 37; with_reducible exact Calls.regrown_of (HRr.out _ _)) | (go_at_call 38; with_reducible exact Calls.regrown_of (HLk.out _ _)) | (go_at_call 38; with_reducible exact Calls.regrown_of (HLs.out _ _)) | (go_at_call 39; with_reducible exact Calls.regrown_of (HSm.out _ _)) | (go_at_call 40; with_reducible exact Calls.regrown_of (HAlQ.out _ _))))
          refine wpQuiet_nil ?_
          intro _ hw'
          obtain ⟨⟨dq, osq⟩, hw''⟩ := hw'
          subst hw''
          have HB2 := Lib.hid (below_regrown w6 dq osq)
          generalize Sort.grow (redrawn w6 dq) osq = W1 at HB2 ⊢
          rename_i hK
          refine hK _ _ ?_
          clear hK
          go_meet
          exact ⟨rfl, HB2.out⟩
        · skip
          refine wp_region_quiet_below (by kernel_rfl) (by kernel_rfl) ?_
          iterate 24 (go_big_quiet_step (first | (go_at_call 36; with_reducible exact Calls.regrown_of (HRl.out _ _)) | (go_at_call 37; with_reducible exact Calls.regrown_of (HRr.out _ _)) | (go_at_call 38; with_reducible exact Calls.regrown_of (HLk.out _ _)) | (go_at_call 38; with_reducible exact Calls.regrown_of (HLs.out _ _)) | (go_at_call 39; with_reducible exact Calls.regrown_of (HSm.out _ _)) | (go_at_call 40; with_reducible exact Calls.regrown_of (HAlQ.out _ _))))
          refine wpQuiet_nil ?_
          intro _ hw'
          obtain ⟨⟨dq, osq⟩, hw''⟩ := hw'
          subst hw''
          have HB2 := Lib.hid (below_regrown w6 dq osq)
          generalize Sort.grow (redrawn w6 dq) osq = W1 at HB2 ⊢
          rename_i hK
          refine hK _ _ ?_
          clear hK
          go_meet
          exact ⟨rfl, HB2.out⟩
      · cases t2
        · skip
          refine wp_region_quiet_below (by kernel_rfl) (by kernel_rfl) ?_
          iterate 24 (go_big_quiet_step (first | (go_at_call 36; with_reducible exact Calls.regrown_of (HRl.out _ _)) | (go_at_call 37; with_reducible exact Calls.regrown_of (HRr.out _ _)) | (go_at_call 38; with_reducible exact Calls.regrown_of (HLk.out _ _)) | (go_at_call 38; with_reducible exact Calls.regrown_of (HLs.out _ _)) | (go_at_call 39; with_reducible exact Calls.regrown_of (HSm.out _ _)) | (go_at_call 40; with_reducible exact Calls.regrown_of (HAlQ.out _ _))))
          refine wpQuiet_nil ?_
          intro _ hw'
          obtain ⟨⟨dq, osq⟩, hw''⟩ := hw'
          subst hw''
          have HB2 := Lib.hid (below_regrown w6 dq osq)
          generalize Sort.grow (redrawn w6 dq) osq = W1 at HB2 ⊢
          rename_i hK
          refine hK _ _ ?_
          clear hK
          go_meet
          exact ⟨rfl, HB2.out⟩
        · skip
          refine wp_region_quiet_below (by kernel_rfl) (by kernel_rfl) ?_
          iterate 24 (go_big_quiet_step (first | (go_at_call 36; with_reducible exact Calls.regrown_of (HRl.out _ _)) | (go_at_call 37; with_reducible exact Calls.regrown_of (HRr.out _ _)) | (go_at_call 38; with_reducible exact Calls.regrown_of (HLk.out _ _)) | (go_at_call 38; with_reducible exact Calls.regrown_of (HLs.out _ _)) | (go_at_call 39; with_reducible exact Calls.regrown_of (HSm.out _ _)) | (go_at_call 40; with_reducible exact Calls.regrown_of (HAlQ.out _ _))))
          refine wpQuiet_nil ?_
          intro _ hw'
          obtain ⟨⟨dq, osq⟩, hw''⟩ := hw'
          subst hw''
          have HB2 := Lib.hid (below_regrown w6 dq osq)
          generalize Sort.grow (redrawn w6 dq) osq = W1 at HB2 ⊢
          rename_i hK
          refine hK _ _ ?_
          clear hK
          go_meet
          exact ⟨rfl, HB2.out⟩
    case rest =>
      obtain ⟨rfl, hb7⟩ := hcut
      clear p0 p1 p2 q0 q1 q2 HRl HRr HLk HSm HLs HAlQ
      have k7 := H6.out.2.1.on hb7
      have y0 := k7.cell 0 _ rfl
      have y1 := k7.cell 1 _ rfl
      have y2 := k7.cell 2 _ rfl
      have hWy := whyRef_any a1 c1 M now next hn HMF.out u b wc (H6.out.2.2.1.on hb7)
      simp only [HErr.out, H4.out.2.2.2.2.2.2.1] at hWy
      have HWy := Lib.hid hWy
      have H7 := Lib.hid (And.intro (H6.out.1.on hb7) (And.intro k7 (And.intro (H6.out.2.2.1.on hb7) (And.intro (H6.out.2.2.2.1.on hb7) (H6.out.2.2.2.2.trans (hb7.mono (by have := H6.out.2.2.2.2.size; omega)))))))
      have hQ : Q = if E = 0 then pushR rr u b else ⟨[], 0, 0⟩ := by
        rw [← H4.out.2.2.2.2.2.1, ← H4.out.2.2.2.2.2.2.1]; rfl
      clear hb7 k7 hWy
      by_cases hE : E = 0
      · rw [if_pos hE] at hQ
        obtain ⟨n1, en1⟩ : ∃ n1, next + 1 = n1 := ⟨_, rfl⟩
        have hr : rightR rr := pushE_zero (H4.out.2.2.2.2.2.2.1.trans hE)
        have hnx : next < 4611686018427387904 := by rw [← HErr.out] at hr; exact hr.2.2.1
        unfold pushR at hQ
        rw [← HErr.out] at hQ
        simp only [en1] at hQ
        obtain ⟨G, eG⟩ : ∃ G, mailsR (bxs M) u ++ [(⟨next, b, now⟩ : Ml)] = G := ⟨_, rfl⟩
        have hG : G.length ≤ 1000 := by rw [← eG, List.length_append]; have := HM9.out.2; simp; omega
        have hPu := fun V (hV : SB V a1 c1 M) => pushRef_any a1 c1 M now next HMF.out u b hnx (by have := HM9.out.2; omega) V hV
        simp only [eG, en1] at hPu hQ
        have HPu := Lib.hid hPu
        have HG := Lib.hid hG
        subst hE
        subst hQ
        clear hr hnx en1 eG hG hPu
        go_wp2_with fail
        refine HWy.out.mono ?_
        rintro e w8 ⟨rfl, hb8⟩
        have kS8 := H7.out.1.on hb8
        have k8 := H7.out.2.1.on hb8
        have s0 := kS8.cell 0 _ rfl
        have s1 := kS8.cell 1 _ rfl
        have s2 := kS8.cell 2 _ rfl
        have z0 := k8.cell 0 _ rfl
        have z1 := k8.cell 1 _ rfl
        have z2 := k8.cell 2 _ rfl
        have H8 := Lib.hid (And.intro kS8 (And.intro (H7.out.2.2.1.on hb8) (And.intro (H7.out.2.2.2.1.on hb8) (H7.out.2.2.2.2.trans (hb8.mono (by have := H7.out.2.2.2.2.size; omega))))))
        clear kS8 k8 hb8 y0 y1 y2 HWy
        go_upto_region 8 with fail
        go_region_with (first
          | (go_at_call 42; refine (HPu.out _ (H8.out.2.1.on (Bz.b (by repeat (first | exact Bz.refl _ | refine Bz.dr ?_))))).mono ?_; rintro e w11 ⟨a11, c11, K11, rfl, hS11, hK11, hb11⟩; have hz11 : Bz w8 w11 := Bz.st (by repeat (first | exact Bz.refl _ | refine Bz.dr ?_)) hb11; have kS11 := H8.out.1.on hz11.b; have r0 := kS11.cell 0 _ rfl; have r1 := kS11.cell 1 _ rfl; have r2 := kS11.cell 2 _ rfl; have HZ := Lib.hid (And.intro hz11 (And.intro hS11 hK11)); clear hS11 hK11 hb11 hz11 kS11)
          | (go_at_call 39; refine (same_withB a4 a11 c4 c11 K K11 now n1 HMF.out HM9.out.1 HG.out H4.out.2.2.2.1 HZ.out.2.2 _ (H8.out.2.2.1.on (Bz.b (by repeat (first | exact HZ.out.1 | refine Bz.dr ?_)))) (HZ.out.2.1.on (Bz.b (by repeat (first | exact Bz.refl _ | refine Bz.dr ?_))))).mono ?_; rintro e w12 ⟨rfl, hb12⟩; have hz12 : Bz w8 w12 := Bz.st (by repeat (first | exact HZ.out.1 | refine Bz.dr ?_)) hb12; have HZ2 := Lib.hid hz12; clear hb12 hz12))
        all_goals (
          go_wp2_with fail
          go_ret
          have hbb := H8.out.2.2.2.trans ((Bz.dr HZ2.out).b.mono (by have := H8.out.2.2.2.size; omega))
          have hbc := H8.out.2.2.2.trans ((HZ2.out).b.mono (by have := H8.out.2.2.2.size; omega))
          exact ⟨rfl, by first | exact hbb | exact hbc | (rw [eR]; first | exact hbb | exact hbc)⟩)
      · rw [if_neg hE] at hQ
        subst hQ
        have hK0 : K = [] := bxs_nil H4.out.2.2.2.1
        subst hK0
        have hq : (E != 0) = true := by simpa using hE
        go_wp2_with fail
        refine HWy.out.mono ?_
        rintro e w8 ⟨rfl, hb8⟩
        have kS8 := H7.out.1.on hb8
        have s0 := kS8.cell 0 _ rfl
        have s1 := kS8.cell 1 _ rfl
        have s2 := kS8.cell 2 _ rfl
        have hbw := H7.out.2.2.2.2.trans (hb8.mono (by have := H7.out.2.2.2.2.size; omega))
        have hsm := sameRl_any a4 none c4 0 [] [] 0 0 0 0 ⟨by simp, fun m hm => by cases hm⟩ w8 ⟨Sl.nil _ _ _, fun m hm => (by cases hm), Nat.zero_le _, fun e => ⟨(H4.out.2.2.1.nil e).1, rfl⟩⟩ (SB.empty w8)
        rw [decide_eq_true rfl] at hsm
        have HSM := Lib.hid hsm
        have HBW := Lib.hid hbw
        clear hb8 kS8 hbw hsm HWy
        go_wp2_with (go_at_call 39; refine HSM.out.mono ?_; rintro e w9 ⟨rfl, hb9⟩)
        go_ret
        have hbb := HBW.out.trans (hb9.mono (by have := HBW.out.size; omega))
        exact ⟨rfl, by first | exact hbb | (rw [eR]; exact hbb)⟩
end Go.Proofs.Ytmmaimopombepaa
