/- FrameBack: what is put is got as it was; what is got, put, is those bytes; frames with the same bytes are the same. -/
import Derived.Test.YtollaaooinoafaaDoorTr
namespace Go.Proofs.YtollaaooinoafaaDoor
open Go.RowKit Go.Sort
set_option maxRecDepth 100000
theorem yield_any {P : Program} {ops : Array Oper} {Q : Exit → Act → World → Prop} {i : Nat} {o : Oper} {K : Act → World → Prop} {a : Act} {w : World} (hi : ops[i]? = some o) (hw : Region.wanted o (yielded ops a.tmps) = true) {v : Value}
    (he : (execOp a.eval o).run P w = .ok (.value v) w) (h : K (a.put o.dst v) w) : wpOp P ops Q i K a w := by
  refine wpOp_on hi hw ?_
  unfold Oper.wp
  rw [he]
  exact h
theorem build_w {P : Program} {ops : Array Oper} {Q : Exit → Act → World → Prop} {rest : List Oper} {o : Oper} {a : Act} {w : World} (hw : Region.wanted o (yielded ops a.tmps) = true) (t : TypeId) (parts : Array (Nat × Operand)) (ho : o.op = .build t parts) {cells : Array Value}
    (hc : P.built t (parts.map fun (i, x) => (i, a.eval x)).toList = some cells) (h : wpList P ops Q rest (a.put o.dst (.agg cells)) w) : wpList P ops Q (o :: rest) a w :=
  wpList_step fun K hK => by
    rw [if_pos hw]
    exact wp_build t parts ho (by rw [hc]; rfl) (hK _ _ (by rw [hc]; exact h))
theorem slice_to (x hd : ByteArray) (n : Nat) (hn : n ≤ x.size) (hc : x.extract 0 n = hd) (W : World) : (Instr.slice 9 (.string x) none (some (.int .i64 (n : Int))) none).run Tryd.prog W = .ok (.string hd) W := by
  have l1 : (n : Int) ≤ (x.size : Int) := by omega
  have l0 : (0 : Int) ≤ (n : Int) := by omega
  rw [← hc]
  clear hc
  go_simp
theorem putF_size {f : Fr} (h : rightF f = true) (ho : FrOk f) : (strL (putF f)).size ≤ maxLen := by
  obtain ⟨h1, h2⟩ := ok_all h ho
  have := packL_le (allP f) h1 (long_all h)
  rw [strL_size]
  unfold putF maxLen
  omega
theorem head_cut (f : Fr) : (strL (headF f)).size ≤ (strL (putF f)).size ∧ (strL (putF f)).extract 0 (strL (headF f)).size = strL (headF f) := by
  obtain ⟨h1, h2⟩ := head_take f
  refine ⟨by rw [strL_size, strL_size]; exact h1, bl_inj ?_⟩
  rw [bl_extract, bl_strL, bl_strL, strL_size, List.drop_zero]
  exact h2
set_option maxHeartbeats 4000000 in
theorem frameBack_any (f g : Fr) (a b : Option Addr) (c d : Nat) (s0 : ByteArray) (hlf : f.keys.length ≤ maxLen) (hlg : g.keys.length ≤ maxLen) (hcf : f.keys.length ≤ c) (hcg : g.keys.length ≤ d) (hof : FrOk f) (hog : FrOk g) (_hif : FrIn f) (_hig : FrIn g) (_hs0 : s0.size ≤ maxLen) (w : World) (hpf : SSl w a f.keys) (hpg : SSl w b g.keys) (hF : FmtAt w) :
    Calls Tryd.prog 5 #[frV f a c, frV g b d, .string s0] w fun e w' => e = .returned (.bool true) ∧ Below w.heap.size w w' := by
  have hsl := cut8_run s0
  have hk4 := cut8_size s0
  obtain ⟨k, ek⟩ : ∃ k, cut8 s0 = k := ⟨_, rfl⟩
  rw [ek] at hsl hk4
  have hks : k.size ≤ maxLen := by unfold maxLen; omega
  have HKS := Lib.hid hks; have HSL := Lib.hid hsl
  clear hks hk4 ek hsl
  obtain ⟨W, eW⟩ : ∃ W, (w.alloc (.cells (frL f a c).toArray 25)).alloc (.cells (frL g b d).toArray 25) = W := ⟨_, rfl⟩
  have hB : Below w.heap.size w W := by rw [← eW]; exact ((Below.refl _ _).alloc (Nat.le_refl _) _).alloc (by simp) _
  have h2 : TwoF w W w.heap.size w.heap.size (w.heap.size + 1) (frL f a c) (frL g b d) a b (f.keys.take 34) (g.keys.take 34) :=
    ⟨hB, Nat.le_refl _, Nat.lt_succ_self _, by rw [← eW]; exact (BlkV.fresh _ _ _ _ rfl _ rfl).alloc _, by rw [← eW]; exact BlkV.fresh _ _ _ _ rfl _ (by simp), (hpf.take 34).on hB, (hpg.take 34).on hB, hF.on hB⟩
  have hfa := few8_any f a c hlf hcf
  have hfb := few8_any g b d hlg hcg
  have hof' : FrOk (fewF f) ∧ FrOk (fewF g) := ⟨⟨hof.frm, hof.dst, hof.id, hof.signed, hof.once, hof.prev, hof.num⟩, ⟨hog.frm, hog.dst, hog.id, hog.signed, hog.once, hog.prev, hog.num⟩⟩
  have hl0 : (frL f a c).length = 13 ∧ (frL g b d).length = 13 ∧ (frL (fewF f) a c).length = 13 ∧ (frL (fewF g) b d).length = 13 := ⟨rfl, rfl, rfl, rfl⟩
  have h10 := And.intro (frL_one (fewF f) a c) (frL_one (fewF g) b d)
  have hk1 : (fewF f).keys.length ≤ maxLen ∧ (fewF g).keys.length ≤ maxLen := by
    rw [fewF_keys, fewF_keys, List.length_take, List.length_take]; omega
  rw [← fewF_keys f, ← fewF_keys g] at h2
  generalize hA : fewF f = A at *
  generalize hB : fewF g = B at *
  have e1 : frV f a c = .agg (frL f a c).toArray := rfl
  have e2 : frV g b d = .agg (frL g b d).toArray := rfl
  have e3 : frV A a c = .agg (frL A a c).toArray := rfl
  have e4 : frV B b d = .agg (frL B b d).toArray := rfl
  rw [e1, e3] at hfa
  rw [e2, e4] at hfb
  rw [e1, e2]
  obtain ⟨l0, k0⟩ : ∃ l, frL f a c = l := ⟨_, rfl⟩
  obtain ⟨l1, k1⟩ : ∃ l, frL g b d = l := ⟨_, rfl⟩
  obtain ⟨l2, k2⟩ : ∃ l, frL A a c = l := ⟨_, rfl⟩
  obtain ⟨l3, k3⟩ : ∃ l, frL B b d = l := ⟨_, rfl⟩
  rw [k0, k1] at eW h2 ⊢
  rw [k0, k1, k2, k3] at hl0
  rw [k0, k2] at hfa
  rw [k1, k3] at hfb
  rw [k2, k3] at h10
  have hLW : LowF w a b A.keys B.keys := ⟨by rw [← hA]; exact hpf.take 34, by rw [← hB]; exact hpg.take 34, hF⟩
  have HLW := Lib.hid hLW
  have HW := Lib.hid eW; have H2 := Lib.hid h2; have HFA := Lib.hid hfa; have HFB := Lib.hid hfb; have HO := Lib.hid hof'; have HL := Lib.hid hl0; have H1 := Lib.hid h10; have HK := Lib.hid hk1; have HE := Lib.hid (And.intro k2 k3)
  clear eW h2 hfa hfb hof' hl0 h10 hk1 k0 k1 k2 k3 e1 e2 e3 e4 hA hB hlf hlg hcf hcg hof hog _hif _hig _hs0 hpf hpg hF
  go_enter Tryd.func5, Tryd.ntmps5
  go_upto_region 1 with fail
  change Code.wp Tryd.prog _ _ _ ((w.alloc (.cells l0.toArray 25)).alloc (.cells l1.toArray 25))
  rw [HW.out]
  clear HW
  go_cut [2] (fun v wx => v = .string k ∧ TwoF w wx w.heap.size w.heap.size (w.heap.size + 1) l2 l3 a b A.keys B.keys)
  · have HZ : Hid (TwoF w W.drew w.heap.size w.heap.size (w.heap.size + 1) l0 l1 a b A.keys B.keys) := Lib.hid (H2.out.on (Below.refl _ _).drew)
    refine wp_region_any (by kernel_rfl) ?_
    refine wpAny_take (i := 4) (v := .string s0) rfl (by kernel_rfl) (by kernel_rfl) (by kernel_rfl) (fun _ _ _ h => h) (.inl ⟨rfl, fun W => by kernel_rfl⟩) ?_
    refine wpAny_take (i := 5) (v := .string s0) rfl (by kernel_rfl) (by kernel_rfl) (by kernel_rfl) (fun _ _ _ h => h) (.inl ⟨rfl, fun W => by kernel_rfl⟩) ?_
    refine wpAny_take (i := 6) (v := .int .i64 (s0.size : Int)) rfl (by kernel_rfl) (by kernel_rfl) (by kernel_rfl) (fun _ _ _ h => h) (.inl ⟨rfl, fun W => by go_simp⟩) ?_
    refine wpAny_take (i := 7) (v := .int .i64 (min (s0.size : Int) 4000)) rfl (by kernel_rfl) (by kernel_rfl) (by kernel_rfl) (fun _ _ _ h => h) (.inl ⟨rfl, fun W => by go_simp⟩) ?_
    refine wpAny_take (i := 8) (v := .string k) rfl (by kernel_rfl) (by kernel_rfl) (by kernel_rfl) (fun _ _ _ h => h) (.inl ⟨rfl, fun W => by have := HSL.out W; go_simp⟩) ?_
    -- orders
    refine wpAny_all (rs := [0, 2]) (by kernel_rfl) (by decide) (List.forall_mem_cons.2 ⟨?_, List.forall_mem_cons.2 ⟨?_, List.forall_mem_nil _⟩⟩)
    · refine load_any rfl (by kernel_rfl) 25 _ rfl w.heap.size (by kernel_rfl) HZ.out.one Tryd.underlying25 rfl (by rw [HL.out.1]; kernel_rfl) ?_
      refine wpAny_all (rs := [1, 2]) (by kernel_rfl) (by decide) (List.forall_mem_cons.2 ⟨?_, List.forall_mem_cons.2 ⟨?_, List.forall_mem_nil _⟩⟩)
      · refine call_any (f := 6) (args := #[.agg l0.toArray]) rfl (by kernel_rfl) (by kernel_rfl) (HFA.out _) ?_
        intro w1 hb
        have HZ1 := Lib.hid (HZ.out.on hb)
        clear hb
        refine wpAny_all (rs := [2]) (by kernel_rfl) (by decide) (List.forall_mem_cons.2 ⟨?_, List.forall_mem_nil _⟩)
        refine load_any rfl (by kernel_rfl) 25 _ rfl (w.heap.size + 1) (by kernel_rfl) HZ1.out.two Tryd.underlying25 rfl (by rw [HL.out.2.1]; kernel_rfl) ?_
        refine wpAny_all (rs := [3]) (by kernel_rfl) (by decide) (List.forall_mem_cons.2 ⟨?_, List.forall_mem_nil _⟩)
        refine call_any (f := 6) (args := #[.agg l1.toArray]) rfl (by kernel_rfl) (by kernel_rfl) (HFB.out _) ?_
        intro w2 hb
        have HZ2 := Lib.hid (HZ1.out.on hb)
        clear hb
        refine wpAny_all (rs := [9]) (by kernel_rfl) (by decide) (List.forall_mem_cons.2 ⟨?_, List.forall_mem_nil _⟩)
        refine store_any rfl (by kernel_rfl) rfl 25 _ _ rfl w.heap.size (by kernel_rfl) (l' := l2) (by kernel_rfl) HZ2.out.one (by rw [HL.out.1, HL.out.2.2.1]) H1.out.1 (by rw [HL.out.1]; kernel_rfl) ?_
        have HZ3 := Lib.hid (HZ2.out.put1 l2 (by rw [HL.out.1, HL.out.2.2.1]) HLW.out)
        generalize World.setCells w2 _ _ _ = w3 at HZ3 ⊢
        refine wpAny_all (rs := [10]) (by kernel_rfl) (by decide) (List.forall_mem_cons.2 ⟨?_, List.forall_mem_nil _⟩)
        refine store_any rfl (by kernel_rfl) rfl 25 _ _ rfl (w.heap.size + 1) (by kernel_rfl) (l' := l3) (by kernel_rfl) HZ3.out.two (by rw [HL.out.2.1, HL.out.2.2.2]) H1.out.2 (by rw [HL.out.2.1]; kernel_rfl) ?_
        have HZ4 := Lib.hid (HZ3.out.put2 l3 (by rw [HL.out.2.1, HL.out.2.2.2]) HLW.out)
        generalize World.setCells w3 _ _ _ = w4 at HZ4 ⊢
        refine wpAny_all (rs := [11]) (by kernel_rfl) (by decide) (List.forall_mem_cons.2 ⟨?_, List.forall_mem_nil _⟩)
        refine yield_any (v := .string k) rfl (by kernel_rfl) (by kernel_rfl) ?_
        refine wpAny_done (by kernel_rfl) ?_ _
        go_simp
        go_wp2_with fail
        go_meet
        exact ⟨rfl, HZ4.out⟩
      · refine load_any rfl (by kernel_rfl) 25 _ rfl (w.heap.size + 1) (by kernel_rfl) HZ.out.two Tryd.underlying25 rfl (by rw [HL.out.2.1]; kernel_rfl) ?_
        refine wpAny_all (rs := [1]) (by kernel_rfl) (by decide) (List.forall_mem_cons.2 ⟨?_, List.forall_mem_nil _⟩)
        refine call_any (f := 6) (args := #[.agg l0.toArray]) rfl (by kernel_rfl) (by kernel_rfl) (HFA.out _) ?_
        intro w1 hb
        have HZ1 := Lib.hid (HZ.out.on hb)
        clear hb
        refine wpAny_all (rs := [3]) (by kernel_rfl) (by decide) (List.forall_mem_cons.2 ⟨?_, List.forall_mem_nil _⟩)
        refine call_any (f := 6) (args := #[.agg l1.toArray]) rfl (by kernel_rfl) (by kernel_rfl) (HFB.out _) ?_
        intro w2 hb
        have HZ2 := Lib.hid (HZ1.out.on hb)
        clear hb
        refine wpAny_all (rs := [9]) (by kernel_rfl) (by decide) (List.forall_mem_cons.2 ⟨?_, List.forall_mem_nil _⟩)
        refine store_any rfl (by kernel_rfl) rfl 25 _ _ rfl w.heap.size (by kernel_rfl) (l' := l2) (by kernel_rfl) HZ2.out.one (by rw [HL.out.1, HL.out.2.2.1]) H1.out.1 (by rw [HL.out.1]; kernel_rfl) ?_
        have HZ3 := Lib.hid (HZ2.out.put1 l2 (by rw [HL.out.1, HL.out.2.2.1]) HLW.out)
        generalize World.setCells w2 _ _ _ = w3 at HZ3 ⊢
        refine wpAny_all (rs := [10]) (by kernel_rfl) (by decide) (List.forall_mem_cons.2 ⟨?_, List.forall_mem_nil _⟩)
        refine store_any rfl (by kernel_rfl) rfl 25 _ _ rfl (w.heap.size + 1) (by kernel_rfl) (l' := l3) (by kernel_rfl) HZ3.out.two (by rw [HL.out.2.1, HL.out.2.2.2]) H1.out.2 (by rw [HL.out.2.1]; kernel_rfl) ?_
        have HZ4 := Lib.hid (HZ3.out.put2 l3 (by rw [HL.out.2.1, HL.out.2.2.2]) HLW.out)
        generalize World.setCells w3 _ _ _ = w4 at HZ4 ⊢
        refine wpAny_all (rs := [11]) (by kernel_rfl) (by decide) (List.forall_mem_cons.2 ⟨?_, List.forall_mem_nil _⟩)
        refine yield_any (v := .string k) rfl (by kernel_rfl) (by kernel_rfl) ?_
        refine wpAny_done (by kernel_rfl) ?_ _
        go_simp
        go_wp2_with fail
        go_meet
        exact ⟨rfl, HZ4.out⟩
    · refine load_any rfl (by kernel_rfl) 25 _ rfl (w.heap.size + 1) (by kernel_rfl) HZ.out.two Tryd.underlying25 rfl (by rw [HL.out.2.1]; kernel_rfl) ?_
      refine wpAny_all (rs := [0]) (by kernel_rfl) (by decide) (List.forall_mem_cons.2 ⟨?_, List.forall_mem_nil _⟩)
      refine load_any rfl (by kernel_rfl) 25 _ rfl w.heap.size (by kernel_rfl) HZ.out.one Tryd.underlying25 rfl (by rw [HL.out.1]; kernel_rfl) ?_
      refine wpAny_all (rs := [1]) (by kernel_rfl) (by decide) (List.forall_mem_cons.2 ⟨?_, List.forall_mem_nil _⟩)
      refine call_any (f := 6) (args := #[.agg l0.toArray]) rfl (by kernel_rfl) (by kernel_rfl) (HFA.out _) ?_
      intro w1 hb
      have HZ1 := Lib.hid (HZ.out.on hb)
      clear hb
      refine wpAny_all (rs := [3]) (by kernel_rfl) (by decide) (List.forall_mem_cons.2 ⟨?_, List.forall_mem_nil _⟩)
      refine call_any (f := 6) (args := #[.agg l1.toArray]) rfl (by kernel_rfl) (by kernel_rfl) (HFB.out _) ?_
      intro w2 hb
      have HZ2 := Lib.hid (HZ1.out.on hb)
      clear hb
      refine wpAny_all (rs := [9]) (by kernel_rfl) (by decide) (List.forall_mem_cons.2 ⟨?_, List.forall_mem_nil _⟩)
      refine store_any rfl (by kernel_rfl) rfl 25 _ _ rfl w.heap.size (by kernel_rfl) (l' := l2) (by kernel_rfl) HZ2.out.one (by rw [HL.out.1, HL.out.2.2.1]) H1.out.1 (by rw [HL.out.1]; kernel_rfl) ?_
      have HZ3 := Lib.hid (HZ2.out.put1 l2 (by rw [HL.out.1, HL.out.2.2.1]) HLW.out)
      generalize World.setCells w2 _ _ _ = w3 at HZ3 ⊢
      refine wpAny_all (rs := [10]) (by kernel_rfl) (by decide) (List.forall_mem_cons.2 ⟨?_, List.forall_mem_nil _⟩)
      refine store_any rfl (by kernel_rfl) rfl 25 _ _ rfl (w.heap.size + 1) (by kernel_rfl) (l' := l3) (by kernel_rfl) HZ3.out.two (by rw [HL.out.2.1, HL.out.2.2.2]) H1.out.2 (by rw [HL.out.2.1]; kernel_rfl) ?_
      have HZ4 := Lib.hid (HZ3.out.put2 l3 (by rw [HL.out.2.1, HL.out.2.2.2]) HLW.out)
      generalize World.setCells w3 _ _ _ = w4 at HZ4 ⊢
      refine wpAny_all (rs := [11]) (by kernel_rfl) (by decide) (List.forall_mem_cons.2 ⟨?_, List.forall_mem_nil _⟩)
      refine yield_any (v := .string k) rfl (by kernel_rfl) (by kernel_rfl) ?_
      refine wpAny_done (by kernel_rfl) ?_ _
      go_simp
      go_wp2_with fail
      go_meet
      exact ⟨rfl, HZ4.out⟩
    -- end of orders
  · obtain ⟨rfl, hcut⟩ := hcut
    obtain ⟨W1, rfl⟩ : ∃ V : World, V = wc := ⟨_, rfl⟩
    have HZ := Lib.hid hcut
    obtain ⟨hkA, hkB⟩ := HK.out
    have hvA : frV A a c = .agg l2.toArray := by rw [← HE.out.1]; rfl
    have hvB : frV B b d = .agg l3.toArray := by rw [← HE.out.2]; rfl
    have cA := fun W (h : TwoF w W w.heap.size w.heap.size (w.heap.size + 1) l2 l3 a b A.keys B.keys) => fPut_any A a c hkA HO.out.1 W h.ka h.fmt
    have cB := fun W (h : TwoF w W w.heap.size w.heap.size (w.heap.size + 1) l2 l3 a b A.keys B.keys) => fPut_any B b d hkB HO.out.2 W h.kb h.fmt
    have cH := fun W (h : TwoF w W w.heap.size w.heap.size (w.heap.size + 1) l2 l3 a b A.keys B.keys) => fHead_any A a c hkA HO.out.1 W h.ka h.fmt
    have cS := fun W (h : TwoF w W w.heap.size w.heap.size (w.heap.size + 1) l2 l3 a b A.keys B.keys) => r8Same_any A B a b c d hkA hkB W h.ka h.kb
    have cM := fun W (a' : Option Addr) (c' : Nat) (h : TwoF w W w.heap.size w.heap.size (w.heap.size + 1) l2 l3 a b A.keys B.keys) (hp : SSl W a' A.keys) => r8Same_any A A a' a c' c hkA hkA W hp h.ka
    have cG := fun W (h : FmtAt W) => fGet_any k HKS.out W h
    rw [hvA] at cA cH cS cM
    rw [hvB] at cB cS
    rw [decide_eq_true (rfl : A = A)] at cM
    have cGA : rightF A = true → ∀ W, FmtAt W → Calls Tryd.prog 16 #[.string (putS A)] W fun e w' => ∃ (a' : Option Addr) (c' : Nat), e = .returned (.tuple #[.agg (frL A a' c').toArray, .int .i64 0]) ∧ SSl w' a' A.keys ∧ Below W.heap.size W w' := by
      intro hr W hF
      have e1 : putS A = strL (putF A) := by unfold putS; rw [hr]; rfl
      have h := fGet_any (putS A) (by rw [e1]; exact putF_size hr HO.out.1) W hF
      rw [e1, bl_strL, getF_put hr HO.out.1] at h
      rw [e1]
      refine h.mono ?_
      rintro e w' ⟨a', c', h1, -, h3, h4⟩
      exact ⟨a', c', h1, h3, h4⟩
    have hcutA : rightF A = true → (headS A).size ≤ (putS A).size ∧ (putS A).extract 0 (headS A).size = headS A := by
      intro hr
      have e1 : putS A = strL (putF A) := by unfold putS; rw [hr]; rfl
      have e2 : headS A = strL (headF A) := by unfold headS; rw [hr]; rfl
      rw [e1, e2]; exact head_cut A
    have hlenA : (putS A).size ≤ maxLen := by
      unfold putS
      split
      · rename_i hr; exact putF_size hr HO.out.1
      · exact Nat.zero_le _
    have hsame : rightF A = true → rightF B = true → (putS A = putS B ↔ A = B) := by
      intro hr hr2
      have e1 : putS A = strL (putF A) := by unfold putS; rw [hr]; rfl
      have e2 : putS B = strL (putF B) := by unfold putS; rw [hr2]; rfl
      rw [e1, e2]
      constructor
      · intro h
        have h2 := congrArg bl h
        rw [bl_strL, bl_strL] at h2
        exact putF_inj hr hr2 HO.out.1 HO.out.2 h2
      · intro h; rw [h]
    have hEA : (rightF A = true → putE A = 0) ∧ (rightF A = false → putE A = 1) := ⟨fun h => by unfold putE; rw [h]; rfl, fun h => by unfold putE; rw [h]; rfl⟩
    have hEB : (rightF B = true → putE B = 0) ∧ (rightF B = false → putE B = 1) := ⟨fun h => by unfold putE; rw [h]; rfl, fun h => by unfold putE; rw [h]; rfl⟩
    obtain ⟨x, ex⟩ : ∃ x, putS A = x := ⟨_, rfl⟩
    obtain ⟨y, ey⟩ : ∃ x, putS B = x := ⟨_, rfl⟩
    obtain ⟨hd, eh⟩ : ∃ x, headS A = x := ⟨_, rfl⟩
    obtain ⟨eA, eeA⟩ : ∃ x, putE A = x := ⟨_, rfl⟩
    obtain ⟨eB, eeB⟩ : ∃ x, putE B = x := ⟨_, rfl⟩
    obtain ⟨rA, erA⟩ : ∃ x, rightF A = x := ⟨_, rfl⟩
    obtain ⟨rB, erB⟩ : ∃ x, rightF B = x := ⟨_, rfl⟩
    rw [ex, eeA] at cA
    rw [ey, eeB] at cB
    rw [eh, eeA] at cH
    rw [erA, ex] at cGA
    rw [erA, ex, eh] at hcutA
    rw [ex] at hlenA
    rw [erA, erB, ex, ey] at hsame
    rw [erA, eeA] at hEA
    rw [erB, eeB] at hEB
    have CA := Lib.hid cA; have CB := Lib.hid cB; have CH := Lib.hid cH; have CS := Lib.hid cS; have CM := Lib.hid cM; have CG := Lib.hid cG; have CGA := Lib.hid cGA; have HCA := Lib.hid hcutA; have HLA := Lib.hid hlenA; have HSA := Lib.hid hsame; have HEA := Lib.hid hEA; have HEB := Lib.hid hEB
    have HL2 := Lib.hid HL.out.2.2
    clear hcut H2 HFA HFB cA cB cH cS cM cG cGA hcutA hlenA hsame hEA hEB ex ey eh eeA eeB erA erB hvA hvB hkA hkB HK HO HE HL HLW HSL
    obtain ⟨HL, -⟩ : ∃ h : Hid (l2.length = 13 ∧ l3.length = 13), True := ⟨HL2, trivial⟩
    clear HL2
    go_upto_region 2 with fail
    refine wp_region_lit ?_
    refine load_v rfl _ _ rfl w.heap.size rfl HZ.out.one Tryd.underlying25 rfl (by rw [HL.out.1]; kernel_rfl) ?_
    go_wp2_with fail
    refine (CA.out _ HZ.out).mono ?_
    rintro e w2 ⟨rfl, hb⟩
    have HZ2 := Lib.hid (HZ.out.on hb)
    clear hb HZ CA
    go_upto_region 3 with fail
    refine wp_region_lit ?_
    refine load_v rfl _ _ rfl (w.heap.size + 1) rfl HZ2.out.two Tryd.underlying25 rfl (by rw [HL.out.2]; kernel_rfl) ?_
    go_wp2_with fail
    refine (CB.out _ HZ2.out).mono ?_
    rintro e w3 ⟨rfl, hb⟩
    have HZ := Lib.hid (HZ2.out.on hb)
    clear hb HZ2 CB
    go_upto_if 39 with fail
    go_cut [] (fun wx => TwoF w wx w.heap.size w.heap.size (w.heap.size + 1) l2 l3 a b A.keys B.keys)
    case first =>
      cases rA
      · obtain rfl := HEA.out.2 rfl
        clear HEA HEB HCA HLA HSA CGA CH CS CM CG
        go_wp2_with fail
        go_meet
        exact HZ.out
      · obtain rfl := HEA.out.1 rfl
        obtain ⟨hc1, hc2⟩ := HCA.out rfl
        have CG1 := Lib.hid (CGA.out rfl)
        have hsl := fun W => slice_to x hd hd.size hc1 hc2 W
        have hle : ¬ (x.size : Int) < (hd.size : Int) := by omega
        have HSL := Lib.hid hsl; have HLE := Lib.hid hle
        clear HEA HEB HCA HLA HSA CGA CS CG hc1 hc2 hsl hle
        go_upto_region 5 with fail
        refine wp_region_lit ?_
        iterate 1 (refine wpList_step (fun K hK => ?_); go_simp; refine hK _ _ ?_; clear hK K)
        refine wpList_step (fun K hK => ?_)
        go_simp
        refine (CG1.out _ HZ.out.fmt).mono ?_
        rintro e w4 ⟨a', c', rfl, hp, hb⟩
        have hZ4 := HZ.out.on hb
        have h13 : (frL A a' c').length = 13 := rfl
        have h1 := frL_one A a' c'
        have hv5 : frV A a' c' = .agg (frL A a' c').toArray := rfl
        have cM5 := fun W (h : TwoF w W w.heap.size w.heap.size (w.heap.size + 1) l2 l3 a b A.keys B.keys) hp => CM.out W a' c' h hp
        rw [hv5] at cM5
        obtain ⟨l5, e5⟩ : ∃ l, frL A a' c' = l := ⟨_, rfl⟩
        simp only [e5] at h13 h1 cM5 ⊢
        have HL5 := Lib.hid (And.intro h13 h1); have CM5 := Lib.hid cM5; have HZ4 := Lib.hid hZ4; have HP := Lib.hid hp
        clear h13 h1 cM5 hZ4 hp hb e5 hv5 HZ CM CG1
        refine hK _ _ ?_
        clear hK K
        iterate 4 (refine wpList_step (fun K hK => ?_); go_simp; refine hK _ _ ?_; clear hK K)
        change wpList _ _ _ _ _ (w4.alloc (.cells zeroL.toArray 25))
        have hx := BlkV.fresh w4 25 zeroL zeroL.toArray rfl _ rfl
        refine store_v rfl rfl _ _ _ rfl w4.heap.size rfl (l' := l5) rfl hx HL5.out.1 HL5.out.2 (by kernel_rfl) ?_
        have hx2 := hx.stored l5 HL5.out.1
        have hb2 := below_setCells (Nat.le_refl w4.heap.size) l5 0 _ ((Below.refl w4.heap.size w4).alloc (Nat.le_refl _) (.cells zeroL.toArray 25))
        have hZ5 := HZ4.out.on hb2
        have hP5 := HP.out.on hb2
        obtain ⟨D, eD⟩ : ∃ D, w4.heap.size = D := ⟨_, rfl⟩
        rw [eD] at hx2 hZ5 hP5 ⊢
        generalize World.setCells (World.alloc w4 _) _ _ _ = w5 at hx2 hZ5 hP5 ⊢
        have HX := Lib.hid hx2; have HZ5 := Lib.hid hZ5; have HP5 := Lib.hid hP5
        clear hx hx2 hb2 hZ5 hP5 eD HZ4 HP
        go_upto_region 6 with fail
        refine wp_region_lit ?_
        refine load_v rfl _ _ rfl w.heap.size rfl HZ5.out.one Tryd.underlying25 rfl (by rw [HL.out.1]; kernel_rfl) ?_
        refine wpList_step (fun K hK => ?_)
        go_simp
        refine (CH.out _ HZ5.out).mono ?_
        rintro e w6 ⟨rfl, hb⟩
        have HX6 := Lib.hid (HX.out.on hb); have HZ6 := Lib.hid (HZ5.out.on hb); have HP6 := Lib.hid (HP5.out.on hb)
        clear hb HX HZ5 HP5 CH
        refine hK _ _ ?_
        clear hK K
        iterate 5 (refine wpList_step (fun K hK => ?_); go_simp; refine hK _ _ ?_; clear hK K)
        refine wpList_nil ?_
        go_upto_region 7 with fail
        refine wp_region_lit ?_
        iterate 7 (refine wpList_step (fun K hK => ?_); go_simp; refine hK _ _ ?_; clear hK K)
        refine load_g rfl _ _ rfl D rfl HX6.out Tryd.underlying25 rfl (by rw [HL5.out.1]; kernel_rfl) ?_
        refine load_g rfl _ _ rfl w.heap.size rfl HZ6.out.one Tryd.underlying25 rfl (by rw [HL.out.1]; kernel_rfl) ?_
        refine wpList_step (fun K hK => ?_)
        go_simp
        refine (CM5.out _ HZ6.out HP6.out).mono ?_
        rintro e w7 ⟨rfl, hb⟩
        have HZ7 := Lib.hid (HZ6.out.on hb)
        have hle := HLE.out; have hsl := HSL.out
        clear hb HX6 HZ6 HP6 CM5
        refine hK _ _ ?_
        clear hK K
        iterate 17 (refine wpList_step (fun K hK => ?_); go_simp; refine hK _ _ ?_; clear hK K)
        refine wpList_nil ?_
        clear hle hsl
        go_wp2_with fail
        go_meet
        exact HZ7.out
    case rest =>
      obtain ⟨W2, rfl⟩ : ∃ V : World, V = wc := ⟨_, rfl⟩
      have HZ := Lib.hid hcut
      clear hcut HCA HLA CGA CH CM
      go_upto_region 9 with fail
      go_cut [91] (fun v wx => v = .bool false ∧ TwoF w wx w.heap.size w.heap.size (w.heap.size + 1) l2 l3 a b A.keys B.keys)
      case first =>
        clear CG
        cases rA
        · obtain rfl := HEA.out.2 rfl
          clear HEA HEB HSA CS
          go_wp2_with fail
          go_meet
          exact ⟨rfl, HZ.out⟩
        · obtain rfl := HEA.out.1 rfl
          cases rB
          · obtain rfl := HEB.out.2 rfl
            clear HEA HEB HSA CS
            go_wp2_with fail
            go_meet
            exact ⟨rfl, HZ.out⟩
          · obtain rfl := HEB.out.1 rfl
            have hs := HSA.out rfl rfl
            have CSX := CS.out
            obtain ⟨q, eq⟩ : ∃ q, decide (A = B) = q := ⟨_, rfl⟩
            rw [eq] at CSX
            have hxy : (x.toList == y.toList) = q := by
              rw [str_eq, ← eq]
              exact decide_eq_decide.2 hs
            have HXY := Lib.hid hxy
            have CS2 := Lib.hid CSX
            clear HEA HEB HSA CS CSX eq hs hxy
            refine wp_region_lit ?_
            iterate 9 (refine wpList_step (fun K hK => ?_); go_simp; refine hK _ _ ?_; clear hK K)
            refine wpList_step (fun K hK => ?_)
            go_simp
            have hxy := HXY.out
            rw [hxy]
            clear hxy HXY
            refine hK _ _ ?_
            clear hK K
            refine load_g rfl _ _ rfl w.heap.size rfl HZ.out.one Tryd.underlying25 rfl (by rw [HL.out.1]; kernel_rfl) ?_
            refine load_g rfl _ _ rfl (w.heap.size + 1) rfl HZ.out.two Tryd.underlying25 rfl (by rw [HL.out.2]; kernel_rfl) ?_
            refine wpList_step (fun K hK => ?_)
            go_simp
            refine (CS2.out _ HZ.out).mono ?_
            rintro e w7 ⟨rfl, hb⟩
            have HZ7 := Lib.hid (HZ.out.on hb)
            clear hb HZ CS2
            refine hK _ _ ?_
            clear hK K
            iterate 2 (refine wpList_step (fun K hK => ?_); go_simp; refine hK _ _ ?_; clear hK K)
            refine wpList_nil ?_
            go_wp2_with fail
            go_meet
            exact ⟨by cases q <;> rfl, HZ7.out⟩
      case rest =>
        obtain ⟨rfl, hcut⟩ := hcut
        obtain ⟨W3, rfl⟩ : ∃ V : World, V = wc := ⟨_, rfl⟩
        have HB := Lib.hid hcut.below; have HF := Lib.hid hcut.fmt
        have hI := fun h => gotF_right (s := bl k) h
        have hN := fun h => gotF_none (s := bl k) h
        have hE0 := fun h => gotE_some (o := getF (bl k)) h
        have hE4 := fun h => gotE_none (o := getF (bl k)) h
        have hkl := gotF_len (bl k)
        have hG := CG.out
        obtain ⟨F, eF⟩ : ∃ F, gotF (getF (bl k)) = F := ⟨_, rfl⟩
        obtain ⟨E, eE⟩ : ∃ E, gotE (getF (bl k)) = E := ⟨_, rfl⟩
        obtain ⟨is, eis⟩ : ∃ b, (getF (bl k)).isSome = b := ⟨_, rfl⟩
        rw [eE, eis] at hE0 hE4
        rw [eF, eis] at hI hN
        rw [eF] at hkl
        simp only [eF, eE] at hG
        have HG := Lib.hid hG; have HE := Lib.hid (And.intro hE0 hE4); have HKL := Lib.hid hkl; have HI := Lib.hid hI; have HN := Lib.hid hN
        clear hcut HZ CS CG HEA HEB HSA hG hE0 hE4 hkl hI hN eF eE eis HL HKS
        go_upto_region 11 with fail
        refine wp_region_lit ?_
        iterate 1 (refine wpList_step (fun K hK => ?_); go_simp; refine hK _ _ ?_; clear hK K)
        refine wpList_step (fun K hK => ?_)
        go_simp
        refine (HG.out _ HF.out).mono ?_
        rintro e w4 ⟨a', c', rfl, -, hp, hb⟩
        have hB4 := HB.out.trans (hb.mono HB.out.size)
        have hF4 := HF.out.on hb
        have h13 : (frL F a' c').length = 13 := rfl
        have h1 := frL_one F a' c'
        have hv5 : frV F a' c' = .agg (frL F a' c').toArray := rfl
        have cP : FrOk F → ∀ W, SSl W a' F.keys → FmtAt W → Calls Tryd.prog 7 #[frV F a' c'] W fun e w' => e = .returned (.tuple #[.string (putS F), .int .i64 (putE F)]) ∧ Below W.heap.size W w' := fun ho W hp hf => fPut_any F a' c' HKL.out ho W hp hf
        have cS0 : F = zeroFr → ∀ W, SSl W a' F.keys → Calls Tryd.prog 12 #[frV F a' c', .agg zeroL.toArray] W fun e w' => e = .returned (.bool true) ∧ Below W.heap.size W w' := fun e W hp => by
          have h := r8Same_any F zeroFr a' none c' 0 HKL.out (Nat.zero_le _) W hp (fun h => absurd h (Nat.lt_irrefl 0))
          rw [decide_eq_true e] at h
          exact h
        rw [hv5] at cP cS0
        rw [hv5]
        obtain ⟨l5, e5⟩ : ∃ l, frL F a' c' = l := ⟨_, rfl⟩
        rw [e5] at h13 h1 cP cS0 ⊢
        have HL5 := Lib.hid (And.intro h13 h1); have CP := Lib.hid cP; have CS0 := Lib.hid cS0; have HP := Lib.hid hp; have HB4 := Lib.hid hB4; have HF4 := Lib.hid hF4
        clear h13 h1 cP cS0 hp hb e5 hv5 hB4 hF4 HB HF HG HKL
        refine hK _ _ ?_
        clear hK K
        iterate 4 (refine wpList_step (fun K hK => ?_); go_simp; refine hK _ _ ?_; clear hK K)
        change wpList _ _ _ _ _ (w4.alloc (.cells zeroL.toArray 25))
        have hx := BlkV.fresh w4 25 zeroL zeroL.toArray rfl _ rfl
        refine store_v rfl rfl _ _ _ rfl w4.heap.size rfl (l' := l5) rfl hx HL5.out.1 HL5.out.2 (by kernel_rfl) ?_
        have hx2 := hx.stored l5 HL5.out.1
        have hb2 := below_setCells (Nat.le_refl w4.heap.size) l5 0 _ ((Below.refl w4.heap.size w4).alloc (Nat.le_refl _) (.cells zeroL.toArray 25))
        have hB5 := HB4.out.trans (hb2.mono HB4.out.size)
        have hF5 := HF4.out.on hb2
        have hP5 := HP.out.on hb2
        obtain ⟨D, eD⟩ : ∃ D, w4.heap.size = D := ⟨_, rfl⟩
        rw [eD] at hx2 hB5 hF5 hP5 ⊢
        generalize World.setCells (World.alloc w4 _) _ _ _ = w5 at hx2 hB5 hF5 hP5 ⊢
        have HX := Lib.hid hx2; have HB5 := Lib.hid hB5; have HF5 := Lib.hid hF5; have HP5 := Lib.hid hP5
        clear hx hx2 hb2 hB5 hF5 hP5 eD HB4 HF4 HP
        cases is
        · obtain rfl := HE.out.2 rfl
          have CS1 := Lib.hid (CS0.out (HN.out rfl))
          clear HE HN HI CS0 CP
          go_upto_region 13 with fail
          refine wp_region_lit ?_
          refine wpList_step (fun K hK => ?_)
          go_simp
          refine (alive8_any _ HF5.out).mono ?_
          rintro e w6 ⟨rfl, hb⟩
          have HX6 := Lib.hid (HX.out.on hb); have HB6 := Lib.hid (HB5.out.trans (hb.mono HB5.out.size)); have HP6 := Lib.hid (HP5.out.on hb)
          clear hb HX HB5 HP5 HF5
          refine hK _ _ ?_
          clear hK K
          iterate 1 (refine wpList_step (fun K hK => ?_); go_simp; refine hK _ _ ?_; clear hK K)
          refine load_g rfl _ _ rfl D rfl HX6.out Tryd.underlying25 rfl (by rw [HL5.out.1]; kernel_rfl) ?_
          refine build_w rfl 25 _ rfl (cells := zeroL.toArray) (by kernel_rfl) ?_
          refine wpList_step (fun K hK => ?_)
          go_simp
          refine (CS1.out _ HP6.out).mono ?_
          rintro e w7 ⟨rfl, hb⟩
          have HB7 := Lib.hid (HB6.out.trans (hb.mono HB6.out.size))
          clear hb HX6 HB6 HP6 CS1 HL5
          refine hK _ _ ?_
          clear hK K
          go_wp2_with fail
          go_ret
          exact ⟨rfl, HB7.out⟩
        · obtain rfl := HE.out.1 rfl
          obtain ⟨-, hr, ho, hpk⟩ := HI.out rfl
          have hk1 : putS F = k := by unfold putS; rw [hr, if_pos rfl, hpk, strL_bl]
          have hk2 : putE F = 0 := by unfold putE; rw [hr]; rfl
          have cP := CP.out ho
          rw [hk1, hk2] at cP
          have CP1 := Lib.hid cP
          clear HE HN HI CS0 CP hr ho hpk hk1 hk2 cP
          go_upto_region 14 with fail
          refine wp_region_lit ?_
          refine load_v rfl _ _ rfl D rfl HX.out Tryd.underlying25 rfl (by rw [HL5.out.1]; kernel_rfl) ?_
          refine wpList_step (fun K hK => ?_)
          go_simp
          refine (CP1.out _ HP5.out HF5.out).mono ?_
          rintro e w6 ⟨rfl, hb⟩
          have HB6 := Lib.hid (HB5.out.trans (hb.mono HB5.out.size)); have HF6 := Lib.hid (HF5.out.on hb)
          clear hb HX HB5 HP5 HF5 CP1 HL5
          refine hK _ _ ?_
          clear hK K
          go_wp2_with (go_at_call 13; refine (alive8_any _ HF6.out).mono ?_; rintro e w7 ⟨rfl, hb⟩; have HB7 := Lib.hid (HB6.out.trans (hb.mono HB6.out.size)); clear hb)
          go_ret
          exact ⟨rfl, HB7.out⟩
end Go.Proofs.YtollaaooinoafaaDoor