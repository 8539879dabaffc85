/- FramePuts: whether any frame may be, its bytes, its head, and which two are the same. -/
import Derived.Test.YtollaaooinoafaaDoorTp
import Derived.Deep.DeepCutAuto
namespace Go.Proofs.YtollaaooinoafaaDoor
open Go.RowKit Go.Sort
set_option maxRecDepth 100000
set_option maxHeartbeats 4000000 in
theorem framePuts_any (f g : Fr) (a b : Option Addr) (c d : Nat) (hlf : f.keys.length ≤ maxLen) (hlg : g.keys.length ≤ maxLen) (hcf : f.keys.length ≤ c) (hcg : g.keys.length ≤ d) (hof : FrOk f) (_hog : FrOk g) (hif : FrIn f) (hig : FrIn g) (w : World) (hpf : SSl w a f.keys) (hpg : SSl w b g.keys) (hF : FmtAt w) :
    Calls Tryd.prog 3 #[frV f a c, frV g b d] w fun e w' => e = .returned (.bool true) ∧ Below w.heap.size w w' := by
  obtain ⟨W, eW⟩ : ∃ W, (w.alloc (.cells (frL f a c).toArray 25)).alloc (.cells (frL g b d).toArray 25) = W := ⟨_, rfl⟩
  have hB : Below w.heap.size w W := by rw [← eW]; exact ((Below.refl _ _).alloc (Nat.le_refl _) _).alloc (by simp) _
  have h2 : TwoF w W w.heap.size w.heap.size (w.heap.size + 1) (frL f a c) (frL g b d) a b (f.keys.take 34) (g.keys.take 34) :=
    ⟨hB, Nat.le_refl _, Nat.lt_succ_self _, by rw [← eW]; exact (BlkV.fresh _ _ _ _ rfl _ rfl).alloc _, by rw [← eW]; exact BlkV.fresh _ _ _ _ rfl _ (by simp), (hpf.take 34).on hB, (hpg.take 34).on hB, hF.on hB⟩
  have hfa := few8_any f a c hlf hcf
  have hfb := few8_any g b d hlg hcg
  have hof' : FrOk (fewF f) := ⟨hof.frm, hof.dst, hof.id, hof.signed, hof.once, hof.prev, hof.num⟩
  have hl0 : (frL f a c).length = 13 ∧ (frL g b d).length = 13 ∧ (frL (fewF f) a c).length = 13 ∧ (frL (fewF g) b d).length = 13 := ⟨rfl, rfl, rfl, rfl⟩
  have h10 := And.intro (frL_one (fewF f) a c) (frL_one (fewF g) b d)
  have hk1 : (fewF f).keys.length ≤ maxLen ∧ (fewF g).keys.length ≤ maxLen := by
    rw [fewF_keys, fewF_keys, List.length_take, List.length_take]; omega
  have hkd : (-9223372036854775808 ≤ (fewF f).kind ∧ (fewF f).kind ≤ 9223372036854775807) ∧ (-9223372036854775808 ≤ (fewF g).kind ∧ (fewF g).kind ≤ 9223372036854775807) := ⟨hif.kind, hig.kind⟩
  rw [← fewF_keys f, ← fewF_keys g] at h2
  generalize hA : fewF f = A at *
  generalize hB : fewF g = B at *
  have e1 : frV f a c = .agg (frL f a c).toArray := rfl
  have e2 : frV g b d = .agg (frL g b d).toArray := rfl
  have e3 : frV A a c = .agg (frL A a c).toArray := rfl
  have e4 : frV B b d = .agg (frL B b d).toArray := rfl
  rw [e1, e3] at hfa
  rw [e2, e4] at hfb
  rw [e1, e2]
  obtain ⟨l0, k0⟩ : ∃ l, frL f a c = l := ⟨_, rfl⟩
  obtain ⟨l1, k1⟩ : ∃ l, frL g b d = l := ⟨_, rfl⟩
  obtain ⟨l2, k2⟩ : ∃ l, frL A a c = l := ⟨_, rfl⟩
  obtain ⟨l3, k3⟩ : ∃ l, frL B b d = l := ⟨_, rfl⟩
  rw [k0, k1] at eW h2 ⊢
  rw [k0, k1, k2, k3] at hl0
  rw [k0, k2] at hfa
  rw [k1, k3] at hfb
  rw [k2, k3] at h10
  have hLW : LowF w a b A.keys B.keys := ⟨by rw [← hA]; exact hpf.take 34, by rw [← hB]; exact hpg.take 34, hF⟩
  have HLW := Lib.hid hLW
  have HW := Lib.hid eW; have H2 := Lib.hid h2; have HFA := Lib.hid hfa; have HFB := Lib.hid hfb; have HO := Lib.hid hof'; have HL := Lib.hid hl0; have H1 := Lib.hid h10; have HK := Lib.hid (And.intro hk1 hkd); have HE := Lib.hid (And.intro k2 k3)
  clear eW h2 hfa hfb hof' hl0 h10 hk1 hkd k0 k1 k2 k3 e1 e2 e3 e4 hA hB hlf hlg hcf hcg hof _hog hif hig hpf hpg hF
  go_enter Tryd.func3, Tryd.ntmps3
  go_upto_region 1 with fail
  change Code.wp Tryd.prog _ _ _ ((w.alloc (.cells l0.toArray 25)).alloc (.cells l1.toArray 25))
  rw [HW.out]
  clear HW
  go_cut [] (fun wx => TwoF w wx w.heap.size w.heap.size (w.heap.size + 1) l2 l3 a b A.keys B.keys)
  · have HZ : Hid (TwoF w W.drew w.heap.size w.heap.size (w.heap.size + 1) l0 l1 a b A.keys B.keys) := Lib.hid (H2.out.on (Below.refl _ _).drew)
    refine wp_region_any (by kernel_rfl) ?_
    -- orders
    refine wpAny_all (rs := [0, 2]) (by kernel_rfl) (by decide) (List.forall_mem_cons.2 ⟨?_, List.forall_mem_cons.2 ⟨?_, List.forall_mem_nil _⟩⟩)
    · refine load_any rfl rfl 25 _ rfl w.heap.size rfl HZ.out.one Tryd.underlying25 rfl (by rw [HL.out.1]; kernel_rfl) ?_
      refine wpAny_all (rs := [1, 2]) (by kernel_rfl) (by decide) (List.forall_mem_cons.2 ⟨?_, List.forall_mem_cons.2 ⟨?_, List.forall_mem_nil _⟩⟩)
      · refine call_any (f := 6) (args := #[.agg l0.toArray]) rfl rfl (by kernel_rfl) (HFA.out _) ?_
        intro w1 hb
        have HZ1 := Lib.hid (HZ.out.on hb)
        clear hb
        refine wpAny_all (rs := [2]) (by kernel_rfl) (by decide) (List.forall_mem_cons.2 ⟨?_, List.forall_mem_nil _⟩)
        refine load_any rfl rfl 25 _ rfl (w.heap.size + 1) rfl HZ1.out.two Tryd.underlying25 rfl (by rw [HL.out.2.1]; kernel_rfl) ?_
        refine wpAny_all (rs := [3]) (by kernel_rfl) (by decide) (List.forall_mem_cons.2 ⟨?_, List.forall_mem_nil _⟩)
        refine call_any (f := 6) (args := #[.agg l1.toArray]) rfl rfl (by kernel_rfl) (HFB.out _) ?_
        intro w2 hb
        have HZ2 := Lib.hid (HZ1.out.on hb)
        clear hb
        refine wpAny_all (rs := [4]) (by kernel_rfl) (by decide) (List.forall_mem_cons.2 ⟨?_, List.forall_mem_nil _⟩)
        refine store_any rfl rfl rfl 25 _ _ rfl w.heap.size rfl (l' := l2) rfl HZ2.out.one (by rw [HL.out.1, HL.out.2.2.1]) H1.out.1 (by rw [HL.out.1]; kernel_rfl) ?_
        have HZ3 := Lib.hid (HZ2.out.put1 l2 (by rw [HL.out.1, HL.out.2.2.1]) HLW.out)
        generalize World.setCells w2 _ _ _ = w3 at HZ3 ⊢
        refine wpAny_all (rs := [5]) (by kernel_rfl) (by decide) (List.forall_mem_cons.2 ⟨?_, List.forall_mem_nil _⟩)
        refine store_any rfl rfl rfl 25 _ _ rfl (w.heap.size + 1) rfl (l' := l3) rfl HZ3.out.two (by rw [HL.out.2.1, HL.out.2.2.2]) H1.out.2 (by rw [HL.out.2.1]; kernel_rfl) ?_
        have HZ4 := Lib.hid (HZ3.out.put2 l3 (by rw [HL.out.2.1, HL.out.2.2.2]) HLW.out)
        generalize World.setCells w3 _ _ _ = w4 at HZ4 ⊢
        refine wpAny_done (by kernel_rfl) ?_ _
        go_wp2_with fail
        go_meet
        exact HZ4.out
      · refine load_any rfl rfl 25 _ rfl (w.heap.size + 1) rfl HZ.out.two Tryd.underlying25 rfl (by rw [HL.out.2.1]; kernel_rfl) ?_
        refine wpAny_all (rs := [1]) (by kernel_rfl) (by decide) (List.forall_mem_cons.2 ⟨?_, List.forall_mem_nil _⟩)
        refine call_any (f := 6) (args := #[.agg l0.toArray]) rfl rfl (by kernel_rfl) (HFA.out _) ?_
        intro w1 hb
        have HZ1 := Lib.hid (HZ.out.on hb)
        clear hb
        refine wpAny_all (rs := [3]) (by kernel_rfl) (by decide) (List.forall_mem_cons.2 ⟨?_, List.forall_mem_nil _⟩)
        refine call_any (f := 6) (args := #[.agg l1.toArray]) rfl rfl (by kernel_rfl) (HFB.out _) ?_
        intro w2 hb
        have HZ2 := Lib.hid (HZ1.out.on hb)
        clear hb
        refine wpAny_all (rs := [4]) (by kernel_rfl) (by decide) (List.forall_mem_cons.2 ⟨?_, List.forall_mem_nil _⟩)
        refine store_any rfl rfl rfl 25 _ _ rfl w.heap.size rfl (l' := l2) rfl HZ2.out.one (by rw [HL.out.1, HL.out.2.2.1]) H1.out.1 (by rw [HL.out.1]; kernel_rfl) ?_
        have HZ3 := Lib.hid (HZ2.out.put1 l2 (by rw [HL.out.1, HL.out.2.2.1]) HLW.out)
        generalize World.setCells w2 _ _ _ = w3 at HZ3 ⊢
        refine wpAny_all (rs := [5]) (by kernel_rfl) (by decide) (List.forall_mem_cons.2 ⟨?_, List.forall_mem_nil _⟩)
        refine store_any rfl rfl rfl 25 _ _ rfl (w.heap.size + 1) rfl (l' := l3) rfl HZ3.out.two (by rw [HL.out.2.1, HL.out.2.2.2]) H1.out.2 (by rw [HL.out.2.1]; kernel_rfl) ?_
        have HZ4 := Lib.hid (HZ3.out.put2 l3 (by rw [HL.out.2.1, HL.out.2.2.2]) HLW.out)
        generalize World.setCells w3 _ _ _ = w4 at HZ4 ⊢
        refine wpAny_done (by kernel_rfl) ?_ _
        go_wp2_with fail
        go_meet
        exact HZ4.out
    · refine load_any rfl rfl 25 _ rfl (w.heap.size + 1) rfl HZ.out.two Tryd.underlying25 rfl (by rw [HL.out.2.1]; kernel_rfl) ?_
      refine wpAny_all (rs := [0]) (by kernel_rfl) (by decide) (List.forall_mem_cons.2 ⟨?_, List.forall_mem_nil _⟩)
      refine load_any rfl rfl 25 _ rfl w.heap.size rfl HZ.out.one Tryd.underlying25 rfl (by rw [HL.out.1]; kernel_rfl) ?_
      refine wpAny_all (rs := [1]) (by kernel_rfl) (by decide) (List.forall_mem_cons.2 ⟨?_, List.forall_mem_nil _⟩)
      refine call_any (f := 6) (args := #[.agg l0.toArray]) rfl rfl (by kernel_rfl) (HFA.out _) ?_
      intro w1 hb
      have HZ1 := Lib.hid (HZ.out.on hb)
      clear hb
      refine wpAny_all (rs := [3]) (by kernel_rfl) (by decide) (List.forall_mem_cons.2 ⟨?_, List.forall_mem_nil _⟩)
      refine call_any (f := 6) (args := #[.agg l1.toArray]) rfl rfl (by kernel_rfl) (HFB.out _) ?_
      intro w2 hb
      have HZ2 := Lib.hid (HZ1.out.on hb)
      clear hb
      refine wpAny_all (rs := [4]) (by kernel_rfl) (by decide) (List.forall_mem_cons.2 ⟨?_, List.forall_mem_nil _⟩)
      refine store_any rfl rfl rfl 25 _ _ rfl w.heap.size rfl (l' := l2) rfl HZ2.out.one (by rw [HL.out.1, HL.out.2.2.1]) H1.out.1 (by rw [HL.out.1]; kernel_rfl) ?_
      have HZ3 := Lib.hid (HZ2.out.put1 l2 (by rw [HL.out.1, HL.out.2.2.1]) HLW.out)
      generalize World.setCells w2 _ _ _ = w3 at HZ3 ⊢
      refine wpAny_all (rs := [5]) (by kernel_rfl) (by decide) (List.forall_mem_cons.2 ⟨?_, List.forall_mem_nil _⟩)
      refine store_any rfl rfl rfl 25 _ _ rfl (w.heap.size + 1) rfl (l' := l3) rfl HZ3.out.two (by rw [HL.out.2.1, HL.out.2.2.2]) H1.out.2 (by rw [HL.out.2.1]; kernel_rfl) ?_
      have HZ4 := Lib.hid (HZ3.out.put2 l3 (by rw [HL.out.2.1, HL.out.2.2.2]) HLW.out)
      generalize World.setCells w3 _ _ _ = w4 at HZ4 ⊢
      refine wpAny_done (by kernel_rfl) ?_ _
      go_wp2_with fail
      go_meet
      exact HZ4.out
    -- end of orders
  · obtain ⟨W1, rfl⟩ : ∃ V : World, V = wc := ⟨_, rfl⟩
    have HZ := Lib.hid hcut
    obtain ⟨⟨hkA, hkB⟩, hdA, hdB⟩ := HK.out
    have hvA : frV A a c = .agg l2.toArray := by rw [← HE.out.1]; rfl
    have hvB : frV B b d = .agg l3.toArray := by rw [← HE.out.2]; rfl
    have cP := fun W (h : TwoF w W w.heap.size w.heap.size (w.heap.size + 1) l2 l3 a b A.keys B.keys) => fPut_any A a c hkA HO.out W h.ka h.fmt
    have cH := fun W (h : TwoF w W w.heap.size w.heap.size (w.heap.size + 1) l2 l3 a b A.keys B.keys) => fHead_any A a c hkA HO.out W h.ka h.fmt
    have cR := fun W (h : TwoF w W w.heap.size w.heap.size (w.heap.size + 1) l2 l3 a b A.keys B.keys) => fRight_any A a c hkA W h.ka h.fmt
    have cR8 := fun W (h : TwoF w W w.heap.size w.heap.size (w.heap.size + 1) l2 l3 a b A.keys B.keys) => r8Right_any A a c hkA W h.ka
    have cL := fun W (h : TwoF w W w.heap.size w.heap.size (w.heap.size + 1) l2 l3 a b A.keys B.keys) => fLike_any A B a b c d hkA hkB hdA hdB W h.ka h.kb
    have cL2 := fun W (h : TwoF w W w.heap.size w.heap.size (w.heap.size + 1) l2 l3 a b A.keys B.keys) => fLike_any A A a a c c hkA hkA hdA hdA W h.ka h.ka
    have cS := fun W (h : TwoF w W w.heap.size w.heap.size (w.heap.size + 1) l2 l3 a b A.keys B.keys) => r8Same_any A B a b c d hkA hkB W h.ka h.kb
    have cV := fun W (h : TwoF w W w.heap.size w.heap.size (w.heap.size + 1) l2 l3 a b A.keys B.keys) => alive8_any W h.fmt
    have cP8 := fun (hr : rightF A = true) W (h : TwoF w W w.heap.size w.heap.size (w.heap.size + 1) l2 l3 a b A.keys B.keys) => r8Put_any A a c hr HO.out W h.ka
    have cH8 := fun (hr : rightF A = true) W (h : TwoF w W w.heap.size w.heap.size (w.heap.size + 1) l2 l3 a b A.keys B.keys) => r8Head_any A a c (right_sz A hr) HO.out W
    rw [hvA] at cP cH cR cR8 cL cL2 cS cP8 cH8
    rw [hvB] at cL cS
    rw [decide_eq_true (rfl : A = A)] at cL2
    have hno : rightF A = false → putS A = ⟨#[]⟩ ∧ headS A = ⟨#[]⟩ ∧ putE A = 1 := fun h => ⟨by unfold putS; rw [h]; rfl, by unfold headS; rw [h]; rfl, by unfold putE; rw [h]; rfl⟩
    have hyes : rightF A = true → putS A = strL (putF A) ∧ headS A = strL (headF A) ∧ putE A = 0 := fun h => ⟨by unfold putS; rw [h]; rfl, by unfold headS; rw [h]; rfl, by unfold putE; rw [h]; rfl⟩
    obtain ⟨pS, epS⟩ : ∃ x, putS A = x := ⟨_, rfl⟩
    obtain ⟨hS, ehS⟩ : ∃ x, headS A = x := ⟨_, rfl⟩
    obtain ⟨pE, epE⟩ : ∃ x, putE A = x := ⟨_, rfl⟩
    obtain ⟨r, er⟩ : ∃ x, rightF A = x := ⟨_, rfl⟩
    obtain ⟨q, eq⟩ : ∃ x, decide (A = B) = x := ⟨_, rfl⟩
    obtain ⟨y8, ey8⟩ : ∃ x, strL (putF A) = x := ⟨_, rfl⟩
    obtain ⟨z8, ez8⟩ : ∃ x, strL (headF A) = x := ⟨_, rfl⟩
    rw [epS, epE] at cP
    rw [ehS, epE] at cH
    rw [er] at cR cR8
    rw [eq] at cL cS
    rw [epS, ehS, epE, er] at hno
    rw [epS, ehS, epE, er, ey8, ez8] at hyes
    rw [er, ey8] at cP8
    rw [er, ez8] at cH8
    have CP := Lib.hid cP; have CH := Lib.hid cH; have CR := Lib.hid cR; have CR8 := Lib.hid cR8; have CL := Lib.hid cL; have CL2 := Lib.hid cL2; have CS := Lib.hid cS; have CV := Lib.hid cV; have CP8 := Lib.hid cP8; have CH8 := Lib.hid cH8; have HN := Lib.hid hno; have HY := Lib.hid hyes
    have HL2 := Lib.hid HL.out.2.2
    clear hcut H2 HFA HFB HLW cP cH cR cR8 cL cL2 cS cV cP8 cH8 hno hyes epS ehS epE er eq ey8 ez8 hvA hvB hkA hkB hdA hdB HK HO HE H1 HL
    obtain ⟨HL, -⟩ : ∃ h : Hid (l2.length = 13 ∧ l3.length = 13), True := ⟨HL2, trivial⟩
    clear HL2
    go_upto_region 2 with fail
    refine wp_region_lit ?_
    refine load_v rfl _ _ rfl w.heap.size rfl HZ.out.one Tryd.underlying25 rfl (by rw [HL.out.1]; kernel_rfl) ?_
    go_wp2_with fail
    refine (CP.out _ HZ.out).mono ?_
    rintro e w2 ⟨rfl, hb⟩
    have HZ2 := Lib.hid (HZ.out.on hb)
    clear hb HZ
    go_upto_region 3 with fail
    refine wp_region_lit ?_
    refine load_v rfl _ _ rfl w.heap.size rfl HZ2.out.one Tryd.underlying25 rfl (by rw [HL.out.1]; kernel_rfl) ?_
    go_wp2_with fail
    refine (CH.out _ HZ2.out).mono ?_
    rintro e w3 ⟨rfl, hb⟩
    have HZ := Lib.hid (HZ2.out.on hb)
    clear hb HZ2
    go_upto_region 4 with fail
    refine wp_region_quiet_below (by kernel_rfl) (by kernel_rfl) ?_
    refine load_q rfl 25 _ rfl w.heap.size rfl (fun W' h => by obtain ⟨p, rfl⟩ := h; exact HZ.out.one.on (below_regrown _ _ _)) Tryd.underlying25 rfl (by rw [HL.out.1]; kernel_rfl) ?_
    quiet_step (first | (go_at_call 9; exact Calls.regrown_of (CR.out _ (HZ.out.on (below_regrown _ _ _)))))
    refine load_q rfl 25 _ rfl w.heap.size rfl (fun W' h => by obtain ⟨p, rfl⟩ := h; exact HZ.out.one.on (below_regrown _ _ _)) Tryd.underlying25 rfl (by rw [HL.out.1]; kernel_rfl) ?_
    quiet_step (first | (go_at_call 10; exact Calls.regrown_of (CR8.out _ (HZ.out.on (below_regrown _ _ _)))))
    quiet_step (fail)
    quiet_step (fail)
    refine load_q rfl 25 _ rfl w.heap.size rfl (fun W' h => by obtain ⟨p, rfl⟩ := h; exact HZ.out.one.on (below_regrown _ _ _)) Tryd.underlying25 rfl (by rw [HL.out.1]; kernel_rfl) ?_
    refine load_q rfl 25 _ rfl (w.heap.size + 1) rfl (fun W' h => by obtain ⟨p, rfl⟩ := h; exact HZ.out.two.on (below_regrown _ _ _)) Tryd.underlying25 rfl (by rw [HL.out.2]; kernel_rfl) ?_
    quiet_step (first | (go_at_call 11; exact Calls.regrown_of (CL.out _ (HZ.out.on (below_regrown _ _ _)))))
    refine load_q rfl 25 _ rfl w.heap.size rfl (fun W' h => by obtain ⟨p, rfl⟩ := h; exact HZ.out.one.on (below_regrown _ _ _)) Tryd.underlying25 rfl (by rw [HL.out.1]; kernel_rfl) ?_
    refine load_q rfl 25 _ rfl (w.heap.size + 1) rfl (fun W' h => by obtain ⟨p, rfl⟩ := h; exact HZ.out.two.on (below_regrown _ _ _)) Tryd.underlying25 rfl (by rw [HL.out.2]; kernel_rfl) ?_
    quiet_step (first | (go_at_call 12; exact Calls.regrown_of (CS.out _ (HZ.out.on (below_regrown _ _ _)))))
    quiet_step (fail)
    quiet_step (fail)
    quiet_step (fail)
    refine load_q rfl 25 _ rfl w.heap.size rfl (fun W' h => by obtain ⟨p, rfl⟩ := h; exact HZ.out.one.on (below_regrown _ _ _)) Tryd.underlying25 rfl (by rw [HL.out.1]; kernel_rfl) ?_
    refine load_q rfl 25 _ rfl w.heap.size rfl (fun W' h => by obtain ⟨p, rfl⟩ := h; exact HZ.out.one.on (below_regrown _ _ _)) Tryd.underlying25 rfl (by rw [HL.out.1]; kernel_rfl) ?_
    quiet_step (first | (go_at_call 11; exact Calls.regrown_of (CL2.out _ (HZ.out.on (below_regrown _ _ _)))))
    quiet_step (fail)
    quiet_step (fail)
    quiet_step (fail)
    quiet_step (first | (go_at_call 13; exact Calls.regrown_of (CV.out _ (HZ.out.on (below_regrown _ _ _)))))
    quiet_step (fail)
    quiet_step (fail)
    refine wpQuiet_nil ?_
    intro _ hw'
    obtain ⟨⟨dq, osq⟩, hw''⟩ := hw'
    subst hw''
    have HZ2 := Lib.hid (HZ.out.on (below_regrown w3 dq osq))
    clear HZ CR CL CL2 CS CV CP CH
    generalize grow (redrawn w3 dq) osq = w4 at HZ2 ⊢
    go_upto_region 6 with fail
    refine wp_region_lit ?_
    refine load_v rfl _ _ rfl w.heap.size rfl HZ2.out.one Tryd.underlying25 rfl (by rw [HL.out.1]; kernel_rfl) ?_
    go_wp2_with fail
    refine (CR8.out _ HZ2.out).mono ?_
    rintro e w5 ⟨rfl, hb⟩
    have HZ := Lib.hid (HZ2.out.on hb)
    clear hb HZ2 CR8
    cases r
    · obtain ⟨rfl, rfl, rfl⟩ := HN.out rfl
      have HB := Lib.hid HZ.out.below
      clear HN HY CP8 CH8 HZ
      go_wp2_with fail
      go_ret
      exact ⟨by kernel_rfl, HB.out⟩
    · obtain ⟨rfl, rfl, rfl⟩ := HY.out rfl
      have CP := Lib.hid (CP8.out rfl)
      have CH := Lib.hid (CH8.out rfl)
      clear HN HY CP8 CH8
      go_upto_region 8 with fail
      refine wp_region_lit ?_
      iterate 8 (refine wpList_step (fun K hK => ?_); go_simp; refine hK _ _ ?_; clear hK K)
      refine load_g rfl _ _ rfl w.heap.size rfl HZ.out.one Tryd.underlying25 rfl (by rw [HL.out.1]; kernel_rfl) ?_
      refine wpList_step (fun K hK => ?_)
      go_simp
      refine (CP.out _ HZ.out).mono ?_
      rintro e w6 ⟨rfl, hb⟩
      have HZ6 := Lib.hid (HZ.out.on hb)
      clear hb HZ
      refine hK _ _ ?_
      clear hK K
      iterate 4 (refine wpList_step (fun K hK => ?_); go_simp; refine hK _ _ ?_; clear hK K)
      refine load_g rfl _ _ rfl w.heap.size rfl HZ6.out.one Tryd.underlying25 rfl (by rw [HL.out.1]; kernel_rfl) ?_
      refine wpList_step (fun K hK => ?_)
      go_simp
      refine (CH.out _ HZ6.out).mono ?_
      rintro e w6 ⟨rfl, hb⟩
      have HZ := Lib.hid (HZ6.out.on hb)
      clear hb HZ6
      refine hK _ _ ?_
      clear hK K
      iterate 3 (refine wpList_step (fun K hK => ?_); go_simp; refine hK _ _ ?_; clear hK K)
      refine wpList_nil ?_
      have HB := Lib.hid HZ.out.below
      clear HZ CP CH
      go_wp2_with fail
      go_ret
      exact ⟨rfl, HB.out⟩
end Go.Proofs.YtollaaooinoafaaDoor