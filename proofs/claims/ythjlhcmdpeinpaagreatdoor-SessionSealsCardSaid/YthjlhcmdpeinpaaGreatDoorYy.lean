/- SessionSeals: any session behind any text, and its frame, are as the document says, or refused. -/
import Derived.Test.YthjlhcmdpeinpaaGreatDoorBRg5
import Derived.Test.YthjlhcmdpeinpaaGreatDoorYw
import Derived.Test.YthjlhcmdpeinpaaGreatDoorYe
import Derived.Test.YthjlhcmdpeinpaaGreatDoorBg7
namespace Go.Proofs.YthjlhcmdpeinpaaGreatDoor
open Go.RowKit Go.Sort
set_option maxRecDepth 100000
theorem sealE_keys {s : Se} {f : Fr} {x : ByteArray} (h : sealE s f x = 0) : f.keys = [] := by
  unfold sealE at h
  by_cases hc : rightS s ∧ rightF (probeF f) = true
  · exact probe_keys hc.2
  · rw [if_pos hc] at h; cases h
theorem load_gO {P : Program} {ops : Array Oper} {Q : Exit → Act → World → Prop} {rest : List Oper} {o : Oper} {a : Act} {w : World} (hw : Region.wanted o (yielded ops a.tmps) = true) (T : TypeId) (x : Operand) (ho : o.op = .load T x)
    (B off : Nat) (hx : a.eval x = .pointer (some ⟨B, off, none⟩)) {l : List Value} (hb : w.rangeAt B off l) {d : TypeDesc} (hu : P.underlying T = some d) (hd : d.isRow = true) (hs : (P.info? T).map (·.size) = some l.length)
    (h : wpList P ops Q rest (a.put o.dst (.agg l.toArray)) w) : wpList P ops Q (o :: rest) a w :=
  wpList_step fun K hK => by
    rw [if_pos hw]
    exact wp_load_mid T x ho B off hx l d hb hu hd hs (hK _ _ h)
theorem dL_left {w : World} {R : Nat} {t : TypeId} {s : Se} {a : Option Addr} {c : Nat} {b : Option Addr} {d : Nat} {f : Fr} {fa : Option Addr} {fc : Nat} {k : Int} (h : BlkV w R t (dL s a c b d f fa fc k)) : w.rangeAt R 0 (seL s a c b d) := by
  intro j v hv
  rw [Nat.zero_add]
  refine h.cell j v ?_
  unfold dL
  rw [List.append_assoc, List.getElem?_append_left (List.getElem?_eq_some_iff.1 hv).1]
  exact hv
theorem dL_mid {w : World} {R : Nat} {t : TypeId} {s : Se} {a : Option Addr} {c : Nat} {b : Option Addr} {d : Nat} {f : Fr} {fa : Option Addr} {fc : Nat} {k : Int} (h : BlkV w R t (dL s a c b d f fa fc k)) : w.rangeAt R 10 (frL f fa fc) := by
  intro j v hv
  refine h.cell (10 + j) v ?_
  unfold dL
  rw [List.append_assoc, List.getElem?_append_right (by rw [seL_length]; omega), seL_length, show 10 + j - 10 = j by omega, List.getElem?_append_left (List.getElem?_eq_some_iff.1 hv).1]
  exact hv
/-- what the reference told, in a box of its own -/
def DRel (Y : World) (dl : List Value) (v : Value) (wx : World) : Prop := ∃ R : Nat, v = .pointer (some ⟨R, 0, none⟩) ∧ BlkV wx R 48 dl ∧ Below Y.heap.size Y wx
set_option maxHeartbeats 8000000 in
theorem seals_any (s : Se) (a : Option Addr) (c : Nat) (b : Option Addr) (d : Nat) (hk : s.kept.length ≤ maxLen) (hkc : s.kept.length ≤ c) (hu : s.used.length ≤ maxLen) (hud : s.used.length ≤ d)
    (f : Fr) (fa : Option Addr) (fc : Nat) (hl : f.keys.length ≤ maxLen) (hlc : f.keys.length ≤ fc) (hok : FrOk f) (x : ByteArray) (_hx : x.size ≤ maxLen) (w : World) (hV : Vr w) (hs : SeAt w s a b) (hf : SSl w fa f.keys) :
    Calls Tryz.prog 4 #[seV s a c b d, frV f fa fc, .string x] w fun e w' => e = .returned (.bool true) ∧ Below w.heap.size w w' := by
  obtain ⟨W0, eW0⟩ : ∃ W0, w.alloc (.cells (seL s a c b d).toArray 26) = W0 := ⟨_, rfl⟩
  obtain ⟨W, eW⟩ : ∃ W, W0.alloc (.cells (frL f fa fc).toArray 43) = W := ⟨_, rfl⟩
  have z0 : W0.heap.size = w.heap.size + 1 := by rw [← eW0]; simp
  have hb0 : Below w.heap.size w W0 := by rw [← eW0]; exact (Below.refl _ _).alloc (Nat.le_refl _) _
  have hbW : Below w.heap.size w W := by rw [← eW]; exact hb0.alloc hb0.size _
  have h1 : TwoY w w.heap.size (seL s a c b d) (frL f fa fc) W := ⟨hbW, Nat.le_refl _, by rw [← eW, ← eW0]; exact (BlkV.fresh _ _ _ _ rfl _ rfl).alloc _, by rw [← eW]; exact BlkV.fresh _ _ _ _ rfl _ z0.symm⟩
  have hfw := fun V => fewY_any s a c b d hk hkc hu hud V
  have hsh := fun V => shortY_any f fa fc hl hlc V
  have es : seV s a c b d = .agg (seL s a c b d).toArray := rfl
  have es2 : seV (fewS s) a c b d = .agg (seL (fewS s) a c b d).toArray := rfl
  have ef : frV f fa fc = .agg (frL f fa fc).toArray := rfl
  have ef2 : frV (shortF f) fa fc = .agg (frL (shortF f) fa fc).toArray := rfl
  rw [es, es2] at hfw
  rw [ef, ef2] at hsh
  rw [es, ef]
  obtain ⟨m, em⟩ : ∃ m : Nat, min (x.size : Int) 1000 = (m : Int) := ⟨min x.size 1000, by omega⟩
  have h1m : (m : Int) ≤ (x.size : Int) := by omega
  have hxm : (x.extract 0 m).size ≤ 1000 := by rw [ByteArray.size_extract]; omega
  have hSk : (fewS s).kept.length ≤ 22 ∧ (fewS s).kept.length ≤ c := by show (s.kept.take 22).length ≤ 22 ∧ (s.kept.take 22).length ≤ c; rw [List.length_take]; omega
  have hSu : (fewS s).used.length ≤ 42 ∧ (fewS s).used.length ≤ d := by show (s.used.take 42).length ≤ 42 ∧ (s.used.take 42).length ≤ d; rw [List.length_take]; omega
  have hFk : (shortF f).keys.length ≤ 34 := by show (f.keys.take 34).length ≤ 34; rw [List.length_take]; omega
  have hsa : SeAt w (fewS s) a b := ⟨hs.kept.take 22, hs.used.take 42⟩
  have hfa : SSl w fa (shortF f).keys := hf.take 34
  have hok2 : FrOk (shortF f) := ⟨hok.frm, hok.dst, hok.id, hok.signed, hok.once, hok.prev, hok.num⟩
  have H1 := Lib.hid h1; have HE := Lib.hid (And.intro eW0 eW); have HFW := Lib.hid hfw; have HSH := Lib.hid hsh
  have HX := Lib.hid (And.intro hxm (And.intro hSk (And.intro hSu (And.intro hFk hok2)))); have HSA := Lib.hid (And.intro hsa hfa); have HV := Lib.hid hV
  clear h1 eW0 eW hb0 hbW z0 hfw hsh es es2 ef ef2 hxm hSk hSu hFk hsa hfa hok2 hk hkc hu hud hl hlc hok _hx hV hs hf
  go_enter Tryz.func4, Tryz.ntmps4
  go_upto_region 1 with fail
  generalize hG : World.alloc (World.alloc w _) _ = G
  obtain rfl : W = G := by rw [← hG, ← HE.out.2, ← HE.out.1]
  clear hG HE
  go_cut [2] (SealsIn w (seL (fewS s) a c b d) (frL (shortF f) fa fc) (x.extract 0 m))
  case first =>
    have h1 := H1.out.on (Below.refl _ _).drew
    refine wp_region_any (by kernel_rfl) ?_
    refine wpAny_take (i := 4) (v := .string x) rfl (by kernel_rfl) (by kernel_rfl) (by kernel_rfl) (fun _ _ _ h => h) (.inl ⟨rfl, fun W => by first | (go_simp; done) | kernel_rfl⟩) ?_
    try simp only [Act.put, List.getElem_toArray, List.getElem_cons_zero, List.getElem_cons_succ, List.setIfInBounds_toArray, List.set_cons_zero, List.set_cons_succ]
    refine wpAny_take (i := 5) (v := .string x) rfl (by kernel_rfl) (by kernel_rfl) (by kernel_rfl) (fun _ _ _ h => h) (.inl ⟨rfl, fun W => by first | (go_simp; done) | kernel_rfl⟩) ?_
    try simp only [Act.put, List.getElem_toArray, List.getElem_cons_zero, List.getElem_cons_succ, List.setIfInBounds_toArray, List.set_cons_zero, List.set_cons_succ]
    refine wpAny_take (i := 6) (v := .int .i64 (x.size : Int)) rfl (by kernel_rfl) (by kernel_rfl) (by kernel_rfl) (fun _ _ _ h => h) (.inl ⟨rfl, fun W => by first | (go_simp; done) | kernel_rfl⟩) ?_
    try simp only [Act.put, List.getElem_toArray, List.getElem_cons_zero, List.getElem_cons_succ, List.setIfInBounds_toArray, List.set_cons_zero, List.set_cons_succ]
    refine wpAny_take (i := 7) (v := .int .i64 (m : Int)) rfl (by kernel_rfl) (by kernel_rfl) (by kernel_rfl) (fun _ _ _ h => h) (.inl ⟨rfl, fun W => by first | (go_simp; done) | kernel_rfl⟩) ?_
    try simp only [Act.put, List.getElem_toArray, List.getElem_cons_zero, List.getElem_cons_succ, List.setIfInBounds_toArray, List.set_cons_zero, List.set_cons_succ]
    refine wpAny_take (i := 8) (v := .string (x.extract 0 m)) rfl (by kernel_rfl) (by kernel_rfl) (by kernel_rfl) (fun _ _ _ h => h) (.inl ⟨rfl, fun W => by first | (go_simp; done) | kernel_rfl⟩) ?_
    try simp only [Act.put, List.getElem_toArray, List.getElem_cons_zero, List.getElem_cons_succ, List.setIfInBounds_toArray, List.set_cons_zero, List.set_cons_succ]
    refine wpAny_all (rs := [0, 2]) (by kernel_rfl) (by decide) (List.forall_mem_cons.2 ⟨?_, List.forall_mem_cons.2 ⟨?_, List.forall_mem_nil _⟩⟩)
    · refine load_anyY rfl rfl 26 _ rfl w.heap.size rfl h1.one Tryz.underlying26 rfl (by kernel_rfl) ?_
      try simp only [Act.put, List.getElem_toArray, List.getElem_cons_zero, List.setIfInBounds_toArray, List.set_cons_zero, List.set_cons_succ]
      refine wpAny_all (rs := [1, 2]) (by kernel_rfl) (by decide) (List.forall_mem_cons.2 ⟨?_, List.forall_mem_cons.2 ⟨?_, List.forall_mem_nil _⟩⟩)
      · refine callv_any (f := 7) (args := #[.agg (seL s a c b d).toArray]) rfl rfl (by kernel_rfl) (HFW.out _) ?_
        intro w2 hb
        try simp only [Act.put, List.getElem_toArray, List.getElem_cons_zero, List.getElem_cons_succ, List.setIfInBounds_toArray, List.set_cons_zero, List.set_cons_succ]
        have h2 := h1.on hb
        clear hb
        refine wpAny_all (rs := [2]) (by kernel_rfl) (by decide) (List.forall_mem_cons.2 ⟨?_, List.forall_mem_nil _⟩)
        refine load_anyY rfl rfl 43 _ rfl (w.heap.size + 1) rfl h2.two Tryz.underlying43 rfl (by kernel_rfl) ?_
        try simp only [Act.put, List.getElem_toArray, List.getElem_cons_zero, List.getElem_cons_succ, List.setIfInBounds_toArray, List.set_cons_zero, List.set_cons_succ]
        refine wpAny_all (rs := [3]) (by kernel_rfl) (by decide) (List.forall_mem_cons.2 ⟨?_, List.forall_mem_nil _⟩)
        refine callv_any (f := 17) (args := #[.agg (frL f fa fc).toArray]) rfl rfl (by kernel_rfl) (HSH.out _) ?_
        intro w3 hb
        try simp only [Act.put, List.getElem_toArray, List.getElem_cons_zero, List.getElem_cons_succ, List.setIfInBounds_toArray, List.set_cons_zero, List.set_cons_succ]
        have h3 := h2.on hb
        clear hb
        refine wpAny_all (rs := [9]) (by kernel_rfl) (by decide) (List.forall_mem_cons.2 ⟨?_, List.forall_mem_nil _⟩)
        refine store_anyY rfl rfl rfl 26 _ _ rfl w.heap.size rfl (l' := seL (fewS s) a c b d) rfl h3.one rfl (seL_one _ _ _ _ _) (by kernel_rfl) ?_
        try simp only [Act.put, List.getElem_toArray, List.getElem_cons_zero, List.getElem_cons_succ, List.setIfInBounds_toArray, List.set_cons_zero, List.set_cons_succ]
        have h4 := h3.put1 (seL (fewS s) a c b d) rfl
        refine wpAny_all (rs := [10]) (by kernel_rfl) (by decide) (List.forall_mem_cons.2 ⟨?_, List.forall_mem_nil _⟩)
        refine store_anyY rfl rfl rfl 43 _ _ rfl (w.heap.size + 1) rfl (l' := frL (shortF f) fa fc) rfl h4.two rfl (frL_oneY _ _ _) (by kernel_rfl) ?_
        try simp only [Act.put, List.getElem_toArray, List.getElem_cons_zero, List.getElem_cons_succ, List.setIfInBounds_toArray, List.set_cons_zero, List.set_cons_succ]
        have h5 := h4.put2 (frL (shortF f) fa fc) rfl
        refine wpAny_all (rs := [11]) (by kernel_rfl) (by decide) (List.forall_mem_cons.2 ⟨?_, List.forall_mem_nil _⟩)
        refine val_any rfl rfl (v := .string (x.extract 0 m)) (w' := (w3.setCells w.heap.size 0 (seL (fewS s) a c b d)).setCells (w.heap.size + 1) 0 (frL (shortF f) fa fc)) (by kernel_rfl) ?_
        try simp only [Act.put, List.getElem_toArray, List.getElem_cons_zero, List.getElem_cons_succ, List.setIfInBounds_toArray, List.set_cons_zero, List.set_cons_succ]
        refine wpAny_done (by kernel_rfl) ?_ _
        have H5 := Lib.hid h5
        clear h3 h4 h5
        go_wp2_with fail
        go_meet
        exact ⟨rfl, H5.out⟩
      · refine load_anyY rfl rfl 43 _ rfl (w.heap.size + 1) rfl h1.two Tryz.underlying43 rfl (by kernel_rfl) ?_
        try simp only [Act.put, List.getElem_toArray, List.getElem_cons_zero, List.getElem_cons_succ, List.setIfInBounds_toArray, List.set_cons_zero, List.set_cons_succ]
        refine wpAny_all (rs := [1]) (by kernel_rfl) (by decide) (List.forall_mem_cons.2 ⟨?_, List.forall_mem_nil _⟩)
        refine callv_any (f := 7) (args := #[.agg (seL s a c b d).toArray]) rfl rfl (by kernel_rfl) (HFW.out _) ?_
        intro w2 hb
        try simp only [Act.put, List.getElem_toArray, List.getElem_cons_zero, List.getElem_cons_succ, List.setIfInBounds_toArray, List.set_cons_zero, List.set_cons_succ]
        have h2 := h1.on hb
        clear hb
        refine wpAny_all (rs := [3]) (by kernel_rfl) (by decide) (List.forall_mem_cons.2 ⟨?_, List.forall_mem_nil _⟩)
        refine callv_any (f := 17) (args := #[.agg (frL f fa fc).toArray]) rfl rfl (by kernel_rfl) (HSH.out _) ?_
        intro w3 hb
        try simp only [Act.put, List.getElem_toArray, List.getElem_cons_zero, List.getElem_cons_succ, List.setIfInBounds_toArray, List.set_cons_zero, List.set_cons_succ]
        have h3 := h2.on hb
        clear hb
        refine wpAny_all (rs := [9]) (by kernel_rfl) (by decide) (List.forall_mem_cons.2 ⟨?_, List.forall_mem_nil _⟩)
        refine store_anyY rfl rfl rfl 26 _ _ rfl w.heap.size rfl (l' := seL (fewS s) a c b d) rfl h3.one rfl (seL_one _ _ _ _ _) (by kernel_rfl) ?_
        try simp only [Act.put, List.getElem_toArray, List.getElem_cons_zero, List.getElem_cons_succ, List.setIfInBounds_toArray, List.set_cons_zero, List.set_cons_succ]
        have h4 := h3.put1 (seL (fewS s) a c b d) rfl
        refine wpAny_all (rs := [10]) (by kernel_rfl) (by decide) (List.forall_mem_cons.2 ⟨?_, List.forall_mem_nil _⟩)
        refine store_anyY rfl rfl rfl 43 _ _ rfl (w.heap.size + 1) rfl (l' := frL (shortF f) fa fc) rfl h4.two rfl (frL_oneY _ _ _) (by kernel_rfl) ?_
        try simp only [Act.put, List.getElem_toArray, List.getElem_cons_zero, List.getElem_cons_succ, List.setIfInBounds_toArray, List.set_cons_zero, List.set_cons_succ]
        have h5 := h4.put2 (frL (shortF f) fa fc) rfl
        refine wpAny_all (rs := [11]) (by kernel_rfl) (by decide) (List.forall_mem_cons.2 ⟨?_, List.forall_mem_nil _⟩)
        refine val_any rfl rfl (v := .string (x.extract 0 m)) (w' := (w3.setCells w.heap.size 0 (seL (fewS s) a c b d)).setCells (w.heap.size + 1) 0 (frL (shortF f) fa fc)) (by kernel_rfl) ?_
        try simp only [Act.put, List.getElem_toArray, List.getElem_cons_zero, List.getElem_cons_succ, List.setIfInBounds_toArray, List.set_cons_zero, List.set_cons_succ]
        refine wpAny_done (by kernel_rfl) ?_ _
        have H5 := Lib.hid h5
        clear h3 h4 h5
        go_wp2_with fail
        go_meet
        exact ⟨rfl, H5.out⟩
    · refine load_anyY rfl rfl 43 _ rfl (w.heap.size + 1) rfl h1.two Tryz.underlying43 rfl (by kernel_rfl) ?_
      try simp only [Act.put, List.getElem_toArray, List.getElem_cons_zero, List.getElem_cons_succ, List.setIfInBounds_toArray, List.set_cons_zero, List.set_cons_succ]
      refine wpAny_all (rs := [0]) (by kernel_rfl) (by decide) (List.forall_mem_cons.2 ⟨?_, List.forall_mem_nil _⟩)
      refine load_anyY rfl rfl 26 _ rfl w.heap.size rfl h1.one Tryz.underlying26 rfl (by kernel_rfl) ?_
      try simp only [Act.put, List.getElem_toArray, List.getElem_cons_zero, List.setIfInBounds_toArray, List.set_cons_zero, List.set_cons_succ]
      refine wpAny_all (rs := [1]) (by kernel_rfl) (by decide) (List.forall_mem_cons.2 ⟨?_, List.forall_mem_nil _⟩)
      refine callv_any (f := 7) (args := #[.agg (seL s a c b d).toArray]) rfl rfl (by kernel_rfl) (HFW.out _) ?_
      intro w2 hb
      try simp only [Act.put, List.getElem_toArray, List.getElem_cons_zero, List.getElem_cons_succ, List.setIfInBounds_toArray, List.set_cons_zero, List.set_cons_succ]
      have h2 := h1.on hb
      clear hb
      refine wpAny_all (rs := [3]) (by kernel_rfl) (by decide) (List.forall_mem_cons.2 ⟨?_, List.forall_mem_nil _⟩)
      refine callv_any (f := 17) (args := #[.agg (frL f fa fc).toArray]) rfl rfl (by kernel_rfl) (HSH.out _) ?_
      intro w3 hb
      try simp only [Act.put, List.getElem_toArray, List.getElem_cons_zero, List.getElem_cons_succ, List.setIfInBounds_toArray, List.set_cons_zero, List.set_cons_succ]
      have h3 := h2.on hb
      clear hb
      refine wpAny_all (rs := [9]) (by kernel_rfl) (by decide) (List.forall_mem_cons.2 ⟨?_, List.forall_mem_nil _⟩)
      refine store_anyY rfl rfl rfl 26 _ _ rfl w.heap.size rfl (l' := seL (fewS s) a c b d) rfl h3.one rfl (seL_one _ _ _ _ _) (by kernel_rfl) ?_
      try simp only [Act.put, List.getElem_toArray, List.getElem_cons_zero, List.getElem_cons_succ, List.setIfInBounds_toArray, List.set_cons_zero, List.set_cons_succ]
      have h4 := h3.put1 (seL (fewS s) a c b d) rfl
      refine wpAny_all (rs := [10]) (by kernel_rfl) (by decide) (List.forall_mem_cons.2 ⟨?_, List.forall_mem_nil _⟩)
      refine store_anyY rfl rfl rfl 43 _ _ rfl (w.heap.size + 1) rfl (l' := frL (shortF f) fa fc) rfl h4.two rfl (frL_oneY _ _ _) (by kernel_rfl) ?_
      try simp only [Act.put, List.getElem_toArray, List.getElem_cons_zero, List.getElem_cons_succ, List.setIfInBounds_toArray, List.set_cons_zero, List.set_cons_succ]
      have h5 := h4.put2 (frL (shortF f) fa fc) rfl
      refine wpAny_all (rs := [11]) (by kernel_rfl) (by decide) (List.forall_mem_cons.2 ⟨?_, List.forall_mem_nil _⟩)
      refine val_any rfl rfl (v := .string (x.extract 0 m)) (w' := (w3.setCells w.heap.size 0 (seL (fewS s) a c b d)).setCells (w.heap.size + 1) 0 (frL (shortF f) fa fc)) (by kernel_rfl) ?_
      try simp only [Act.put, List.getElem_toArray, List.getElem_cons_zero, List.getElem_cons_succ, List.setIfInBounds_toArray, List.set_cons_zero, List.set_cons_succ]
      refine wpAny_done (by kernel_rfl) ?_ _
      have H5 := Lib.hid h5
      clear h3 h4 h5
      go_wp2_with fail
      go_meet
      exact ⟨rfl, H5.out⟩
  case rest =>
    obtain ⟨rfl, h2⟩ := hcut
    have HT := Lib.hid h2
    clear h2 H1 HFW HSH em h1m
    generalize fewS s = S at *
    generalize shortF f = F at *
    generalize x.extract 0 m = X at *
    have hsl := Seal_any S a c b d (by have := HX.out; omega) HX.out.2.1.2 (by have := HX.out; omega) HX.out.2.2.1.2 F fa fc (by have := HX.out; unfold maxLen; omega) HX.out.2.2.2.2 X wc (HV.out.on HT.out.below) (HSA.out.1.on HT.out.below) (HSA.out.2.on HT.out.below)
    have es : seV S a c b d = .agg (seL S a c b d).toArray := rfl
    have ef : frV F fa fc = .agg (frL F fa fc).toArray := rfl
    rw [es, ef] at hsl
    have HSL := Lib.hid hsl
    clear hsl es ef
    go_upto_region 2 with fail
    refine wp_region_lit ?_
    refine load_v rfl _ _ rfl w.heap.size rfl HT.out.one Tryz.underlying26 rfl (by kernel_rfl) ?_
    refine load_v rfl _ _ rfl (w.heap.size + 1) rfl HT.out.two Tryz.underlying43 rfl (by kernel_rfl) ?_
    go_wp2_with fail
    refine HSL.out.mono ?_
    rintro e w1 h
    obtain ⟨l1, l2, k, rfl, hl1, hl2, o1, o2, hb, hpost⟩ : ∃ (l1 l2 : List Value) (k : Int), e = .returned (.tuple #[.agg l1.toArray, .agg l2.toArray, .int .i64 k]) ∧ l1.length = 10 ∧ l2.length = 13 ∧ (∀ v ∈ l1, v.oneCell' = true) ∧ (∀ v ∈ l2, v.oneCell' = true) ∧ Below wc.heap.size wc w1 ∧
        ((k = 0 ∧ sealE S F X = 0 ∧ ∃ a' c' b' d', l1 = seL (sealS S) a' c' b' d' ∧ l2 = frL (sealF S F X) none 0 ∧ SeAt w1 (sealS S) a' b' ∧ S.kept.length ≤ c' ∧ S.used.length ≤ d') ∨ (k = sealE S F X ∧ sealE S F X ≠ 0 ∧ l1 = seL se0 none 0 none 0 ∧ l2 = frL fr0 none 0)) := by
      rcases h with ⟨h0, a', c', b', d', rfl, hs1, hc1, hd1, hb, -, -⟩ | ⟨h0, rfl, hb⟩
      · exact ⟨_, _, 0, rfl, rfl, rfl, seL_one _ _ _ _ _, frL_oneY _ _ _, hb, Or.inl ⟨rfl, h0, a', c', b', d', rfl, rfl, hs1, hc1, hd1⟩⟩
      · exact ⟨_, _, _, rfl, rfl, rfl, seL_one _ _ _ _ _, frL_oneY _ _ _, hb, Or.inr ⟨rfl, h0, rfl, rfl⟩⟩
    clear h
    have hT1 := HT.out.on hb
    have HP := Lib.hid hpost; have HO := Lib.hid (And.intro hl1 (And.intro hl2 (And.intro o1 o2)))
    clear hpost hb HSL HT hl1 hl2 o1 o2
    rename_i K hK
    refine hK _ _ ?_
    clear hK K
    iterate 6 (refine wpList_step (fun K hK => ?_); go_simp; refine hK _ _ ?_; clear hK K)
    obtain ⟨X0, eX0⟩ : ∃ X0, w1.alloc (.cells (seL se0 none 0 none 0).toArray 26) = X0 := ⟨_, rfl⟩
    obtain ⟨X1, eX⟩ : ∃ X1, X0.alloc (.cells zeroY.toArray 43) = X1 := ⟨_, rfl⟩
    have z0 : X0.heap.size = w1.heap.size + 1 := by rw [← eX0]; simp
    have hbX0 : Below w1.heap.size w1 X0 := by rw [← eX0]; exact (Below.refl _ _).alloc (Nat.le_refl _) _
    have hbX : Below w1.heap.size w1 X1 := by rw [← eX]; exact hbX0.alloc hbX0.size _
    have hP : BlkV X1 w1.heap.size 26 (seL se0 none 0 none 0) := by rw [← eX, ← eX0]; exact (BlkV.fresh _ _ _ _ rfl _ rfl).alloc _
    have hQ : BlkV X1 (w1.heap.size + 1) 43 zeroY := by rw [← eX]; exact BlkV.fresh _ _ _ _ rfl _ z0.symm
    generalize hG : World.alloc (World.alloc w1 _) _ = G
    obtain rfl : X1 = G := by rw [← hG, ← eX, ← eX0]; rfl
    clear hG eX eX0 z0 hbX0
    refine store_v rfl rfl _ _ _ rfl w1.heap.size rfl (l' := l1) rfl hP (by rw [HO.out.1]; rfl) HO.out.2.2.1 (by kernel_rfl) ?_
    have hP2 := hP.stored l1 (by rw [HO.out.1]; rfl)
    have hQ2 := hQ.farS (show w1.heap.size + 1 ≠ w1.heap.size by omega) l1
    refine store_v rfl rfl _ _ _ rfl (w1.heap.size + 1) rfl (l' := l2) rfl hQ2 (by rw [HO.out.2.1]; rfl) HO.out.2.2.2 (by kernel_rfl) ?_
    have hP3 := hP2.farS (show w1.heap.size ≠ w1.heap.size + 1 by omega) l2
    have hQ3 := hQ2.stored l2 (by rw [HO.out.2.1]; rfl)
    have hbY := below_setCells (show w1.heap.size ≤ w1.heap.size + 1 by omega) l2 0 _ (below_setCells (Nat.le_refl w1.heap.size) l1 0 _ hbX)
    generalize World.setCells (World.setCells X1 _ _ _) _ _ _ = Y at hP3 hQ3 hbY ⊢
    clear hP hQ hP2 hQ2 hbX
    have hT2 := hT1.on hbY
    have HP2 := Lib.hid (And.intro hP3 hQ3); have HT2 := Lib.hid hT2; have HBY := Lib.hid hbY
    clear hP3 hQ3 hbY hT1 hT2
    iterate 1 (refine wpList_step (fun K hK => ?_); go_simp; refine hK _ _ ?_; clear hK K)
    refine wpList_nil ?_
    rename_i K hK
    refine hK _ _ ?_
    clear hK K
    go_upto_region 3 with fail
    have hnum := fun V => numbers_all V
    have hrs := fun V kv (h : KAt V kv) (hb : Below Y.heap.size Y V) => rSeal_any kv S a c b d (by have := HX.out; omega) HX.out.2.1.2 (by have := HX.out; omega) F fa fc (by have := HX.out; unfold maxLen; omega) HX.out.2.2.2.2 X V h ((HSA.out.1.on HT2.out.below).on hb) ((HSA.out.2.on HT2.out.below).on hb)
    have es : seV S a c b d = .agg (seL S a c b d).toArray := rfl
    have ef : frV F fa fc = .agg (frL F fa fc).toArray := rfl
    rw [es, ef] at hrs
    have HNUM := Lib.hid hnum; have HRS := Lib.hid hrs
    clear hnum hrs es ef
    obtain ⟨dl, hdl⟩ : ∃ dl : List Value, dl = (if sealE S F X = 0 then dL (sealS S) a c b d (sealF S F X) fa fc 0 else dL se0 none 0 none 0 fr0 none 0 (sealE S F X)) := ⟨_, rfl⟩
    have hdl25 : dl.length = 25 := by rw [hdl]; split <;> rfl
    have hdl1 : ∀ v ∈ dl, v.oneCell' = true := by rw [hdl]; split <;> exact dL_one _ _ _ _ _ _ _ _ _
    have hrp : ∀ V e w', RPost S F X a c b d fa fc V e w' → e = .returned (.agg dl.toArray) ∧ Below V.heap.size V w' := by
      rintro V e w' (⟨h0, rfl, hb⟩ | ⟨h0, rfl, hb⟩)
      · exact ⟨by rw [hdl, if_pos h0], hb⟩
      · exact ⟨by rw [hdl, if_neg h0], hb⟩
    have HRP := Lib.hid hrp; have HDL := Lib.hid (And.intro hdl25 (And.intro hdl1 hdl))
    clear hrp hdl25 hdl1 hdl
    go_cut [10] (DRel Y dl)
    case first =>
      have hw := HT2.out.on (Below.refl _ _).drew
      refine wp_region_held (S := fun w' => TwoY w w.heap.size (seL S a c b d) (frL F fa fc) w' ∧ Below Y.heap.size Y w') (by kernel_rfl) ?_
      have hS0 : TwoY w w.heap.size (seL S a c b d) (frL F fa fc) Y.drew ∧ Below Y.heap.size Y Y.drew := ⟨hw, (Below.refl _ _).drew⟩
      change wpAnyH _ _ _ _ _ _ _ _ Y.drew
      refine wpAnyH_take (i := 3) (v := .string X) rfl (by kernel_rfl) (by kernel_rfl) (by kernel_rfl) (fun _ _ _ h => h) (Or.inl ⟨rfl, fun _ _ => by first | (go_simp; done) | kernel_rfl⟩) hS0 ?_
      try simp only [Act.put, List.getElem_toArray, List.getElem_cons_zero, List.getElem_cons_succ, List.setIfInBounds_toArray, List.set_cons_zero, List.set_cons_succ]
      refine wpAnyH_take (i := 1) (v := .agg (seL S a c b d).toArray) rfl (by kernel_rfl) (by kernel_rfl) (by kernel_rfl) (fun _ _ _ h => h) (yields_row rfl _ _ rfl w.heap.size rfl (fun _ h => h.1.one) Tryz.underlying26 rfl (by kernel_rfl)) hS0 ?_
      try simp only [Act.put, List.getElem_toArray, List.getElem_cons_zero, List.getElem_cons_succ, List.setIfInBounds_toArray, List.set_cons_zero, List.set_cons_succ]
      refine wpAnyH_take (i := 2) (v := .agg (frL F fa fc).toArray) rfl (by kernel_rfl) (by kernel_rfl) (by kernel_rfl) (fun _ _ _ h => h) (yields_row rfl _ _ rfl (w.heap.size + 1) rfl (fun _ h => h.1.two) Tryz.underlying43 rfl (by kernel_rfl)) hS0 ?_
      try simp only [Act.put, List.getElem_toArray, List.getElem_cons_zero, List.getElem_cons_succ, List.setIfInBounds_toArray, List.set_cons_zero, List.set_cons_succ]
      refine wpAnyH_all (rs := [0, 5]) (by kernel_rfl) (by decide) (List.forall_mem_cons.2 ⟨?_, List.forall_mem_cons.2 ⟨?_, List.forall_mem_nil _⟩⟩)
      · refine callx_any (f := 16) (args := #[]) rfl rfl (by kernel_rfl) (HNUM.out _) ?_
        rintro kv w3 ⟨hka, hb⟩
        have hS1 := And.intro (hS0.1.on hb) (hS0.2.trans (hb.mono hS0.2.size))
        clear hb
        refine ⟨hS1, ?_⟩
        try simp only [Act.put, List.getElem_toArray, List.getElem_cons_zero, List.setIfInBounds_toArray, List.set_cons_zero, List.set_cons_succ]
        refine wpAnyH_all (rs := [4, 5]) (by kernel_rfl) (by decide) (List.forall_mem_cons.2 ⟨?_, List.forall_mem_cons.2 ⟨?_, List.forall_mem_nil _⟩⟩)
        · refine callv_any (f := 19) (args := #[kv, .agg (seL S a c b d).toArray, .agg (frL F fa fc).toArray, .string X]) rfl rfl (by kernel_rfl) (v := .agg dl.toArray) ((HRS.out _ kv hka hS1.2).mono fun e w' h => HRP.out _ _ _ h) ?_
          intro w4 hb
          have hS2 := And.intro (hS1.1.on hb) (hS1.2.trans (hb.mono hS1.2.size))
          clear hb
          refine ⟨hS2, ?_⟩
          try simp only [Act.put, List.getElem_toArray, List.getElem_cons_zero, List.getElem_cons_succ, List.setIfInBounds_toArray, List.set_cons_zero, List.set_cons_succ]
          refine wpAnyH_all (rs := [5]) (by kernel_rfl) (by decide) (List.forall_mem_cons.2 ⟨?_, List.forall_mem_nil _⟩)
          refine val_any rfl rfl (v := .pointer (some ⟨(w4).heap.size, 0, none⟩)) (w' := (w4).alloc (.cells (dL se0 none 0 none 0 fr0 none 0 0).toArray 48)) (by kernel_rfl) ?_
          have hal := (Below.refl (w4).heap.size (w4)).alloc (Nat.le_refl _) (.cells (dL se0 none 0 none 0 fr0 none 0 0).toArray 48)
          have hD : BlkV ((w4).alloc (.cells (dL se0 none 0 none 0 fr0 none 0 0).toArray 48)) (w4).heap.size 48 (dL se0 none 0 none 0 fr0 none 0 0) := BlkV.fresh _ _ _ _ rfl _ rfl
          have hS3 := And.intro (hS2.1.on hal) (hS2.2.trans (hal.mono hS2.2.size))
          obtain ⟨R, eR⟩ : ∃ R, (w4).heap.size = R := ⟨_, rfl⟩
          have hRn : Y.heap.size ≤ R := by rw [← eR]; exact hS2.2.size
          rw [eR] at hD ⊢
          generalize World.alloc (w4) _ = wA at hD hS3 ⊢
          clear hal eR
          refine ⟨hS3, ?_⟩
          try simp only [Act.put, List.getElem_toArray, List.getElem_cons_zero, List.getElem_cons_succ, List.setIfInBounds_toArray, List.set_cons_zero, List.set_cons_succ]
          refine wpAnyH_all (rs := [6]) (by kernel_rfl) (by decide) (List.forall_mem_cons.2 ⟨?_, List.forall_mem_nil _⟩)
          refine store_anyY rfl rfl rfl 48 _ _ rfl R rfl (l' := dl) rfl hD (by rw [HDL.out.1]; rfl) HDL.out.2.1 (by kernel_rfl) ?_
          have hDf := hD.stored dl (by rw [HDL.out.1]; rfl)
          have hSf := And.intro (hS3.1.farS R (by have := HT2.out.two.lt; omega) dl) (below_setCells hRn dl 0 _ hS3.2)
          refine ⟨hSf, ?_⟩
          refine wpAnyH_done (by kernel_rfl) ?_ _
          have HDF := Lib.hid (And.intro hDf hSf.2)
          clear hDf hSf hD
          go_wp2_with fail
          go_meet
          exact ⟨R, rfl, HDF.out⟩
        · refine val_any rfl rfl (v := .pointer (some ⟨(w3).heap.size, 0, none⟩)) (w' := (w3).alloc (.cells (dL se0 none 0 none 0 fr0 none 0 0).toArray 48)) (by kernel_rfl) ?_
          have hal := (Below.refl (w3).heap.size (w3)).alloc (Nat.le_refl _) (.cells (dL se0 none 0 none 0 fr0 none 0 0).toArray 48)
          have hD : BlkV ((w3).alloc (.cells (dL se0 none 0 none 0 fr0 none 0 0).toArray 48)) (w3).heap.size 48 (dL se0 none 0 none 0 fr0 none 0 0) := BlkV.fresh _ _ _ _ rfl _ rfl
          have hS2 := And.intro (hS1.1.on hal) (hS1.2.trans (hal.mono hS1.2.size))
          obtain ⟨R, eR⟩ : ∃ R, (w3).heap.size = R := ⟨_, rfl⟩
          have hRn : Y.heap.size ≤ R := by rw [← eR]; exact hS1.2.size
          rw [eR] at hD ⊢
          have hkaA := hka.on hal
          generalize World.alloc (w3) _ = wA at hD hS2 hkaA ⊢
          clear hal eR
          refine ⟨hS2, ?_⟩
          try simp only [Act.put, List.getElem_toArray, List.getElem_cons_zero, List.getElem_cons_succ, List.setIfInBounds_toArray, List.set_cons_zero, List.set_cons_succ]
          refine wpAnyH_all (rs := [4]) (by kernel_rfl) (by decide) (List.forall_mem_cons.2 ⟨?_, List.forall_mem_nil _⟩)
          refine callv_any (f := 19) (args := #[kv, .agg (seL S a c b d).toArray, .agg (frL F fa fc).toArray, .string X]) rfl rfl (by kernel_rfl) (v := .agg dl.toArray) ((HRS.out _ kv hkaA hS2.2).mono fun e w' h => HRP.out _ _ _ h) ?_
          intro w4 hb
          have hS3 := And.intro (hS2.1.on hb) (hS2.2.trans (hb.mono hS2.2.size))
          have hD2 := hD.on hb
          clear hb
          refine ⟨hS3, ?_⟩
          try simp only [Act.put, List.getElem_toArray, List.getElem_cons_zero, List.getElem_cons_succ, List.setIfInBounds_toArray, List.set_cons_zero, List.set_cons_succ]
          refine wpAnyH_all (rs := [6]) (by kernel_rfl) (by decide) (List.forall_mem_cons.2 ⟨?_, List.forall_mem_nil _⟩)
          refine store_anyY rfl rfl rfl 48 _ _ rfl R rfl (l' := dl) rfl hD2 (by rw [HDL.out.1]; rfl) HDL.out.2.1 (by kernel_rfl) ?_
          have hDf := hD2.stored dl (by rw [HDL.out.1]; rfl)
          have hSf := And.intro (hS3.1.farS R (by have := HT2.out.two.lt; omega) dl) (below_setCells hRn dl 0 _ hS3.2)
          refine ⟨hSf, ?_⟩
          refine wpAnyH_done (by kernel_rfl) ?_ _
          have HDF := Lib.hid (And.intro hDf hSf.2)
          clear hDf hSf hD2
          go_wp2_with fail
          go_meet
          exact ⟨R, rfl, HDF.out⟩
      · refine val_any rfl rfl (v := .pointer (some ⟨(Y.drew).heap.size, 0, none⟩)) (w' := (Y.drew).alloc (.cells (dL se0 none 0 none 0 fr0 none 0 0).toArray 48)) (by kernel_rfl) ?_
        have hal := (Below.refl (Y.drew).heap.size (Y.drew)).alloc (Nat.le_refl _) (.cells (dL se0 none 0 none 0 fr0 none 0 0).toArray 48)
        have hD : BlkV ((Y.drew).alloc (.cells (dL se0 none 0 none 0 fr0 none 0 0).toArray 48)) (Y.drew).heap.size 48 (dL se0 none 0 none 0 fr0 none 0 0) := BlkV.fresh _ _ _ _ rfl _ rfl
        have hS1 := And.intro (hS0.1.on hal) (hS0.2.trans (hal.mono hS0.2.size))
        obtain ⟨R, eR⟩ : ∃ R, (Y.drew).heap.size = R := ⟨_, rfl⟩
        have hRn : Y.heap.size ≤ R := by rw [← eR]; exact hS0.2.size
        rw [eR] at hD ⊢
        generalize World.alloc (Y.drew) _ = wA at hD hS1 ⊢
        clear hal eR
        refine ⟨hS1, ?_⟩
        try simp only [Act.put, List.getElem_toArray, List.getElem_cons_zero, List.getElem_cons_succ, List.setIfInBounds_toArray, List.set_cons_zero, List.set_cons_succ]
        refine wpAnyH_all (rs := [0]) (by kernel_rfl) (by decide) (List.forall_mem_cons.2 ⟨?_, List.forall_mem_nil _⟩)
        refine callx_any (f := 16) (args := #[]) rfl rfl (by kernel_rfl) (HNUM.out _) ?_
        rintro kv w3 ⟨hka, hb⟩
        have hS2 := And.intro (hS1.1.on hb) (hS1.2.trans (hb.mono hS1.2.size))
        have hD2 := hD.on hb
        clear hb
        refine ⟨hS2, ?_⟩
        try simp only [Act.put, List.getElem_toArray, List.getElem_cons_zero, List.setIfInBounds_toArray, List.set_cons_zero, List.set_cons_succ]
        refine wpAnyH_all (rs := [4]) (by kernel_rfl) (by decide) (List.forall_mem_cons.2 ⟨?_, List.forall_mem_nil _⟩)
        refine callv_any (f := 19) (args := #[kv, .agg (seL S a c b d).toArray, .agg (frL F fa fc).toArray, .string X]) rfl rfl (by kernel_rfl) (v := .agg dl.toArray) ((HRS.out _ kv hka hS2.2).mono fun e w' h => HRP.out _ _ _ h) ?_
        intro w4 hb
        have hS3 := And.intro (hS2.1.on hb) (hS2.2.trans (hb.mono hS2.2.size))
        have hD3 := hD2.on hb
        clear hb
        refine ⟨hS3, ?_⟩
        try simp only [Act.put, List.getElem_toArray, List.getElem_cons_zero, List.getElem_cons_succ, List.setIfInBounds_toArray, List.set_cons_zero, List.set_cons_succ]
        refine wpAnyH_all (rs := [6]) (by kernel_rfl) (by decide) (List.forall_mem_cons.2 ⟨?_, List.forall_mem_nil _⟩)
        refine store_anyY rfl rfl rfl 48 _ _ rfl R rfl (l' := dl) rfl hD3 (by rw [HDL.out.1]; rfl) HDL.out.2.1 (by kernel_rfl) ?_
        have hDf := hD3.stored dl (by rw [HDL.out.1]; rfl)
        have hSf := And.intro (hS3.1.farS R (by have := HT2.out.two.lt; omega) dl) (below_setCells hRn dl 0 _ hS3.2)
        refine ⟨hSf, ?_⟩
        refine wpAnyH_done (by kernel_rfl) ?_ _
        have HDF := Lib.hid (And.intro hDf hSf.2)
        clear hDf hSf hD3
        go_wp2_with fail
        go_meet
        exact ⟨R, rfl, HDF.out⟩
    case rest =>
      obtain ⟨R, rfl, hR, hBR⟩ := hcut
      obtain ⟨T, G, a', c', b', d', a2, c2, b2, d2, f2, g2, el1, el2, edl, hs1, hs2, hf2, hTk, hTu, hGk⟩ : ∃ (T : Se) (G : Fr) (a' : Option Addr) (c' : Nat) (b' : Option Addr) (d' : Nat) (a2 : Option Addr) (c2 : Nat) (b2 : Option Addr) (d2 : Nat) (f2 : Option Addr) (g2 : Nat),
          l1 = seL T a' c' b' d' ∧ l2 = frL G none 0 ∧ dl = dL T a2 c2 b2 d2 G f2 g2 k ∧ SeAt Y T a' b' ∧ SeAt Y T a2 b2 ∧ SSl Y f2 G.keys ∧ T.kept.length ≤ 1000 ∧ T.used.length ≤ 1000 ∧ G.keys = [] := by
        have hx := HX.out
        have hedl := HDL.out.2.2
        rcases HP.out with ⟨rfl, h0, a', c', b', d', rfl, rfl, hs1, -, -⟩ | ⟨rfl, h0, rfl, rfl⟩
        · rw [if_pos h0] at hedl
          refine ⟨sealS S, sealF S F X, a', c', b', d', a, c, b, d, fa, fc, rfl, rfl, hedl, hs1.on HBY.out, ⟨(HSA.out.1.on HT2.out.below).kept, (HSA.out.1.on HT2.out.below).used⟩, HSA.out.2.on HT2.out.below, ?_, ?_, ?_⟩
          · show S.kept.length ≤ 1000; omega
          · show S.used.length ≤ 1000; omega
          · exact sealE_keys h0
        · rw [if_neg h0] at hedl
          exact ⟨se0, fr0, none, 0, none, 0, none, 0, none, 0, none, 0, rfl, rfl, hedl, ⟨fun h => absurd h (Nat.lt_irrefl 0), fun h => absurd h (Nat.lt_irrefl 0)⟩, ⟨fun h => absurd h (Nat.lt_irrefl 0), fun h => absurd h (Nat.lt_irrefl 0)⟩, fun h => absurd h (Nat.lt_irrefl 0), Nat.zero_le _, Nat.zero_le _, rfl⟩
      have hB9 := HT2.out.below.trans (hBR.mono HT2.out.below.size)
      have hal := aliveY_any wc (HV.out.on hB9)
      have HAL := Lib.hid hal
      have hP3 := HP2.out.1.on hBR; have hQ3 := HP2.out.2.on hBR
      rw [el1] at hP3; rw [el2] at hQ3; rw [edl] at hR
      have HM := Lib.hid (And.intro hP3 (And.intro hQ3 (And.intro hR hB9)))
      have hss := fun V (h : Below wc.heap.size wc V) => rSame_any T T a' c' b' d' a2 c2 b2 d2 hTk hTu V ((hs1.on hBR).on h) ((hs2.on hBR).on h)
      have hff := fun V (h : Below wc.heap.size wc V) => r8Same_any G G none f2 0 g2 (by rw [hGk]; exact Nat.zero_le _) (by rw [hGk]; exact Nat.zero_le _) V (by rw [hGk]; exact fun h0 => absurd h0 (Nat.lt_irrefl 0)) ((hf2.on hBR).on h)
      have es1 : seV T a' c' b' d' = .agg (seL T a' c' b' d').toArray := rfl
      have es2 : seV T a2 c2 b2 d2 = .agg (seL T a2 c2 b2 d2).toArray := rfl
      have ef1 : frV G none 0 = .agg (frL G none 0).toArray := rfl
      have ef2 : frV G f2 g2 = .agg (frL G f2 g2).toArray := rfl
      rw [es1, es2, decide_eq_true rfl] at hss
      rw [ef1, ef2, decide_eq_true rfl] at hff
      have HSS := Lib.hid hss; have HFF := Lib.hid hff
      clear hss hff es1 es2 ef1 ef2 hal hP3 hQ3 hR hB9 hs1 hs2 hf2 hTk hTu hGk el1 el2 edl hBR HRP HRS HNUM HDL HP HO HP2 HT2 HBY HSA HV
      go_upto_region 4 with fail
      go_wp2_with fail
      refine HAL.out.mono ?_
      rintro e w5 ⟨rfl, hb⟩
      have hD5 := HM.out.2.2.1.on hb
      have h24 := hD5.cell 24 (.int .i64 k) rfl
      have hkk : (k == k) = true := by simp
      have HB5 := Lib.hid hb
      clear hb hD5 HAL
      rename_i K hK
      refine hK _ _ ?_
      clear hK K
      iterate 7 (refine wpList_step (fun K hK => ?_); go_simp; refine hK _ _ ?_; clear hK K)
      clear h24 hkk
      have hP5 := HM.out.1.on HB5.out
      have hR5 := HM.out.2.2.1.on HB5.out
      refine load_gY (by rfl) _ _ rfl w1.heap.size rfl hP5 Tryz.underlying26 rfl (by kernel_rfl) ?_
      iterate 1 (refine wpList_step (fun K hK => ?_); go_simp; refine hK _ _ ?_; clear hK K)
      refine load_gO (by rfl) _ _ rfl R 0 rfl (l := seL T a2 c2 b2 d2) (dL_left hR5) Tryz.underlying26 rfl (by kernel_rfl) ?_
      clear hP5 hR5
      go_wp2_with fail
      refine (HSS.out _ HB5.out).mono ?_
      rintro e w6 ⟨rfl, hb⟩
      have HB6 := Lib.hid (HB5.out.trans (hb.mono HB5.out.size))
      clear hb HSS HB5
      rename_i K hK
      refine hK _ _ ?_
      clear hK K
      iterate 2 (refine wpList_step (fun K hK => ?_); go_simp; refine hK _ _ ?_; clear hK K)
      have hQ6 := HM.out.2.1.on HB6.out
      have hR6 := HM.out.2.2.1.on HB6.out
      refine load_gY (by rfl) _ _ rfl (w1.heap.size + 1) rfl hQ6 Tryz.underlying43 rfl (by kernel_rfl) ?_
      iterate 1 (refine wpList_step (fun K hK => ?_); go_simp; refine hK _ _ ?_; clear hK K)
      refine load_gO (by rfl) _ _ rfl R 10 rfl (l := frL G f2 g2) (dL_mid hR6) Tryz.underlying43 rfl (by kernel_rfl) ?_
      clear hQ6 hR6
      go_wp2_with fail
      refine (HFF.out _ HB6.out).mono ?_
      rintro e w7 ⟨rfl, hb⟩
      have HB7 := Lib.hid (HM.out.2.2.2.trans ((HB6.out.trans (hb.mono HB6.out.size)).mono HM.out.2.2.2.size))
      clear hb HFF HB6 HM
      go_wp2_with fail
      go_ret
      exact ⟨rfl, HB7.out⟩
end Go.Proofs.YthjlhcmdpeinpaaGreatDoor