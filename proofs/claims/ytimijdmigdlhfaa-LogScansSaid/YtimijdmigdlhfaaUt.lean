/- The reference's Recover. -/
import Derived.Test.YtimijdmigdlhfaaUs
import Derived.Deep.RegionLaw
namespace Go.Proofs.Ytimijdmigdlhfaa
open Go.RowKit
set_option maxRecDepth 100000
theorem OwnS.dr {w : World} {base : Nat} {v : Value} {l : List ByteArray} (h : OwnS w base v l) : OwnS w.drew base v l := h
/-- one text put behind a slice of the call's own, as one step of a region that draws its order -/
theorem step_append_s {ops : Array Oper} {o : Oper} {a : Act} {K : Act → World → Prop} {Q : Exit → Act → World → Prop} {E : Prop} {w : World} (hgd : o.guard = none) (s x : Operand)
    (ho : o.op = .call { callee := .builtin .append, args := #[s, x], argTypes := #[22, 22] })
    (base : Nat) (v : Value) (l : List ByteArray) (y : ByteArray) (B : Nat) (hs : a.eval s = v) (hown : OwnS w base v l) (hx : a.eval x = .slice (some ⟨B, 0, none⟩) 1 1)
    (hc : w.cell? ⟨B, 0, none⟩ = some (.string y)) (hl : l.length ≤ 1000) (hbase : base ≤ w.heap.size)
    (h : ∀ g cap w', OwnS w' base (.slice (some ⟨g, 0, none⟩) (l.length + 1) cap) (l ++ [y]) → w.grownBy w' v.ownBlock → K (a.put o.dst (.slice (some ⟨g, 0, none⟩) (l.length + 1) cap)) w') :
    if Region.wanted o (yielded ops a.tmps) = true then Oper.wp Try.prog o a w K Q else E := by
  obtain ⟨i0, hi, hz0, hz1, hz2⟩ := info_parts infoS
  refine step_append_lies w hgd s x 22 ho base 9 i0 (.string ⟨#[]⟩) 1 16 Try.underlying22 hi hz0 hz1 hz2 rfl (by decide) v l.length (Sv l) hs hown ⟨B, 0, none⟩ 1 1 [.string y] hx rfl ?_ ?_ (by omega) (by unfold maxLen; omega) (by omega) hbase _ rfl ?_
  · intro j u hu
    rcases j with _ | j
    · simp at hu; subst hu; simpa [Addr.add] using hc
    · simp at hu
  · intro u hu; simp at hu; subst hu; rfl
  · intro g cap w' ho' hg _ _
    exact h g cap w' (by unfold OwnS; simpa [Sv] using ho') hg
/-- a state, and changes, handed back in a struct -/
def RetV (w : World) (st : ByteArray) (ts : List ByteArray) (e : Ending) (w' : World) : Prop :=
  ∃ (a : Option Addr) (c : Nat), e = .returned (.agg #[.string st, .slice a ts.length c]) ∧ Rd9 w' a c ts ∧ Below w.heap.size w w'
structure ReAt (w : World) (X B : Nat) (a0 : Option Addr) (c0 : Nat) (ts : List ByteArray) (k : Nat) (a : Option Addr) (c : Nat) (wr : World) : Prop where
  res : wr.heap[X]? = some (.cells #[.string ⟨#[]⟩, .slice none 0 0] 43)
  out : wr.heap[X + 1]? = some (.cells #[.string (recoverL (ts.take k)).1, .slice a (recoverL (ts.take k)).2.length c] 43)
  own : OwnS wr B (.slice a (recoverL (ts.take k)).2.length c) (recoverL (ts.take k)).2
  rd : Rd9 wr a0 c0 ts
  size : B ≤ wr.heap.size
  below : Below w.heap.size w wr
def ReRel (w : World) (X B : Nat) (a0 : Option Addr) (c0 : Nat) (ts : List ByteArray) (i : Value) (wr : World) : Prop := ∃ (k : Nat) (a : Option Addr) (c : Nat), k ≤ ts.length ∧ i = .int .i64 (k : Int) ∧ ReAt w X B a0 c0 ts k a c wr
theorem first_state (t : ByteArray) (h : 0 < t.size) : (((bl t).getD 0 0).toNat : Int) = 115 ↔ isState t = true := by
  unfold isState
  cases hb : bl t with
  | nil => have := bl_length t; rw [hb] at this; simp at this; omega
  | cons a r =>
    rw [decide_eq_true_eq]
    simp only [List.getD_cons_zero, List.head?_cons, Option.some.injEq]
    constructor
    · intro h; exact UInt8.toNat_inj.1 (by have : a.toNat = 115 := by omega
                                           rw [this]; rfl)
    · intro h; subst h; rfl
theorem first_change (t : ByteArray) (h : 0 < t.size) : (((bl t).getD 0 0).toNat : Int) = 99 ↔ isChange t = true := by
  unfold isChange
  cases hb : bl t with
  | nil => have := bl_length t; rw [hb] at this; simp at this; omega
  | cons a r =>
    rw [decide_eq_true_eq]
    simp only [List.getD_cons_zero, List.head?_cons, Option.some.injEq]
    constructor
    · intro h; exact UInt8.toNat_inj.1 (by have : a.toNat = 99 := by omega
                                           rw [this]; rfl)
    · intro h; subst h; rfl
theorem no_marks (t : ByteArray) (h : t.size = 0) : isState t = false ∧ isChange t = false := by
  have hb : bl t = [] := List.length_eq_zero_iff.1 (by rw [bl_length]; exact h)
  unfold isState isChange
  rw [hb]
  exact ⟨rfl, rfl⟩
theorem rec_take (ts : List ByteArray) (k : Nat) (h : k < ts.length) : recoverL (ts.take (k + 1)) = stepV (recoverL (ts.take k)) (ts.getD k ⟨#[]⟩) := by
  rw [take_next ts k h]
  unfold recoverL
  rw [List.foldl_append]
  rfl
/-- a slice that came out of a call ahead of the row's own blocks is as it was, when only a struct below it and the row are written -/
theorem Rd9.kept {w w' : World} {a : Option Addr} {c : Nat} {l : List ByteArray} (h : Rd9 w a c l) (hk : ∀ ad, a = some ad → 0 < l.length → w'.heap[ad.block]? = w.heap[ad.block]?) (hs : w.heap.size ≤ w'.heap.size) : Rd9 w' a c l := by
  refine ⟨fun h0 => ?_, h.cap, h.none⟩
  obtain ⟨b, off, rfl, hlt, hc⟩ := h.ss h0
  refine ⟨b, off, rfl, Nat.lt_of_lt_of_le hlt hs, fun i hi => ?_⟩
  have := hc i hi
  rw [← this]
  simp only [World.cell?, hk _ rfl h0]
theorem state_not (t : ByteArray) (h : isState t = true) : isChange t = false := by
  unfold isState at h
  unfold isChange
  rw [decide_eq_true_eq] at h
  rw [h]
  rfl
theorem eq_dec (n : Nat) (b : Bool) (m : Int) (h : (n : Int) = m ↔ b = true) : ((n : Int) == m) = b := by
  cases b
  · rw [beq_eq_false_iff_ne]; intro e; exact absurd (h.1 e) (by simp)
  · rw [beq_iff_eq]; exact h.2 rfl
theorem field_texts (a : Option Addr) (n c : Nat) (q : Int) (W : World) : (Instr.field 40 (.agg #[.slice a n c, .int .i64 q]) 0).run Try.prog W = .ok (.slice a n c) W := by kernel_rfl
set_option maxHeartbeats 8000000 in
theorem rRecover_any (s : ByteArray) (hs : s.size ≤ maxLen) (hN : (scanL ckR (bl s)).1.length ≤ 900) (w : World) :
    Calls Try.prog 20 #[.string s] w (RetV w (recoverL (scanL ckR (bl s)).1).1 (recoverL (scanL ckR (bl s)).1).2) := by
  have HSC := Lib.hid (fun W => rScan_any s hs hN W)
  obtain ⟨ts, ets⟩ : ∃ ts, (scanL ckR (bl s)).1 = ts := ⟨_, rfl⟩
  rw [ets] at HSC hN ⊢
  clear ets
  generalize (scanL ckR (bl s)).2 = endN at HSC
  obtain ⟨X, eX⟩ : ∃ X, w.heap.size = X := ⟨_, rfl⟩
  obtain ⟨W0, eW⟩ : ∃ W0, (w.alloc (.cells #[.string ⟨#[]⟩, .slice none 0 0] 43)).alloc (.cells #[.string ⟨#[]⟩, .slice none 0 0] 43) = W0 := ⟨_, rfl⟩
  have q0 := heap_alloc_new w (.cells #[.string ⟨#[]⟩, .slice none 0 0] 43)
  have q1 := heap_alloc_new (w.alloc (.cells #[.string ⟨#[]⟩, .slice none 0 0] 43)) (.cells #[.string ⟨#[]⟩, .slice none 0 0] 43)
  have q2 := heap_alloc_old (w.alloc (.cells #[.string ⟨#[]⟩, .slice none 0 0] 43)) (.cells #[.string ⟨#[]⟩, .slice none 0 0] 43) (show X < _ by simp; omega)
  rw [eX] at q0
  rw [World.size_alloc, eX, eW] at q1
  rw [eW] at q2
  have hbw : Below w.heap.size w W0 := by rw [← eW]; exact ((Below.refl _ w).alloc (Nat.le_refl _) _).alloc (by simp) _
  have hsz : W0.heap.size = X + 2 := by rw [← eW]; simp; omega
  have H0 := Lib.hid (And.intro (q2.trans q0) (And.intro q1 (And.intro hbw hsz))); have HX := Lib.hid eX; have HW := Lib.hid eW
  clear q0 q1 q2 hbw hsz eW hs
  go_enter Try.func20, Try.ntmps20
  go_wp2_with fail
  rw [HW.out]
  clear eX HW
  refine (HSC.out W0).mono ?_
  rintro e w1 ⟨a0, c0, rfl, hr, hb, hfar⟩
  obtain ⟨B, eB⟩ : ∃ B, w1.heap.size = B := ⟨_, rfl⟩
  have hR0 : ReAt w X B a0 c0 ts 0 none 0 w1 :=
    ⟨(hb.block X (by have := H0.out.2.2.2; omega)).trans H0.out.1, (hb.block (X + 1) (by have := H0.out.2.2.2; omega)).trans H0.out.2.1, ⟨rfl, .inl ⟨rfl, rfl⟩⟩, hr, Nat.le_of_eq eB.symm, H0.out.2.2.1.trans (hb.mono H0.out.2.2.1.size)⟩
  have hf2 : ∀ ad, a0 = some ad → 0 < ts.length → X + 2 ≤ ad.block ∧ ad.block < B := fun ad had hpos => by
    have h1 := hfar ad had hpos
    have h2 := H0.out.2.2.2
    obtain ⟨b, off, e1, hlt, -⟩ := hr.ss hpos
    rw [had] at e1
    cases e1
    exact ⟨by omega, by rw [← eB]; exact hlt⟩
  have hXB : X + 2 ≤ B := by have := hb.size; have := H0.out.2.2.2; omega
  have HR0 := Lib.hid hR0; have HF := Lib.hid (And.intro hf2 hXB); have HNN := Lib.hid hN
  clear hR0 hf2 hXB hb hr hfar H0 HSC eB hN
  have hfd := field_texts
  go_wp2_with fail
  clear hfd
  go_loopw [11] (ReRel w X B a0 c0 ts) (fun i _ => ts.length - (intOf i).toNat)
  case atStart => exact ⟨0, none, 0, Nat.zero_le _, rfl, HR0.out⟩
  case round =>
    clear HR0
    obtain ⟨k, a, c, hk, rfl, hA⟩ := hrel
    by_cases hlt : k < ts.length
    · have h1 : (k : Int) < (ts.length : Int) := by omega
      have h1k : (k : Int) < 900 := by have := HNN.out; omega
      obtain ⟨b, off, rfl, hbl, hc⟩ := hA.rd.ss (by omega)
      have hcell := hc k hlt
      have hstep := rec_take ts k hlt
      obtain ⟨t, et⟩ : ∃ t, ts.getD k ⟨#[]⟩ = t := ⟨_, rfl⟩
      rw [et] at hcell hstep
      have HA := Lib.hid hA
      have HST := Lib.hid hstep
      have hlater : (recoverL (ts.take k)).2.length ≤ k := by
        have := recoverL_len (ts.take k)
        rw [List.length_take] at this
        omega
      have HLT := Lib.hid hlater
      clear hA hstep hlater hc hbl
      by_cases hz : t.size = 0
      · obtain ⟨m1, m2⟩ := no_marks t hz
        have hz2 : ¬ (0 : Int) < (t.size : Int) := by omega
        have HQ := Lib.hid (show recoverL (ts.take (k + 1)) = recoverL (ts.take k) by rw [HST.out]; unfold stepV; rw [m1, m2]; rfl)
        clear m1 m2 hz
        go_wp2_with fail
        refine ⟨⟨k + 1, a, c, by omega, by simp, ?_⟩, by simp [intOf]; omega⟩
        obtain ⟨g1, g2, g3, g4, g5, g6⟩ := HA.out
        rw [← HQ.out] at g2 g3
        exact ⟨g1, g2, g3, g4, g5, g6⟩
      · have hpos : 0 < t.size := by omega
        have hz2 : (0 : Int) < (t.size : Int) := by omega
        have hix := str_index t (0 : Int) 0 rfl hpos
        have hct : ∀ W : World, (Instr.slice 9 (.string t) (some (.int .i64 1)) none none).run Try.prog W = .ok (.string (tailS t)) W := cut_behind t 1 (by omega)
        have e1 := eq_dec _ _ _ (first_state t hpos)
        have e2 := eq_dec _ _ _ (first_change t hpos)
        rw [bl_get t 0 hpos] at e1 e2
        obtain ⟨tb, etb⟩ : ∃ tb, t[0] = tb := ⟨_, rfl⟩
        simp only [etb] at hix e1 e2
        clear hz hpos etb
        cases hs : isState t
        · rw [hs] at e1
          cases hch : isChange t
          · rw [hch] at e2
            have HQ := Lib.hid (show recoverL (ts.take (k + 1)) = recoverL (ts.take k) by rw [HST.out]; unfold stepV; rw [hs, hch]; rfl)
            clear hs hch hct
            go_wp2_with fail
            refine ⟨⟨k + 1, a, c, by omega, by simp, ?_⟩, by simp [intOf]; omega⟩
            obtain ⟨g1, g2, g3, g4, g5, g6⟩ := HA.out
            rw [← HQ.out] at g2 g3
            exact ⟨g1, g2, g3, g4, g5, g6⟩
          · rw [hch] at e2
            have HQ := Lib.hid (show recoverL (ts.take (k + 1)) = ((recoverL (ts.take k)).1, (recoverL (ts.take k)).2 ++ [tailS t]) by rw [HST.out]; unfold stepV; rw [hs, hch]; rfl)
            clear hs hch
            obtain ⟨g1, g2, g3, g4, g5, g6⟩ := HA.out
            obtain ⟨tl, etl⟩ : ∃ tl, tailS t = tl := ⟨_, rfl⟩
            rw [etl] at HQ
            simp only [etl] at hct
            generalize recoverL (ts.take k) = RR at g2 g3 HQ HLT
            obtain ⟨st0, ls⟩ := RR
            simp only at g2 g3 HQ HLT
            have y0 : wr.cell? ⟨X + 1, 0, none⟩ = some (.string st0) := by rw [cell_of_row _ _ _ _ _ _ g2]; rfl
            have y1 : wr.cell? ⟨X + 1, 1, none⟩ = some (.slice a ls.length c) := by rw [cell_of_row _ _ _ _ _ _ g2]; rfl
            have hXl : X + 1 < wr.heap.size := (Array.getElem?_eq_some_iff.1 g2).1
            have hvA : ∀ o : Obj, (wr.alloc o).heap[X + 1]? = some (.cells #[.string st0, .slice a ls.length c] 43) := fun o => by
              rw [(World.grownBy_alloc wr o none).block (X + 1) hXl (by simp)]; exact g2
            have dA : ∀ o : Obj, (wr.alloc o).cell? ⟨X + 1, 1, none⟩ = some (.slice a ls.length c) := fun o => by rw [cell_of_row _ _ _ _ _ _ (hvA o)]; rfl
            have cA : (wr.alloc (.cells #[.string tl] 9)).drew.cell? ⟨wr.heap.size, 0, none⟩ = some (.string tl) := by
              show (wr.alloc (.cells #[.string tl] 9)).cell? ⟨wr.heap.size, 0, none⟩ = some (.string tl)
              rw [cell_of_row _ _ _ _ _ _ (heap_alloc_new _ _)]; rfl
            have HG := Lib.hid (And.intro g1 (And.intro g4 (And.intro g5 g6))); have HO := Lib.hid g3; have HVA := Lib.hid hvA; have HCA := Lib.hid cA
            clear g1 g2 g3 g4 g5 g6 hvA cA hXl HA HST
            go_upto_region 8 with fail
            go_region_law (first
              | (refine step_append_s rfl _ _ rfl B _ ls tl _ rfl (OwnS.dr (OwnS.alloc HO.out _)) rfl HCA.out (by have := HLT.out; have := HNN.out; omega) (by have := HG.out.2.2.1; simp; omega) ?_; intro g cap w2 hO2 hg2; have hY2 : w2.heap[X + 1]? = some (.cells #[.string st0, .slice a ls.length c] 43) := (by rw [hg2.block (X + 1) (Array.getElem?_eq_some_iff.1 (HVA.out _)).1 (own_ne HO.out (X + 1) (by have := HF.out.2; omega))]; exact HVA.out _); have d3 : w2.cell? ⟨X + 1, 1, none⟩ = some (.slice a ls.length c) := (by rw [cell_of_row _ _ _ _ _ _ hY2]; rfl); have f3 := frozen_of_row w2 (X + 1) 1 _ _ hY2; have HO2 := Lib.hid hO2; have HG2 := Lib.hid hg2; have HY2 := Lib.hid hY2; clear hO2 hg2 hY2))
            all_goals
              clear d3 f3 y0 y1 dA hct e1 e2 hix
              go_wp2_with fail
              have hpre : ∀ j, j < wr.heap.size → j < B → w2.heap[j]? = wr.heap[j]? := fun j hj hjB => (HG2.out.block j (by simp; omega) (own_ne HO.out j hjB)).trans (Below.heap_alloc _ _ j hj)
              have hset : ∀ (j : Nat), j ≠ X + 1 → (w2.setCell ⟨X + 1, 1, none⟩ (.slice (some ⟨g, 0, none⟩) (ls.length + 1) cap)).heap[j]? = w2.heap[j]? := fun j hj => Below.heap_setCell _ _ _ j (fun e => hj e)
              have hgs : wr.heap.size ≤ w2.heap.size := by have := HG2.out.size; simp at this; omega
              have hlen : (ls ++ [tl]).length = ls.length + 1 := by simp
              have hBw : w.heap.size ≤ X + 1 := by have := HX.out; omega
              have hX2 := HF.out.2
              refine ⟨⟨k + 1, some ⟨g, 0, none⟩, cap, by omega, by simp, ?_⟩, by simp [intOf]; omega⟩
              refine ⟨?_, ?_, ?_, ?_, ?_, ?_⟩
              · exact (hset X (by omega)).trans ((hpre X (Array.getElem?_eq_some_iff.1 HG.out.1).1 (by omega)).trans HG.out.1)
              · rw [HQ.out, hlen]; exact store_snd HY2.out _
              · rw [HQ.out, hlen]
                exact OwnS.same HO2.out fun j hj => hset j (by have := (World.ownsRow.lt HO2.out j hj).1; omega)
              · refine HG.out.2.1.kept (fun ad had hpos => ?_) (by simp; exact hgs)
                obtain ⟨n1, n2⟩ := HF.out.1 ad had hpos
                exact (hset ad.block (by omega)).trans (hpre ad.block (by have := HG.out.2.2.1; omega) n2)
              · simp; have := HG.out.2.2.1; omega
              · exact ((HG.out.2.2.2.alloc HG.out.2.2.2.size (.cells #[.string tl] 9)).drew.grown HG2.out (by have := HG.out.2.2.2.size; simp; omega) (fun j hj => by have := (World.ownsRow.lt HO.out j hj).1; omega)).setCell (p := ⟨X + 1, 1, none⟩) hBw _
        · rw [hs] at e1
          have hch := state_not t hs
          rw [hch] at e2
          have HQ := Lib.hid (show recoverL (ts.take (k + 1)) = (tailS t, []) by rw [HST.out]; unfold stepV; rw [hs]; rfl)
          clear hch hs
          obtain ⟨g1, g2, g3, g4, g5, g6⟩ := HA.out
          obtain ⟨tl, etl⟩ : ∃ tl, tailS t = tl := ⟨_, rfl⟩
          rw [etl] at HQ
          simp only [etl] at hct
          generalize recoverL (ts.take k) = RR at g2 g3 HLT
          obtain ⟨st0, ls⟩ := RR
          simp only at g2 g3 HLT
          have y0 : wr.cell? ⟨X + 1, 0, none⟩ = some (.string st0) := by rw [cell_of_row _ _ _ _ _ _ g2]; rfl
          have y1 : wr.cell? ⟨X + 1, 1, none⟩ = some (.slice a ls.length c) := by rw [cell_of_row _ _ _ _ _ _ g2]; rfl
          have f0 := frozen_of_row wr (X + 1) 0 _ _ g2
          have f1 := frozen_of_row wr (X + 1) 1 _ _ g2
          have HG := Lib.hid (And.intro g1 (And.intro g4 (And.intro g5 g6))); have HY := Lib.hid (store2 g2 (.string tl) (.slice none 0 0))
          clear g1 g2 g3 g4 g5 g6 HA HST
          go_wp2_with fail
          have hset : ∀ (j : Nat), j ≠ X + 1 → ((wr.setCell ⟨X + 1, 0, none⟩ (.string tl)).setCell ⟨X + 1, 1, none⟩ (.slice none 0 0)).heap[j]? = wr.heap[j]? := fun j hj => (Below.heap_setCell _ _ _ j (fun e => hj e)).trans (Below.heap_setCell _ _ _ j (fun e => hj e))
          have hX2 := HF.out.2
          refine ⟨⟨k + 1, none, 0, by omega, by simp, ?_⟩, by simp [intOf]; omega⟩
          refine ⟨(hset X (by omega)).trans HG.out.1, ?_, ?_, ?_, by simp; exact HG.out.2.2.1, below2 HG.out.2.2.2 (by have := HX.out; omega) _ _⟩
          · rw [HQ.out]; exact HY.out
          · rw [HQ.out]; exact ⟨rfl, .inl ⟨rfl, rfl⟩⟩
          · refine HG.out.2.1.kept (fun ad had hpos => ?_) (by simp)
            obtain ⟨n1, n2⟩ := HF.out.1 ad had hpos
            exact hset ad.block (by omega)
    · obtain rfl : k = ts.length := by omega
      have hn : ¬ (ts.length : Int) < (ts.length : Int) := by omega
      obtain ⟨g1, g2, g3, -, g5, g6⟩ := hA
      rw [List.take_of_length_le (Nat.le_refl _)] at g2 g3
      obtain ⟨RR, eRR⟩ : ∃ RR, recoverL ts = RR := ⟨_, rfl⟩
      rw [eRR] at g2 g3
      have HRR := Lib.hid eRR
      clear eRR
      obtain ⟨st0, ls⟩ := RR
      simp only at g2 g3
      have y0 : wr.cell? ⟨X + 1, 0, none⟩ = some (.string st0) := by rw [cell_of_row _ _ _ _ _ _ g2]; rfl
      have y1 : wr.cell? ⟨X + 1, 1, none⟩ = some (.slice a ls.length c) := by rw [cell_of_row _ _ _ _ _ _ g2]; rfl
      have r0 : wr.cell? ⟨X, 0, none⟩ = some (.string ⟨#[]⟩) := by rw [cell_of_row _ _ _ _ _ _ g1]; rfl
      have r1 : wr.cell? ⟨X, 1, none⟩ = some (.slice none 0 0) := by rw [cell_of_row _ _ _ _ _ _ g1]; rfl
      have f0 := frozen_of_row wr X 0 _ _ g1
      have f1 := frozen_of_row wr X 1 _ _ g1
      have ho2 : OwnS ((wr.setCell ⟨X, 0, none⟩ (.string st0)).setCell ⟨X, 1, none⟩ (.slice a ls.length c)) B (.slice a ls.length c) ls := by
        refine OwnS.same g3 fun j hj => ?_
        have hjB := (World.ownsRow.lt g3 j hj).1
        have hX2 := HF.out.2
        exact (Below.heap_setCell _ _ _ j (fun e => by have : j = X := e; omega)).trans (Below.heap_setCell _ _ _ j (fun e => by have : j = X := e; omega))
      have HE := Lib.hid (And.intro (store2 g1 (.string st0) (.slice a ls.length c)) (And.intro (below2 g6 (Nat.le_of_eq HX.out) (.string st0) (.slice a ls.length c)) ho2))
      clear g1 g2 g3 g5 g6 ho2
      go_wp2_with fail
      clear r0 r1 f0 f1 y0 y1
      generalize World.setCell (World.setCell wr _ _) _ _ = Z at HE ⊢
      have t0 : Z.cell? ⟨X, 0, none⟩ = some (.string st0) := by rw [cell_of_row _ _ _ _ _ _ HE.out.1]; rfl
      have t1 : Z.cell? ⟨X, 1, none⟩ = some (.slice a ls.length c) := by rw [cell_of_row _ _ _ _ _ _ HE.out.1]; rfl
      refine bodyPost_ret (v := .agg #[.string st0, .slice a ls.length c]) (by simp [results, Try.results20, go_sem, t0, t1]) rfl ?_
      rw [HRR.out]
      obtain ⟨a', c', e', hrd⟩ := HE.out.2.2.rd
      cases e'
      exact ⟨a, c, rfl, hrd, HE.out.2.1⟩
end Go.Proofs.Ytimijdmigdlhfaa