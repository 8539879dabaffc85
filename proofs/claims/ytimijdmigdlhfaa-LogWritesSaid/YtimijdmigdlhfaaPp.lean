/- The contract of wire's Unpack. -/
import Derived.Test.YtimijdmigdlhfaaPo
import Derived.Test.YtimijdmigdlhfaaPk
namespace Go.Proofs.Ytimijdmigdlhfaa
open Go.RowKit Go.Sort
set_option maxRecDepth 100000
theorem all_take (l : List UInt8) (k : Nat) (h : k < l.length) (hk : (l.take k).all isKind = true) (hx : isKind (l.getD k 0) = true) : (l.take (k + 1)).all isKind = true := by
  rw [take_snoc l k h, List.all_append, hk, Bool.true_and]
  simp only [List.all_cons, List.all_nil, Bool.and_true]
  exact hx
theorem not_all (l : List UInt8) (k : Nat) (h : k < l.length) (hx : isKind (l.getD k 0) = false) : l.all isKind = false := by
  rw [Bool.eq_false_iff]
  intro ha
  rw [List.all_eq_true] at ha
  have e : l.getD k 0 = l[k] := by simp [List.getD, h]
  have := ha _ (List.getElem_mem h)
  rw [← e, hx] at this
  exact absurd this (by simp)
theorem unpackL_bad (s ks : List UInt8) (h : ks.all isKind = false) : unpackL s ks = ([], 0, 1) := by unfold unpackL; rw [h]; rfl
theorem isKind_cases (k : UInt8) (h : isKind k = true) : k = 110 ∨ k = 116 ∨ k = 42 := by
  unfold isKind at h
  simp at h
  rcases h with (h | h) | h
  · exact Or.inl h
  · exact Or.inr (Or.inl h)
  · exact Or.inr (Or.inr h)
theorem rdV_no (k : UInt8) (h : isKind k = false) : rdV k = .nilFunc := by
  unfold isKind at h
  simp at h
  unfold rdV
  rw [if_neg h.1.1, if_neg h.1.2, if_neg h.2]
theorem eql_nn (W : World) : (binOp .eql 99 .nilFunc .nilFunc).run Try.prog W = .ok (.bool true) W := by rfl
theorem eql_fn (f : Fn) (W : World) : (binOp .eql 99 (.func f #[] #[]) .nilFunc).run Try.prog W = .ok (.bool false) W := by rfl
def K1Rel (W : World) (ks : List UInt8) (i : Value) (wr : World) : Prop := ∃ k : Nat, k ≤ ks.length ∧ i = .int .i64 (k : Int) ∧ (ks.take k).all isKind = true ∧ wr = W
/-- []byte(s), its block too -/
theorem made_blk (s : ByteArray) (w : World) : ∃ c W cs fr, (convert 9 53 (.string s)).run Try.prog w = .ok (.slice (some ⟨w.heap.size, 0, none⟩) s.size c) W ∧ W.heap[w.heap.size]? = some (.cells cs 5 fr) ∧ (∀ i, i < s.size → cs[i]? = some (.int .u8 (((bl s).getD i 0).toNat : Int))) ∧ Below w.heap.size w W ∧ W.heap.size = w.heap.size + 1 := by
  have hrun := Lib.run_convert_string_bytes (P := Try.prog) w 9 53 5 s Try.underlying9 Try.underlying53 Try.underlying5
  have hat := Lib.bytesWorld_at_new w 5 s
  refine ⟨_, _, _, _, hrun, hat, fun i hi => ?_, ⟨rfl, rfl, rfl, by rw [Lib.bytesWorld_size]; omega, fun k hk => Lib.bytesWorld_at_old w _ s k hk⟩, Lib.bytesWorld_size _ _ _⟩
  rw [← cell_of_row (Lib.bytesWorld w 5 s) w.heap.size i _ 5 _ hat]
  exact Lib.bytesWorld_cell w _ s i hi
theorem cf_n (v : Value) (W : World) : (callFunc 56 #[v]).run Try.prog W = .ok (.enter 56 #[v]) W := by kernel_rfl
theorem cf_t (v : Value) (W : World) : (callFunc 57 #[v]).run Try.prog W = .ok (.enter 57 #[v]) W := by kernel_rfl
theorem cf_m (v : Value) (W : World) : (callFunc 58 #[v]).run Try.prog W = .ok (.enter 58 #[v]) W := by kernel_rfl
/-- each kind is read by its reader -/
theorem rd_kind (R : Nat) (s : ByteArray) (st : St) (x : UInt8) (hx : isKind x = true) (hs : s.size ≤ maxLen) (hp : st.2 ≤ s.size) (hl : st.1.length ≤ 80000) (w : World) (hr : Rd w R R s st) (hbase : R ≤ w.heap.size) :
    ∃ f, rdV x = .func (.func f) #[] #[] ∧ (∀ (v : Value) (W : World), (callFunc f #[v]).run Try.prog W = .ok (.enter f #[v]) W) ∧ Calls Try.prog f #[.pointer (some ⟨R, 0, none⟩)] w fun e w' => e = .returned (.bool (stepK (bl s) x st).2) ∧ Rd w' R R s (stepK (bl s) x st).1 ∧ Below R w w' ∧ KeepR w w' := by
  rcases isKind_cases x hx with rfl | rfl | rfl
  · exact ⟨_, rfl, cf_n, rdNumber_any R R s st hs hp (by omega) w hr hbase⟩
  · exact ⟨_, rfl, cf_t, rdText_any R R s st hs hp (by omega) w hr hbase⟩
  · exact ⟨_, rfl, cf_m, rdTexts_any R R s st hs hp hl w hr hbase⟩
theorem drop_at (l : List UInt8) (k : Nat) (h : k < l.length) : l.drop k = l.getD k 0 :: l.drop (k + 1) := by
  rw [List.drop_eq_getElem_cons h]; simp [List.getD, h]
def K2Rel (w : World) (R B g : Nat) (cs : Array Value) (fr : Nat × Nat) (s : ByteArray) (ks : List UInt8) (i : Value) (wr : World) : Prop :=
  ∃ (k : Nat) (st : St), k ≤ ks.length ∧ i = .int .i64 (k : Int) ∧ stepKs (bl s) (ks.drop k) st = stepKs (bl s) ks ([], 0) ∧ st.2 ≤ s.size ∧ st.1.length ≤ 33 * k ∧ Rd wr R R s st ∧ wr.heap[g]? = some (.cells cs 5 fr) ∧ KM wr B ∧ Below w.heap.size w wr ∧ R ≤ wr.heap.size
set_option maxHeartbeats 8000000 in
theorem Unpack_any (s ks : ByteArray) (hs : s.size ≤ maxLen) (hk : ks.size ≤ 1000) (w : World) :
    Calls Try.prog 46 #[.string s, .string ks] w fun e w' => ∃ (a : Option Addr) (c : Nat), e = .returned (.tuple #[.slice a (unpackL (bl s) (bl ks)).1.length c, .int .i64 ((unpackL (bl s) (bl ks)).2.1 : Int), .int .i64 ((unpackL (bl s) (bl ks)).2.2 : Int)]) ∧ (unpackL (bl s) (bl ks)).1.length ≤ c ∧ PSl w' a (unpackL (bl s) (bl ks)).1 ∧ Below w.heap.size w w' := by
  obtain ⟨U, eU⟩ : ∃ U, unpackL (bl s) (bl ks) = U := ⟨_, rfl⟩
  have HU := Lib.hid eU; have HS := Lib.hid (And.intro hs hk)
  rw [eU]
  clear eU hs hk
  go_enter Try.func46, Try.ntmps46
  go_wp2_with fail
  refine (readers_any w).mono ?_
  rintro e w1 ⟨rfl, hb1, hkm1⟩
  obtain ⟨B, eB⟩ : ∃ B, w.heap.size = B := ⟨_, rfl⟩
  rw [eB] at hkm1 ⊢
  obtain ⟨c1, W, hrun, hwy, hwb, -⟩ := made_of ks w1
  have HKM := Lib.hid (hkm1.on hwb); have HB := Lib.hid (hb1.trans (hwb.mono hb1.size)); have HBY := Lib.hid hwy; have HE := Lib.hid eB
  clear hb1 hkm1 hwb hwy eB
  go_wp2_with fail
  clear hrun
  go_loopw [17] (K1Rel W (bl ks)) (fun i _ => ks.size - (intOf i).toNat)
  case atStart => exact ⟨0, Nat.zero_le _, rfl, rfl, rfl⟩
  case round =>
    obtain ⟨k, hk, rfl, hall, rfl⟩ := hrel
    rw [bl_length] at hk
    by_cases hlt : k < ks.size
    · have h1 : (k : Int) < (ks.size : Int) := by omega
      have h1k : (k : Int) < 1000 := by have := HS.out.2; omega
      have hcell := HBY.out.cell k hlt
      obtain ⟨x, ex⟩ : ∃ x, (bl ks).getD k 0 = x := ⟨_, rfl⟩
      rw [ex] at hcell
      have hlook := look_kind x B wr HKM.out
      cases hx : isKind x
      · have hbad := unpackL_bad (bl s) (bl ks) (not_all (bl ks) k hlt (by rw [ex]; exact hx))
        rw [rdV_no x hx] at hlook
        have HBAD := Lib.hid (show U = ([], 0, 1) by rw [← HU.out, hbad])
        clear hbad hx hall ex HBY HKM
        have hen := eql_nn
        go_wp2_with fail
        go_ret3
        rw [HBAD.out]
        exact ⟨none, 0, rfl, Nat.le_refl _, PSl.nil _ _, HB.out⟩
      · have hall2 := Lib.hid (all_take (bl ks) k hlt hall (by rw [ex]; exact hx))
        obtain ⟨f, hf⟩ : ∃ f, rdV x = .func (.func f) #[] #[] := by
          rcases isKind_cases x hx with rfl | rfl | rfl
          · exact ⟨_, rfl⟩
          · exact ⟨_, rfl⟩
          · exact ⟨_, rfl⟩
        rw [hf] at hlook
        clear hf hx hall ex
        have hen := eql_fn
        go_wp2_with fail
        exact ⟨⟨k + 1, by rw [bl_length]; omega, by simp, hall2.out, rfl⟩, by simp [intOf]; omega⟩
    · obtain rfl : k = ks.size := by omega
      have hn : ¬ (ks.size : Int) < (ks.size : Int) := by omega
      rw [List.take_of_length_le (Nat.le_of_eq (bl_length ks))] at hall
      have HALL := Lib.hid hall
      clear hall
      have hRb : Below wr.heap.size wr (wr.alloc (.cells #[.string s, .int .i64 0, .slice none 0 0] 101)) := (Below.refl _ _).alloc (Nat.le_refl _) _
      have hR0 : Rd (wr.alloc (.cells #[.string s, .int .i64 0, .slice none 0 0] 101)) wr.heap.size wr.heap.size s ([], 0) := ⟨Nat.le_refl _, _, heap_alloc_new wr _, OwnP.nil _ _⟩
      have HR0 := Lib.hid hR0; have HRB := Lib.hid hRb
      clear hR0 hRb
      have hKM0 := HKM.out.on HRB.out
      have hB0 := HB.out.trans (HRB.out.mono HB.out.size)
      obtain ⟨R, eR⟩ : ∃ R, wr.heap.size = R := ⟨_, rfl⟩
      have hBR : B < R := by rw [← eR]; exact HKM.out.lt
      have hwR : w.heap.size ≤ R := by rw [← eR]; exact HB.out.size
      go_upto_region 9 with fail
      rw [eR] at HR0
      clear HKM HB HRB HBY eR
      generalize World.alloc wr _ = V at HR0 hKM0 hB0 ⊢
      obtain ⟨c2, W2, cs, fr, hrun, hblk, hcs, hwb, -⟩ := made_blk ks V
      have HR1 := Lib.hid (HR0.out.on hwb); have HKM1 := Lib.hid (hKM0.on hwb); have HB1 := Lib.hid (hB0.trans (hwb.mono hB0.size)); have HBK := Lib.hid hblk; have HCS := Lib.hid hcs
      have HO := Lib.hid (And.intro hBR (And.intro hwR (Nat.le_trans (Nat.le_of_lt HR0.out.lt) hwb.size)))
      obtain ⟨g, eg⟩ : ∃ g, V.heap.size = g := ⟨_, rfl⟩
      rw [eg] at hrun HBK
      clear HR0 hKM0 hB0 hblk hcs hwb hBR hwR eg
      go_wp2_with fail
      clear hrun
      go_loopw [31] (K2Rel w R B g cs fr s (bl ks)) (fun i _ => ks.size - (intOf i).toNat)
      case atStart => exact ⟨0, ([], 0), Nat.zero_le _, rfl, rfl, Nat.zero_le _, Nat.zero_le _, HR1.out, HBK.out, HKM1.out, HB1.out, HO.out.2.2⟩
      case round =>
        clear HR1 HBK HKM1 HB1
        obtain ⟨k, st, hk, rfl, hst, hp, hl, hr, hblk, hkm, hbw, hRw⟩ := hrel
        rw [bl_length] at hk
        by_cases hlt : k < ks.size
        · have h1 : (k : Int) < (ks.size : Int) := by omega
          have h1k : (k : Int) < 1000 := by have := HS.out.2; omega
          have hcell : wr.cell? ⟨g, k, none⟩ = some (.int .u8 (((bl ks).getD k 0).toNat : Int)) := by rw [cell_of_row _ _ _ _ _ _ hblk]; exact HCS.out k hlt
          have hdr := drop_at (bl ks) k hlt
          have hkx : isKind ((bl ks).getD k 0) = true := by
            have ha := HALL.out
            rw [List.all_eq_true] at ha
            have e : (bl ks).getD k 0 = (bl ks)[k]'(by rw [bl_length]; exact hlt) := by simp [List.getD, show k < (bl ks).length from hlt]
            rw [e]
            exact ha _ (List.getElem_mem _)
          obtain ⟨x, ex⟩ : ∃ x, (bl ks).getD k 0 = x := ⟨_, rfl⟩
          rw [ex] at hcell hdr hkx
          rw [hdr, stepKs] at hst
          have hlook := look_kind x B wr hkm
          obtain ⟨f, hf, hcf, hcall⟩ := rd_kind R s st x hkx HS.out.1 hp (by have := HS.out.2; omega) wr hr hRw
          rw [hf] at hlook
          obtain ⟨hq1, hq2⟩ := stepK_le (bl s) x st (by rw [bl_length]; exact hp)
          have HC := Lib.hid hcall
          have HQ := Lib.hid (And.intro hst (And.intro hq1 (show (stepK (bl s) x st).1.1.length ≤ 33 * (k + 1) by omega)))
          have HW := Lib.hid (And.intro hblk (And.intro hkm (And.intro hbw hRw)))
          clear hst hq1 hq2 hcall hf hkx hdr ex hr hblk hkm hbw hRw hp hl hk
          go_wp2_with fail
          refine HC.out.mono ?_
          rintro e w3 ⟨rfl, hr3, hb3, hk3⟩
          obtain ⟨hblk, hkm, hbw, hRw⟩ := HW.out
          have hblk3 := hk3 g _ _ _ hblk (by decide) (by decide)
          have hkm3 : KM w3 B := by unfold KM; rw [hb3.block B HO.out.1]; exact hkm
          have hbw3 : Below w.heap.size w w3 := hbw.trans (hb3.mono HO.out.2.1)
          have hRw3 : R ≤ w3.heap.size := Nat.le_trans hRw hb3.size
          have HR3 := Lib.hid hr3; have HW3 := Lib.hid (And.intro hblk3 (And.intro hkm3 (And.intro hbw3 hRw3)))
          clear hcf hr3 hb3 hk3 hblk hkm hbw hRw hblk3 hkm3 hbw3 hRw3 HC HW hlook hcell
          obtain ⟨hst, hq1, hq2⟩ := HQ.out
          cases hok : (stepK (bl s) x st).2
          · rw [hok] at hst
            have hU : U = ([], (stepK (bl s) x st).1.2, 4) := by
              rw [← HU.out]
              unfold unpackL
              rw [HALL.out, if_pos rfl, ← hst]
              simp only [Bool.false_eq_true, if_false]
              rw [hok, if_neg (by simp)]
            have HU2 := Lib.hid hU
            obtain ⟨c0, c1⟩ := HR3.out.cell
            have hb0 : ∀ n, Below w3.heap.size w3 (w3.drewN n) := fun n => below_redrawn (Below.refl _ _) rfl rfl rfl rfl
            have HB0 := Lib.hid hb0
            obtain ⟨pl, epl⟩ : ∃ pl, (stepK (bl s) x st).1.2 = pl := ⟨_, rfl⟩
            rw [epl] at c1
            have HPL := Lib.hid epl
            clear hst hq1 hq2 hok HQ hU hb0 epl
            go_upto_region 13 with fail
            go_quiet (fail)
            have HBZ := Lib.hid (HW3.out.2.2.1.trans ((HB0.out nq).mono HW3.out.2.2.1.size))
            clear c0 c1 HB0 HW3 HR3
            generalize World.drewN w3 nq = Z at HBZ ⊢
            go_wp2_with fail
            go_ret3
            rw [HU2.out, HPL.out]
            exact ⟨none, 0, rfl, Nat.le_refl _, PSl.nil _ _, HBZ.out⟩
          · rw [hok] at hst
            have HE := Lib.hid (And.intro (show stepKs (bl s) ((bl ks).drop (k + 1)) (stepK (bl s) x st).1 = _ from hst) (And.intro hq1 hq2))
            clear hst hq1 hq2 hok HQ
            go_wp2_with fail
            exact ⟨⟨k + 1, _, by rw [bl_length]; omega, by simp, HE.out.1, HE.out.2.1, HE.out.2.2, HR3.out, HW3.out.1, HW3.out.2.1, HW3.out.2.2.1, HW3.out.2.2.2⟩, by simp [intOf]; omega⟩
        · obtain rfl : k = ks.size := by omega
          have hn : ¬ (ks.size : Int) < (ks.size : Int) := by omega
          rw [List.drop_of_length_le (Nat.le_of_eq (bl_length ks)), stepKs] at hst
          have hUe : U = if st.2 < s.size then ([], st.2, 4) else (st.1, 0, 0) := by
            rw [← HU.out]
            unfold unpackL
            rw [HALL.out, if_pos rfl, ← hst]
            rfl
          obtain ⟨l, pl⟩ := st
          simp only at hp hl hUe
          obtain ⟨c0, c1⟩ := hr.cell
          simp only at c1
          obtain ⟨v, hv, hov⟩ := hr.ex
          obtain ⟨av, cv, rfl, hlc, hpv⟩ := hov.psl
          simp only at hlc hpv hv
          have c2 : wr.cell? ⟨R, 2, none⟩ = some (.slice av l.length cv) := by rw [cell_of_row _ _ _ _ _ _ hv]; rfl
          by_cases hfin : pl < s.size
          · have l1 : (pl : Int) < (s.size : Int) := by omega
            rw [if_pos hfin] at hUe
            have HU2 := Lib.hid hUe
            have hb0 : ∀ n, Below wr.heap.size wr (wr.drewN n) := fun n => below_redrawn (Below.refl _ _) rfl rfl rfl rfl
            have HB0 := Lib.hid hb0; have HBW := Lib.hid hbw
            clear hst hUe hb0 hv hov hlc hpv hr hblk hkm hbw hRw hfin hp hl hk hlt c2
            go_upto_region 16 with fail
            go_quiet (fail)
            have HBZ := Lib.hid (HBW.out.trans ((HB0.out nq).mono HBW.out.size))
            clear c0 c1 HB0 HBW
            generalize World.drewN wr nq = Z at HBZ ⊢
            go_wp2_with fail
            go_ret3
            rw [HU2.out]
            exact ⟨none, 0, rfl, Nat.le_refl _, PSl.nil _ _, HBZ.out⟩
          · have l1 : ¬ (pl : Int) < (s.size : Int) := by omega
            rw [if_neg hfin] at hUe
            have HU2 := Lib.hid hUe; have HF := Lib.hid (And.intro hlc (And.intro hpv hbw))
            clear hst hUe hv hov hlc hpv hr hblk hkm hbw hRw hfin hp hl hk hlt
            go_wp2_with fail
            go_ret3
            rw [HU2.out]
            exact ⟨av, cv, rfl, HF.out.1, HF.out.2.1, HF.out.2.2⟩
end Go.Proofs.Ytimijdmigdlhfaa