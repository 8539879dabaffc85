/- The contract of wire's ahead: what number stands at the place. -/
import Derived.Test.YtimijdmigdlhfaaPd
import Derived.Test.YtimijdmigdlhfaaOh0
import Derived.BigQuiet
namespace Go.Proofs.Ytimijdmigdlhfaa
open Go.RowKit Go.Sort
set_option maxRecDepth 100000
theorem str_from (x g : ByteArray) (n : Nat) (hn : n ≤ x.size) (hg : x.extract n x.size = g) (W : World) : (Instr.slice 9 (.string x) (some (.int .i64 (n : Int))) none none).run Try.prog W = .ok (.string g) W := by
  have l1 : (n : Int) ≤ (x.size : Int) := by omega
  rw [← hg]
  clear hg hn
  go_simp
theorem bits_or_u64 (a b : Nat) (ha : a < 18446744073709551616) (hb : b < 18446744073709551616) : bits .or .u64 (a : Int) (b : Int) = ((a ||| b : Nat) : Int) := by
  show IntKind.u64.wrap (((BitVec.ofInt 64 (a : Int) ||| BitVec.ofInt 64 (b : Int)).toNat : Nat) : Int) = _
  rw [BitVec.toNat_or, BitVec.ofInt_natCast, BitVec.ofInt_natCast, BitVec.toNat_ofNat, BitVec.toNat_ofNat, Nat.mod_eq_of_lt (a := a) ha, Nat.mod_eq_of_lt (a := b) hb]
  have h := Nat.or_lt_two_pow (n := 64) ha hb
  rw [IntKind.wrap_u64]
  omega
theorem valL_take (l : List UInt8) (k : Nat) (h : k < l.length) : valL (l.take (k + 1)) = 256 * valL (l.take k) + (l.getD k 0).toNat := by
  rw [take_snoc l k h, valL_snoc]
/-- what a reader's block holds -/
structure RdCell (w : World) (R : Nat) (s : ByteArray) (p : Nat) : Prop where
  c0 : w.cell? ⟨R, 0, none⟩ = some (.string s)
  c1 : w.cell? ⟨R, 1, none⟩ = some (.int .i64 (p : Int))
def AheadRel (W : World) (M : Nat) (dl : List UInt8) (v i : Value) (wr : World) : Prop :=
  ∃ k : Nat, k ≤ M ∧ i = .int .i64 (k : Int) ∧ v = .int .u64 (valL (dl.take k) : Int) ∧ wr = W
def aheadV (s : ByteArray) (p : Nat) : Value := match ahead ((bl s).drop p) with
  | none => .tuple #[.int .u64 0, .int .i64 0, .bool false]
  | some (n, k) => .tuple #[.int .u64 (n : Int), .int .i64 ((p + k : Nat) : Int), .bool true]
theorem aheadV_none (s : ByteArray) (p : Nat) (h : ahead ((bl s).drop p) = none) : aheadV s p = .tuple #[.int .u64 0, .int .i64 0, .bool false] := by unfold aheadV; rw [h]
theorem aheadV_some (s : ByteArray) (p n k : Nat) (h : ahead ((bl s).drop p) = some (n, k)) : aheadV s p = .tuple #[.int .u64 (n : Int), .int .i64 ((p + k : Nat) : Int), .bool true] := by unfold aheadV; rw [h]
theorem RdCell.on {w w' : World} {R : Nat} {s : ByteArray} {p : Nat} (h : RdCell w R s p) (hb : Below w.heap.size w w') : RdCell w' R s p := by
  have hlt := World.block_lt_of_cell? w _ h.c0
  exact ⟨by rw [hb.cell (p := ⟨R, 0, none⟩) hlt]; exact h.c0, by rw [hb.cell (p := ⟨R, 1, none⟩) hlt]; exact h.c1⟩
set_option maxHeartbeats 4000000 in
theorem ahead_any (R : Nat) (s : ByteArray) (p : Nat) (hs : s.size ≤ maxLen) (hp : p ≤ s.size) (w : World) (hr : RdCell w R s p) :
    Calls Try.prog 60 #[.pointer (some ⟨R, 0, none⟩)] w fun e w' => e = .returned (aheadV s p) ∧ Below w.heap.size w w' := by
  have HR := Lib.hid hr
  obtain ⟨c0, c1⟩ := hr
  obtain ⟨r, er⟩ : ∃ r, s.extract p s.size = r := ⟨_, rfl⟩
  have hsl := str_from s r p hp er
  have hbr : bl r = (bl s).drop p := by rw [← er, bl_extract, List.take_of_length_le (by rw [bl_length]; exact Nat.le_refl _)]
  have hrs : r.size = s.size - p := by rw [← bl_length, hbr, List.length_drop, bl_length]
  unfold maxLen at hs
  have HRS := Lib.hid (And.intro hrs (And.intro hp (And.intro hs hbr)))
  clear er hbr hrs hp hs
  have hb0 : ∀ n, Below w.heap.size w (w.drewN n) := fun n => below_redrawn (Below.refl _ _) rfl rfl rfl rfl
  have HB0 := Lib.hid hb0
  clear hb0
  go_enter Try.func60, Try.ntmps60
  go_upto_region 1 with fail
  go_quiet (fail)
  have HB := Lib.hid (HB0.out nq)
  have HR1 := Lib.hid (HR.out.on (HB0.out nq))
  clear c0 c1 hsl HB0 HR
  generalize World.drewN w nq = V at HB HR1 ⊢
  by_cases h0 : r.size = 0
  · have e0 : bl r = [] := List.eq_nil_of_length_eq_zero (by rw [bl_length]; exact h0)
    have hem := str_lit r [] [] e0
    have HV := Lib.hid (aheadV_none s p (by rw [← HRS.out.2.2.2, e0]; rfl))
    simp only [decide_true] at hem
    clear h0 e0 HRS
    go_wp2_with fail
    go_ret3
    rw [HV.out]
    exact ⟨rfl, HB.out⟩
  · obtain ⟨m, t, emt⟩ : ∃ m t, bl r = m :: t := by
      rcases h : bl r with _ | ⟨m, t⟩
      · exact absurd (by rw [← bl_length, h]; rfl) h0
      · exact ⟨m, t, rfl⟩
    have hem : (r.toList == []) = false := by rw [str_lit r (m :: t) [] emt]; rfl
    have hix : ∀ W : World, (Instr.index 9 (.string r) (.int .i64 0)).run Try.prog W = .ok (.int .u8 (m.toNat : Int)) W := fun W => by
      have := str_index r 0 0 rfl (by omega) W
      rw [← bl_get r 0 (by omega), emt] at this
      exact this
    have hts : r.size = t.length + 1 := by rw [← bl_length, emt]; rfl
    obtain ⟨M, eM⟩ : ∃ M : Nat, m.toNat = M := ⟨_, rfl⟩
    rw [eM] at hix
    have hM256 : M < 256 := by rw [← eM]; exact m.toNat_lt
    have hM256' : (M : Int) < 256 := by omega
    have hah : ∀ x, (if M ≤ 8 ∧ M ≤ t.length ∧ (t.take M).head? ≠ some 0 then some (valL (t.take M), 1 + M) else none) = x → ahead ((bl s).drop p) = x := fun x h => by
      rw [← HRS.out.2.2.2, emt, ← h, ← eM]; rfl
    have HAH := Lib.hid hah
    clear hah eM
    by_cases h8 : 8 < M
    · have l8 : (8 : Int) < (M : Int) := by omega
      have HV := Lib.hid (aheadV_none s p (HAH.out none (by rw [if_neg (by omega)])))
      clear HAH h8 hts emt h0 HRS
      go_wp2_with fail
      go_ret3
      rw [HV.out]
      exact ⟨rfl, HB.out⟩
    · have l8 : ¬ (8 : Int) < (M : Int) := by omega
      by_cases hML : r.size ≤ M
      · have lm : (r.size : Int) ≤ (M : Int) := by omega
        have HV := Lib.hid (aheadV_none s p (HAH.out none (by rw [if_neg (by omega)])))
        clear HAH h8 hts emt h0 HRS
        go_wp2_with fail
        go_ret3
        rw [HV.out]
        exact ⟨rfl, HB.out⟩
      · have lm : ¬ (r.size : Int) ≤ (M : Int) := by omega
        obtain ⟨d, ed⟩ : ∃ d, r.extract 1 (1 + M) = d := ⟨_, rfl⟩
        have hsd : ∀ W : World, (Instr.slice 9 (.string r) (some (.int .i64 1)) (some (.int .i64 (1 + (M : Int)))) none).run Try.prog W = .ok (.string d) W := fun W => by
          rw [← ed]
          exact str_slice (P := Try.prog) 9 Try.underlying9 r 1 (1 + (M : Int)) 1 (1 + M) rfl (by omega) (by omega) (by omega) W
        have hbd : bl d = t.take M := by rw [← ed, bl_extract, emt, Nat.add_comm, List.take_succ_cons, List.drop_one, List.tail_cons]
        have hds : d.size = M := by rw [← bl_length, hbd, List.length_take]; omega
        have hsd0 : ∀ W : World, 0 < M → (Instr.index 9 (.string d) (.int .i64 0)).run Try.prog W = .ok (.int .u8 ((((t.take M).getD 0 0).toNat : Nat) : Int)) W := fun W hW => by
          have := str_index d 0 0 rfl (by omega) W
          rw [← bl_get d 0 (by omega), hbd] at this
          exact this
        -- the ways behind the digits
        have HDS := Lib.hid (And.intro (show (bl d).length = M from hds) (And.intro hbd (show M ≤ t.length by omega)))
        have HAH2 := HAH
        obtain ⟨cc, W, hrun, hwy, hwb, -⟩ := made_of d V
        rw [hds] at hrun
        have hM8 : (M : Int) ≤ 8 := by omega
        by_cases hM0 : 0 < M
        · have hd0 := fun W => hsd0 W hM0
          obtain ⟨z, ez⟩ : ∃ z, (t.take M).getD 0 0 = z := ⟨_, rfl⟩
          rw [ez] at hd0
          have hm0 : (0 : Int) < (M : Int) := by omega
          have hhead : (t.take M).head? = some z := by
            rw [← ez, List.head?_eq_getElem?, List.getD_eq_getElem?_getD]
            have : 0 < (t.take M).length := by rw [List.length_take]; omega
            rw [List.getElem?_eq_getElem this, Option.getD_some]
          by_cases hz : z = 0
          · subst hz
            have HV := Lib.hid (aheadV_none s p (HAH.out none (by rw [if_neg (by rw [hhead]; simp)])))
            have hz0 : (((0 : UInt8).toNat : Nat) : Int) = 0 := rfl
            rw [hz0] at hd0
            clear HAH h8 hts emt h0 HRS HAH2 hrun hwy hwb hsd0 ed hbd hds HDS hz0 ez hhead hM0
            go_wp2_with fail
            go_ret3
            rw [HV.out]
            exact ⟨rfl, HB.out⟩
          · have hzb : ((z.toNat : Int) == 0) = false := by
              rw [beq_eq_false_iff_ne]; intro e
              exact hz (UInt8.toNat_inj.1 (by show z.toNat = 0; omega))
            have HV := Lib.hid (aheadV_some s p _ _ (HAH.out _ (by rw [if_pos ⟨by omega, by omega, by rw [hhead]; simpa using hz⟩])))
            clear HAH h8 hts emt h0 hsd0 ed hbd hds ez hhead hM0 hz
            go_upto_region 11 with fail
            clear hsd hix hem HAH2
            have HRW := Lib.hid (HR1.out.on hwb)
            have HBW := Lib.hid (HB.out.trans (hwb.mono HB.out.size))
            have HBY := Lib.hid hwy
            clear hwb hwy HR1 HB
            go_wp2_with fail
            clear hrun
            go_loopw [8, 47] (AheadRel W M (bl d)) (fun _ i _ => M - (intOf i).toNat)
            case atStart => exact ⟨0, Nat.zero_le _, rfl, rfl, rfl⟩
            case round =>
              obtain ⟨k, hk, rfl, rfl, rfl⟩ := hrel
              by_cases hkM : k < M
              · have hkl : k < (bl d).length := by rw [HDS.out.1]; exact hkM
                have hcell := HBY.out.cell k hkl
                have hstep := valL_take (bl d) k hkl
                have hlt := valL_lt ((bl d).take k)
                have hpow : 256 ^ ((bl d).take k).length ≤ 256 ^ 7 := Nat.pow_le_pow_right (by omega) (by rw [List.length_take, HDS.out.1]; omega)
                obtain ⟨x, ex⟩ : ∃ x, (bl d).getD k 0 = x := ⟨_, rfl⟩
                obtain ⟨y, ey⟩ : ∃ y, valL ((bl d).take k) = y := ⟨_, rfl⟩
                rw [ex] at hcell hstep
                rw [ey] at hstep hlt ⊢
                have hx := x.toNat_lt
                have h7 : (256 : Nat) ^ 7 = 72057594037927936 := by decide
                rw [h7] at hpow
                have hor := bits_or_u64 (y * 256) x.toNat (by omega) (by omega)
                have hsum := or_sum y x.toNat 8 (by omega)
                rw [show (2 : Nat) ^ 8 = 256 from rfl] at hsum
                rw [hsum, show ((y * 256 : Nat) : Int) = (y : Int) * 256 by omega] at hor
                have hk1 : (k : Int) < (M : Int) := by omega
                have hk2 : (k : Int) < 8 := by omega
                have hwr : IntKind.u64.wrap ((y : Int) * 256) = ((y * 256 : Nat) : Int) := by rw [IntKind.wrap_u64]; omega
                have HST := Lib.hid hstep
                clear hlt hpow hsum ex ey hstep h7
                have HOR := Lib.hid hor
                clear hor
                go_wp2_with fail
                refine ⟨⟨k + 1, by omega, by simp, ?_, rfl⟩, by simp [intOf]; omega⟩
                rw [HOR.out, HST.out, Nat.mul_comm y 256]
              · obtain rfl : k = M := by omega
                have htk : (bl d).take k = t.take k := by rw [List.take_of_length_le (by rw [HDS.out.1]; exact Nat.le_refl _), HDS.out.2.1]
                rw [htk]
                have hn : ¬ (k : Int) < (k : Int) := by omega
                obtain ⟨c0, c1⟩ := HRW.out
                obtain ⟨hq1, hq2, hq3, -⟩ := HRS.out
                have hw1 : IntKind.i64.wrap ((p : Int) + 1) = (p : Int) + 1 := IntWalk.i64_in _ (by omega)
                have hw2 : IntKind.i64.wrap ((p : Int) + 1 + (k : Int)) = (p : Int) + 1 + (k : Int) := IntWalk.i64_in _ (by omega)
                have hb0 : ∀ n, Below wr.heap.size wr (wr.drewN n) := fun n => below_redrawn (Below.refl _ _) rfl rfl rfl rfl
                have HB0 := Lib.hid hb0
                clear htk hb0 hq1 hq2 hq3 hk hkM
                go_upto_region 16 with fail
                go_quiet (fail)
                have HBZ := Lib.hid (HBW.out.trans ((HB0.out nq).mono HBW.out.size))
                clear c0 c1 hw1 hw2 HB0
                generalize World.drewN wr nq = Z at HBZ ⊢
                go_wp2_with fail
                go_ret3
                rw [HV.out]
                exact ⟨by rw [show ((p + (1 + k) : Nat) : Int) = (p : Int) + 1 + (k : Int) by omega]; rfl, HBZ.out⟩
        · have hm0 : ¬ (0 : Int) < (M : Int) := by omega
          have HV := Lib.hid (aheadV_some s p _ _ (HAH.out _ (by rw [if_pos ⟨by omega, by omega, by rw [show M = 0 by omega]; simp⟩])))
          clear HAH h8 hts emt h0 hsd0 ed hbd hds hM0
          go_upto_region 11 with fail
          clear hsd hix hem HAH2
          have HRW := Lib.hid (HR1.out.on hwb)
          have HBW := Lib.hid (HB.out.trans (hwb.mono HB.out.size))
          have HBY := Lib.hid hwy
          clear hwb hwy HR1 HB
          go_wp2_with fail
          clear hrun
          go_loopw [8, 47] (AheadRel W M (bl d)) (fun _ i _ => M - (intOf i).toNat)
          case atStart => exact ⟨0, Nat.zero_le _, rfl, rfl, rfl⟩
          case round =>
            obtain ⟨k, hk, rfl, rfl, rfl⟩ := hrel
            by_cases hkM : k < M
            · have hkl : k < (bl d).length := by rw [HDS.out.1]; exact hkM
              have hcell := HBY.out.cell k hkl
              have hstep := valL_take (bl d) k hkl
              have hlt := valL_lt ((bl d).take k)
              have hpow : 256 ^ ((bl d).take k).length ≤ 256 ^ 7 := Nat.pow_le_pow_right (by omega) (by rw [List.length_take, HDS.out.1]; omega)
              obtain ⟨x, ex⟩ : ∃ x, (bl d).getD k 0 = x := ⟨_, rfl⟩
              obtain ⟨y, ey⟩ : ∃ y, valL ((bl d).take k) = y := ⟨_, rfl⟩
              rw [ex] at hcell hstep
              rw [ey] at hstep hlt ⊢
              have hx := x.toNat_lt
              have h7 : (256 : Nat) ^ 7 = 72057594037927936 := by decide
              rw [h7] at hpow
              have hor := bits_or_u64 (y * 256) x.toNat (by omega) (by omega)
              have hsum := or_sum y x.toNat 8 (by omega)
              rw [show (2 : Nat) ^ 8 = 256 from rfl] at hsum
              rw [hsum, show ((y * 256 : Nat) : Int) = (y : Int) * 256 by omega] at hor
              have hk1 : (k : Int) < (M : Int) := by omega
              have hk2 : (k : Int) < 8 := by omega
              have hwr : IntKind.u64.wrap ((y : Int) * 256) = ((y * 256 : Nat) : Int) := by rw [IntKind.wrap_u64]; omega
              have HST := Lib.hid hstep
              clear hlt hpow hsum ex ey hstep h7
              have HOR := Lib.hid hor
              clear hor
              go_wp2_with fail
              refine ⟨⟨k + 1, by omega, by simp, ?_, rfl⟩, by simp [intOf]; omega⟩
              rw [HOR.out, HST.out, Nat.mul_comm y 256]
            · obtain rfl : k = M := by omega
              have htk : (bl d).take k = t.take k := by rw [List.take_of_length_le (by rw [HDS.out.1]; exact Nat.le_refl _), HDS.out.2.1]
              rw [htk]
              have hn : ¬ (k : Int) < (k : Int) := by omega
              obtain ⟨c0, c1⟩ := HRW.out
              obtain ⟨hq1, hq2, hq3, -⟩ := HRS.out
              have hw1 : IntKind.i64.wrap ((p : Int) + 1) = (p : Int) + 1 := IntWalk.i64_in _ (by omega)
              have hw2 : IntKind.i64.wrap ((p : Int) + 1 + (k : Int)) = (p : Int) + 1 + (k : Int) := IntWalk.i64_in _ (by omega)
              have hb0 : ∀ n, Below wr.heap.size wr (wr.drewN n) := fun n => below_redrawn (Below.refl _ _) rfl rfl rfl rfl
              have HB0 := Lib.hid hb0
              clear htk hb0 hq1 hq2 hq3 hk hkM
              go_upto_region 16 with fail
              go_quiet (fail)
              have HBZ := Lib.hid (HBW.out.trans ((HB0.out nq).mono HBW.out.size))
              clear c0 c1 hw1 hw2 HB0
              generalize World.drewN wr nq = Z at HBZ ⊢
              go_wp2_with fail
              go_ret3
              rw [HV.out]
              exact ⟨by rw [show ((p + (1 + k) : Nat) : Int) = (p : Int) + 1 + (k : Int) by omega]; rfl, HBZ.out⟩
end Go.Proofs.Ytimijdmigdlhfaa