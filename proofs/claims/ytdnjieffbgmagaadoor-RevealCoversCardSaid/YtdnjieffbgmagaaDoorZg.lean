/- The reference 14: why a frame may not be asked for; the key that covers it. -/
import Derived.Test.YtdnjieffbgmagaaDoorZa
import Derived.Test.YtdnjieffbgmagaaDoorZc
import Derived.Test.YtdnjieffbgmagaaDoorBg10
import Derived.Test.YtdnjieffbgmagaaDoorBg18
import Derived.Test.YtdnjieffbgmagaaDoorBRg2
import Derived.Test.YtdnjieffbgmagaaDoorBg12
import Derived.Lib.QuietBelow
import Derived.BigQuiet
namespace Go.Proofs.YtdnjieffbgmagaaDoor
open Go.RowKit Go.Sort
set_option maxRecDepth 100000

set_option maxHeartbeats 4000000 in
theorem Why14_any (f : Fr) (a : Option Addr) (c : Nat) (hl : f.keys.length ≤ maxLen) (w : World) (hp : SSl w a f.keys) :
    Calls Tryd.prog 17 #[frV f a c] w fun e w' => e = .returned (.int .i64 (whyF f)) ∧ Below w.heap.size w w' := by
  obtain ⟨W, eW⟩ : ∃ W, w.alloc (.cells (frL f a c).toArray 32) = W := ⟨_, rfl⟩
  have hbW : Below w.heap.size w W := by rw [← eW]; exact (Below.refl _ _).alloc (Nat.le_refl _) _
  have hX : BlkV W w.heap.size 32 (frL f a c) := by rw [← eW]; exact BlkV.fresh _ _ _ _ rfl _ rfl
  have hr := r8Right_any f a c hl W (hp.on hbW)
  have ef : frV f a c = .agg (frL f a c).toArray := rfl
  rw [ef] at hr ⊢
  have HR := Lib.hid hr; have HX := Lib.hid hX; have HB := Lib.hid hbW; have HE := Lib.hid eW
  clear hr hX hbW eW ef hl hp
  go_enter Tryd.func17, Tryd.ntmps17
  go_upto_region 1 with fail
  generalize hG : World.alloc w _ = G
  obtain rfl : W = G := by rw [← hG, ← HE.out]
  clear hG HE
  refine wp_region_lit ?_
  refine load_v rfl _ _ rfl w.heap.size rfl HX.out Tryd.underlying32 rfl (by kernel_rfl) ?_
  iterate 1 (refine wpList_step (fun K hK => ?_); go_simp)
  refine HR.out.mono ?_
  rintro e w1 ⟨rfl, hb⟩
  have g := HX.out.on hb
  have f0 : w1.cell? ⟨w.heap.size, 0, none⟩ = some (.int .i64 f.kind) := g.cell 0 _ rfl
  have fb : w1.cell? ⟨w.heap.size, 11, none⟩ = some (.string f.body) := g.cell 11 _ rfl
  have HB1 := Lib.hid (HB.out.trans (hb.mono HB.out.size))
  clear hb g HB HR HX
  rename_i K hK
  refine hK _ _ ?_
  clear hK K
  by_cases hr : rightF f = true
  case neg =>
    have hrf : rightF f = false := by simpa using hr
    have HW := Lib.hid (show whyF f = 1 by unfold whyF; rw [if_pos (fun h => hr h.1)])
    rw [hrf]
    clear hr hrf
    go_wp2_with fail
    go_ret
    exact ⟨by rw [HW.out]; rfl, HB1.out⟩
  case pos =>
    rw [hr]
    by_cases hk : f.kind = 2
    case pos =>
      have HW := Lib.hid (show whyF f = 1 by unfold whyF; rw [if_pos (fun h => h.2 hk)])
      rw [hk] at f0
      clear hr hk
      go_wp2_with fail
      go_ret
      exact ⟨by rw [HW.out]; rfl, HB1.out⟩
    case neg =>
      have e3 : ¬ ¬ (rightF f = true ∧ f.kind ≠ 2) := fun h => h ⟨hr, hk⟩
      have hkd : (f.kind == 2) = false := by rw [beq_eq_false_iff_ne]; exact hk
      obtain ⟨kd, ekd⟩ : ∃ kd, f.kind = kd := ⟨_, rfl⟩
      rw [ekd] at f0 hkd
      by_cases hs : f.body.size < 32
      case pos =>
        have HW := Lib.hid (show whyF f = 2 by unfold whyF; rw [if_neg e3, if_pos hs])
        have hlt : (f.body.size : Int) < 32 := by omega
        clear hr hk ekd e3 hs
        go_wp2_with fail
        go_ret
        exact ⟨by rw [HW.out]; rfl, HB1.out⟩
      case neg =>
        have HW := Lib.hid (show whyF f = 0 by unfold whyF; rw [if_neg e3, if_neg hs])
        have hlt : ¬ (f.body.size : Int) < 32 := by omega
        clear hr hk ekd e3 hs
        go_wp2_with fail
        go_ret
        exact ⟨by rw [HW.out]; rfl, HB1.out⟩
def K14Rel (w : World) (h x y : ByteArray) (l : List ByteArray) (_B : Nat) (L : List Value) (kc : List Value) (i : Value) (wr : World) : Prop :=
  ∃ k : Nat, k ≤ l.length ∧ i = .int .i64 (k : Int) ∧ firstK h x y (l.drop k) = firstK h x y l ∧ Below w.heap.size w wr ∧ BlkV wr (w.heap.size + 1) 32 L ∧ BlkV wr w.heap.size 49 kc
set_option maxHeartbeats 8000000 in
theorem Key14_any (kv : Value) (f : Fr) (a : Option Addr) (c : Nat) (hw0 : whyF f = 0) (ho : FrOk f) (la : Option Addr) (lc : Nat) (l : List ByteArray) (hl : l.length ≤ 1000) (w : World) (hk : KAt w kv) (hp : SSl w la l) :
    Calls Tryd.prog 19 #[kv, .slice la l.length lc, frV f a c] w fun e w' => e = .returned (.string (keyF f l)) ∧ Below w.heap.size w w' := by
  obtain ⟨hr, hk2, hb32⟩ := whyF_zero hw0
  have hab := able_of hr hk2 ho
  have hhs := hidB_size f hb32
  obtain ⟨v0, v1, ekv, -, -⟩ := id hk
  obtain ⟨W0, eW0⟩ : ∃ W0, w.alloc (.cells #[v0, v1] 49) = W0 := ⟨_, rfl⟩
  obtain ⟨W, eW⟩ : ∃ W, W0.alloc (.cells (frL f a c).toArray 32) = W := ⟨_, rfl⟩
  have z0 : W0.heap.size = w.heap.size + 1 := by rw [← eW0]; simp
  have hb0 : Below w.heap.size w W0 := by rw [← eW0]; exact (Below.refl _ _).alloc (Nat.le_refl _) _
  have hbW : Below w.heap.size w W := by rw [← eW]; exact hb0.alloc hb0.size _
  have hX0 : BlkV W w.heap.size 49 [v0, v1] := by rw [← eW, ← eW0]; exact (BlkV.fresh _ _ _ _ rfl _ rfl).alloc _
  have hX1 : BlkV W (w.heap.size + 1) 32 (frL f a c) := by rw [← eW]; exact BlkV.fresh _ _ _ _ rfl _ z0.symm
  have hh := fun V => rHead_any f a c (right_sz f hr) ho V
  have ef : frV f a c = .agg (frL f a c).toArray := rfl
  rw [ef] at hh ⊢
  unfold keyF
  have hag := fun (q : ByteArray) (hq : q.size = 32) (V : World) (hV : Below w.heap.size w V) => refagain_any kv q (strL (headF f)) (hidB f) (by omega) hab.head (by have := hab.body; omega) V (hk.on hV)
  obtain ⟨HD, eHD⟩ : ∃ HD, strL (headF f) = HD := ⟨_, rfl⟩
  obtain ⟨hd, ehd⟩ : ∃ hd, hidB f = hd := ⟨_, rfl⟩
  have hcut : f.body.extract 0 (f.body.size - 32) = hd := by rw [← ehd]; rfl
  rw [eHD] at hh hag ⊢
  rw [ehd] at hag ⊢
  obtain ⟨m, em⟩ : ∃ m : Nat, (f.body.size : Int) - 32 = (m : Int) := ⟨f.body.size - 32, by omega⟩
  have hm : f.body.extract 0 m = hd := by rw [← hcut]; congr 1; omega
  have hmb : (m : Int) ≤ (f.body.size : Int) := by omega
  have hbb := hab.body
  obtain ⟨bd, ebd⟩ : ∃ bd, f.body = bd := ⟨_, rfl⟩
  have hL11 : (frL f a c)[11]? = some (.string bd) := by rw [← ebd]; rfl
  obtain ⟨L, eL⟩ : ∃ L, frL f a c = L := ⟨_, rfl⟩
  have hLl : L.length = 13 := by rw [← eL]; rfl
  rw [ebd] at em hm hmb hbb ⊢
  rw [eL] at hX1 hh hL11 ⊢
  subst ekv
  have HH := Lib.hid hh; have HAG := Lib.hid hag; have HX := Lib.hid (And.intro hX0 hX1); have HB := Lib.hid hbW; have HE := Lib.hid (And.intro eW0 (And.intro eW eL)); have HP := Lib.hid hp; have HL := Lib.hid (And.intro hl (And.intro hLl hL11)); have HM := Lib.hid (And.intro em (And.intro hm (And.intro hmb hbb)))
  clear hh hag hX0 hX1 hbW eW0 eW z0 hb0 ef hl hp hk ho hr hk2 hb32 hab hhs eHD ehd hcut em hm hmb hbb ebd eL hLl hL11 hw0
  go_enter Tryd.func19, Tryd.ntmps19
  go_upto_region 1 with fail
  generalize hG : World.alloc (World.alloc w _) _ = G
  obtain rfl : W = G := by rw [← hG, ← HE.out.2.1, ← HE.out.1, ← HE.out.2.2]
  clear hG HE
  go_wp2_with fail
  go_loopw [11] (K14Rel w HD hd bd l 0 L [v0, v1]) (fun i _ => l.length - (intOf i).toNat)
  case atStart => exact ⟨0, Nat.zero_le _, rfl, by rw [List.drop_zero], HB.out, HX.out.2, HX.out.1⟩
  case round =>
    clear HB HX
    obtain ⟨k, hk, rfl, hfk, hB, hX, hX0⟩ := hrel
    by_cases hlt : k < l.length
    · have h1 : (k : Int) < (l.length : Int) := by omega
      have h1k : (k : Int) < 1000 := by have := HL.out; omega
      obtain ⟨g, off, rfl, hbl, hc⟩ := HP.out (by omega)
      have hcell : wr.cell? ⟨g, off + k, none⟩ = some (.string (l.getD k ⟨#[]⟩)) := by rw [hB.cell (p := ⟨g, off + k, none⟩) hbl]; exact hc k hlt
      have hyes := firstK_yes HD hd bd l k hlt
      have hno := firstK_no HD hd bd l k hlt
      obtain ⟨q, eq⟩ : ∃ q, l.getD k ⟨#[]⟩ = q := ⟨_, rfl⟩
      rw [eq] at hcell hyes hno
      have HX1 := Lib.hid (And.intro hX hX0); have HB1 := Lib.hid hB
      clear hc eq hbl hX hX0 hB
      by_cases hq : q.size = 32
      case neg =>
        have hqn : ((q.size : Int) == 32) = false := by rw [beq_eq_false_iff_ne]; omega
        have HFK := Lib.hid ((hno (fun e => hq e.1)).symm.trans hfk)
        clear hyes hno hfk hq
        go_upto_region 4 with fail
        go_quiet (fail)
        go_wp2_with fail
        exact ⟨⟨k + 1, by omega, by simp, HFK.out, below_dn' HB1.out _, HX1.out.1, HX1.out.2⟩, by simp [intOf]; omega⟩
      case pos =>
        have hqn : ((q.size : Int) == 32) = true := by rw [hq]; rfl
        go_upto_region 4 with fail
        have hag := fun (d : Nat) (os : Array Obj) => HAG.out q hq (grow (redrawn wr d) os) (HB1.out.trans ((below_regrown wr d os).mono HB1.out.size))
        have hhd := fun (d : Nat) (os : Array Obj) => HH.out (grow (redrawn wr d) os)
        obtain ⟨A, eA⟩ : ∃ A, strL (againL (bl q) (bl HD) (bl hd)) = A := ⟨_, rfl⟩
        have hA : againS q HD hd = A := eA
        rw [eA] at hag
        rw [hA] at hyes hno
        have d11 : wr.cell? ⟨w.heap.size + 1, 11, none⟩ = some (.string bd) := HX1.out.1.cell 11 _ HL.out.2.2
        have q11 := cell_regrown d11
        have hsub : IntKind.i64.wrap ((bd.size : Int) - 32) = (m : Int) := by have := HM.out; rw [IntKind.wrap_i64]; omega
        have hsl : ∀ V : World, (Instr.slice 9 (.string bd) none (some (.int .i64 (m : Int))) none).run Tryd.prog V = .ok (.string hd) V := fun V => by
          have h2 := HM.out.2.2.1
          have h3 := HM.out.2.1
          go_simp
        have HAG1 := Lib.hid hag; have HHD := Lib.hid hhd; have HY := Lib.hid (And.intro hyes (And.intro hno hfk)); have HQ := Lib.hid hq
        have HO := Lib.hid (fun (w' : World) (h : ∃ p : Regrown, w' = grow (redrawn wr p.d) p.os) => (show BlkV w' (w.heap.size + 1) 32 L by obtain ⟨⟨dd, os⟩, rfl⟩ := h; exact HX1.out.1.on (below_regrown wr dd os)))
        have HO' := Lib.hid (fun (w' : World) (h : ∃ p : Regrown, w' = grow (redrawn wr p.d) p.os) => (show BlkV w' w.heap.size 49 [v0, v1] by obtain ⟨⟨dd, os⟩, rfl⟩ := h; exact HX1.out.2.on (below_regrown wr dd os)))
        clear hag hhd hyes hno hfk hq d11 eA hA
        refine wp_region_quiet_below (by kernel_rfl) (by kernel_rfl) ?_
        iterate 4 (go_big_quiet_step (fail))
        refine load_qY (by rfl) _ _ rfl w.heap.size rfl (l := [v0, v1]) HO'.out Tryd.underlying49 rfl (by kernel_rfl) ?_
        try simp only [Act.put, List.setIfInBounds_toArray, List.set_cons_zero, List.set_cons_succ]
        iterate 1 (go_big_quiet_step (fail))
        refine load_qY (by rfl) _ _ rfl (w.heap.size + 1) rfl (l := L) HO.out Tryd.underlying32 rfl (by rw [HL.out.2.1]; kernel_rfl) ?_
        try simp only [Act.put, List.setIfInBounds_toArray, List.set_cons_zero, List.set_cons_succ]
        iterate 1 (go_big_quiet_step (first | (go_at_call 36; with_reducible exact Calls.regrown_of (HHD.out _ _))))
        iterate 7 (go_big_quiet_step (fail))
        iterate 1 (go_big_quiet_step (first | (go_at_call 35; with_reducible exact Calls.regrown_of (HAG1.out _ _))))
        obtain ⟨cb, ecb⟩ : ∃ cb, decide (A = bd) = cb := ⟨_, rfl⟩
        have hcmp : (A.toList == bd.toList) = cb := by rw [str_eqZ, ecb]
        have HCB := Lib.hid ecb
        clear ecb
        iterate 4 (go_big_quiet_step (fail))
        refine wpQuiet_nil ?_
        intro _ hw'
        obtain ⟨⟨dq, osq⟩, hw''⟩ := hw'
        subst hw''
        have HB2 := Lib.hid (HB1.out.trans ((below_regrown wr dq osq).mono HB1.out.size))
        have HX2 := Lib.hid (And.intro (HX1.out.1.on (below_regrown wr dq osq)) (HX1.out.2.on (below_regrown wr dq osq)))
        clear HAG1 HHD HO HO' HX1 HB1 q11 hsl hsub
        generalize grow (redrawn wr dq) osq = V5 at HB2 HX2 ⊢
        rename_i K hK
        refine hK _ _ ?_
        clear hK K hcmp
        cases cb
        · have HFK := Lib.hid ((HY.out.2.1 (fun e => of_decide_eq_false HCB.out e.2)).symm.trans HY.out.2.2)
          clear HY
          go_wp2_with fail
          exact ⟨⟨k + 1, by omega, by simp, HFK.out, HB2.out, HX2.out.1, HX2.out.2⟩, by simp [intOf]; omega⟩
        · have HFK := Lib.hid ((HY.out.1 HQ.out (of_decide_eq_true HCB.out)).symm.trans HY.out.2.2)
          clear HY
          go_wp2_with fail
          go_ret
          exact ⟨by rw [← HFK.out]; rfl, HB2.out⟩
    · obtain rfl : k = l.length := by omega
      have hn : ¬ (l.length : Int) < (l.length : Int) := by omega
      have HFK := Lib.hid ((firstK_end HD hd bd l).symm.trans hfk)
      have HB1 := Lib.hid hB
      clear hfk hB hX hX0
      go_wp2_with fail
      go_ret
      exact ⟨by rw [← HFK.out]; rfl, HB1.out⟩
end Go.Proofs.YtdnjieffbgmagaaDoor
