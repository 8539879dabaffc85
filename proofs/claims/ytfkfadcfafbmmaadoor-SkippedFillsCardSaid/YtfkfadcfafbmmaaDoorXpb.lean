/- skipped's with: a table with a key behind it, in new memory. -/
import Derived.Test.YtfkfadcfafbmmaaDoorXpa
import Derived.Test.YtfkfadcfafbmmaaDoorBg15
namespace Go.Proofs.YtfkfadcfafbmmaaDoor
open Go.RowKit Go.Sort
set_option maxRecDepth 100000

/-- a slice cut from a place on, its room too -/
theorem KSl.cut {w : World} {a : Option Addr} {l : List Kk} (h : KSl w a l) : l = [] ∨ ∃ b off : Nat, a = some ⟨b, off, none⟩ ∧ b < w.heap.size := by
  by_cases h0 : 0 < l.length
  · obtain ⟨b, off, ha, hlt, -⟩ := h h0
    exact Or.inr ⟨b, off, ha, hlt⟩
  · exact Or.inl (List.eq_nil_of_length_eq_zero (by omega))
/-- append(full, key) in a drawn region -/
theorem step_append_kfull {ops : Array Oper} {o : Oper} {a : Act} {w : World} {K : Act → World → Prop} {Q : Exit → Act → World → Prop} {E : Prop} (hgd : o.guard = none) (s x : Operand)
    (ho : o.op = .call { callee := .builtin .append, args := #[s, x], argTypes := #[22, 22] })
    (ao : Option Addr) (l : List Kk) (n : Nat) (b : Option Addr) (m c2 : Nat) (k : List Kk) (hn : n = l.length) (hm : m = k.length) (hs : a.eval s = .slice ao n n) (hx : a.eval x = .slice b m c2) (hl : KSl w ao l) (hnone : ao = none → n = 0) (hq : KSl w b k) (hk : 0 < k.length) (hlen : l.length + k.length ≤ 100000)
    (h : ∀ v' w', OwnK w' w.heap.size v' (l ++ k) → w.grownBy w' none → K (a.put o.dst v') w') :
    if Region.wanted o (yielded ops a.tmps) = true then Oper.wp Tryd.prog o a w K Q else E := by
  have hw : Region.wanted o (yielded ops a.tmps) = true := by simp [Region.wanted, hgd]
  rw [if_pos hw]
  have hd : ∃ d, o.dst = d := ⟨_, rfl⟩
  obtain ⟨v', w', hr, h2, h3⟩ : ∃ v' w', (Builtin.append_ #[22, 22] o.type #[.slice ao n n, .slice b m c2]).run Tryd.prog w = .ok v' w' ∧ OwnK w' w.heap.size v' (l ++ k) ∧ w.grownBy w' none := by
    subst hn hm
    obtain ⟨i0, hi, hz0, hz1, hz2⟩ := info_parts infoKk
    obtain ⟨g, off, rfl, hlt, hc⟩ := hq hk
    unfold OwnK
    rw [List.length_append, Kc_append]
    cases ao with
    | some b =>
      exact run_append_arg_grows (P := Tryd.prog) w 22 o.type 47 i0 (.agg #[.string ⟨#[]⟩, .int .u64 0, .string ⟨#[]⟩]) 3 40 Tryd.underlying22 hi hz0 hz1 hz2 rfl (by decide) b l.length l.length (Kc l) (Kc_length l) (fun j u hu => by
        have hpos : 0 < l.length := by
          have := (List.getElem?_eq_some_iff.1 hu).1
          rw [Kc_length] at this; omega
        obtain ⟨b', off', e, hlt', hc'⟩ := hl hpos
        simp only [Option.some.injEq] at e
        subst e
        rw [Addr.add_mid]
        exact Kc_at hc' j u hu) ⟨g, off, none⟩ k.length c2 (Kc k) (Kc_length k) (fun j u hu => by rw [Addr.add_mid]; exact Kc_at hc j u hu) (by omega) (by unfold maxLen; omega) (by omega)
    | none =>
      have h0 := hnone rfl
      obtain rfl : l = [] := List.eq_nil_of_length_eq_zero h0
      obtain ⟨v', w', hrun, r1, r2, _⟩ := run_append_own (P := Tryd.prog) w w.heap.size 22 o.type 47 i0 (.agg #[.string ⟨#[]⟩, .int .u64 0, .string ⟨#[]⟩]) 3 40 Tryd.underlying22 hi hz0 hz1 hz2 rfl (by decide) (.slice none 0 0) 0 [] (World.ownsRow_nil w _ 47 3) ⟨g, off, none⟩ k.length c2 (Kc k) (Kc_length k) (fun j u hu => by rw [Addr.add_mid]; exact Kc_at hc j u hu) (Kc_one k) (by unfold maxLen; omega) (by omega) (Nat.le_refl _)
      exact ⟨v', w', hrun, r1, r2⟩
  unfold Oper.wp execOp
  simp only [ho, resolve, invoke, builtin, Sem.run_bind, Sem.run_pure, Result.andThen_ok, List.map_toArray, List.map_cons, List.map_nil, hs, hx, hr]
  exact h v' w' h2 h3
theorem grown_kept {w W w' : World} {h : Nat} {v : Value} {l : List Kk} (hB : Below h w W) (hs : h ≤ W.heap.size ∧ h < W.heap.size) (hO : OwnK w' W.heap.size v l) (hg : W.grownBy w' none) : OwnK w' h v l ∧ Below h w w' :=
  ⟨hO.mono hs.1, hB.grown hg hs.1 fun k hk => by cases hk⟩
set_option maxHeartbeats 2000000 in
theorem with_few (a : Option Addr) (c : Nat) (l : List Kk) (x : ByteArray) (m : Nat) (y : ByteArray) (hl : l.length < 20) (hlc : l.length ≤ c) (w : World) (hp : KSl w a l) :
    Calls Tryd.prog 29 #[.slice a l.length c, .agg #[.string x, .int .u64 (m : Int), .string y]] w fun e w' => ∃ v, e = .returned v ∧ OwnK w' w.heap.size v (l ++ [⟨x, m, y⟩]) ∧ Below w.heap.size w w' := by
  have h1 : max ((l.length : Int) + 1 - 20) 0 = 0 := by omega
  have h2 : (l.length : Int) ≤ (c : Int) := by omega
  have HL := Lib.hid (And.intro hl hlc); have HP := Lib.hid hp
  clear hl hlc hp
  go_enter Tryd.func29, Tryd.ntmps29
  go_upto_region 2 with fail
  have hbox := heap_alloc_new w (.cells #[.string x, .int .u64 (m : Int), .string y] 47)
  have c0 := cell_of_row _ w.heap.size 0 _ _ _ hbox
  have c1 := cell_of_row _ w.heap.size 1 _ _ _ hbox
  have c2 := cell_of_row _ w.heap.size 2 _ _ _ hbox
  obtain ⟨W, eW⟩ : ∃ W, w.alloc (.cells #[.string x, .int .u64 (m : Int), .string y] 47) = W := ⟨_, rfl⟩
  have hb := (Below.refl w.heap.size w).alloc (Nat.le_refl _) (.cells #[.string x, .int .u64 (m : Int), .string y] 47)
  rw [eW] at c0 c1 c2 hb ⊢
  rw [eW] at hbox
  have hwb : w.heap.size < W.heap.size := (Array.getElem?_eq_some_iff.1 hbox).1
  have hb2 : Below w.heap.size w (W.alloc (.cells #[.string x, .int .u64 (m : Int), .string y] 47)).drew := (hb.alloc hb.size _).drew
  have hone : KSl (W.alloc (.cells #[.string x, .int .u64 (m : Int), .string y] 47)).drew (some ⟨W.heap.size, 0, none⟩) [⟨x, m, y⟩] := (KSl.one (KkAt.fresh W ⟨x, m, y⟩ 47)).on ((Below.refl _ _).drew)
  have hbx : (W.alloc (.cells #[.string x, .int .u64 (m : Int), .string y] 47)).drew.heap[w.heap.size]? = some (.cells #[.string x, .int .u64 (m : Int), .string y] 47) := (heap_alloc_old W _ hwb).trans hbox
  have hsz : w.heap.size ≤ (W.alloc (.cells #[.string x, .int .u64 (m : Int), .string y] 47)).drew.heap.size ∧ w.heap.size < (W.alloc (.cells #[.string x, .int .u64 (m : Int), .string y] 47)).drew.heap.size := ⟨hb2.size, (Array.getElem?_eq_some_iff.1 hbx).1⟩
  have hnn : a = none → l.length = 0 := fun e => by
    rcases HP.out.cut with h | ⟨b, off, h, -⟩
    · rw [h]; rfl
    · rw [e] at h; cases h
  have HPW := Lib.hid (HP.out.on hb2); have HNN := Lib.hid hnn; have HONE := Lib.hid hone
  obtain ⟨h, eh⟩ : ∃ h, w.heap.size = h := ⟨_, rfl⟩
  rw [eh] at c0 c1 c2 hbx hsz hb2 ⊢
  have HB2 := Lib.hid hb2; have HBW := Lib.hid hsz; have HBX := Lib.hid hbx
  clear eW hbox hb hb2 hone hbx hsz hnn hwb HP
  simp at c0 c1 c2
  go_region_held3 (fun w' : World => w'.cell? ⟨h, 0, none⟩ = some (.string x) ∧ w'.cell? ⟨h, 1, none⟩ = some (.int .u64 (m : Int)) ∧ w'.cell? ⟨h, 2, none⟩ = some (.string y))
    (first | with_reducible assumption | go_keep)
    (first
      | (refine step_append_kfull rfl _ _ rfl a l l.length (some ⟨W.heap.size, 0, none⟩) 1 1 [⟨x, m, y⟩] rfl rfl rfl rfl HPW.out HNN.out HONE.out (by simp) (by have := HL.out; simp; omega) ?_; intro v' w' hO hg; have hF := grown_kept HB2.out HBW.out hO hg; have hx3 := (hg.block h HBW.out.2 (by simp)).trans HBX.out; have d0 : w'.cell? ⟨h, 0, none⟩ = some (.string x) := (by rw [cell_of_row _ _ _ _ _ _ hx3]; rfl); have d1 : w'.cell? ⟨h, 1, none⟩ = some (.int .u64 (m : Int)) := (by rw [cell_of_row _ _ _ _ _ _ hx3]; rfl); have d2 : w'.cell? ⟨h, 2, none⟩ = some (.string y) := (by rw [cell_of_row _ _ _ _ _ _ hx3]; rfl); have HF := Lib.hid hF; clear hF hO hg hx3))
  clear HPW HNN HONE HB2 HBW HBX c0 c1 c2 d0 d1 d2
  go_wp2_with fail
  go_ret
  exact ⟨_, rfl, by rw [eh]; exact HF.out.1, by first | exact HF.out.2 | (rw [eh]; exact HF.out.2)⟩
set_option maxHeartbeats 2000000 in
theorem with_full (a : Option Addr) (c : Nat) (l : List Kk) (x : ByteArray) (m : Nat) (y : ByteArray) (hl : l.length = 20) (hlc : l.length ≤ c) (w : World) (hp : KSl w a l) :
    Calls Tryd.prog 29 #[.slice a l.length c, .agg #[.string x, .int .u64 (m : Int), .string y]] w fun e w' => ∃ v, e = .returned v ∧ OwnK w' w.heap.size v (l.drop 1 ++ [⟨x, m, y⟩]) ∧ Below w.heap.size w w' := by
  have h1 : max (1 : Int) 0 = 1 := by omega
  have h2 : (20 : Int) ≤ (c : Int) := by omega
  rcases hp.cut with h | ⟨g, off, rfl, -⟩
  · rw [h] at hl; cases hl
  have hpd := hp.drop 1
  have hld : (l.drop 1).length = 19 := by rw [List.length_drop]; omega
  rw [hl]
  obtain ⟨L, eL⟩ : ∃ L, l.drop 1 = L := ⟨_, rfl⟩
  rw [eL] at hpd hld ⊢
  have HL := Lib.hid hld; have HP := Lib.hid hpd
  clear hl hlc hp hpd hld eL
  go_enter Tryd.func29, Tryd.ntmps29
  go_upto_region 2 with fail
  have hbox := heap_alloc_new w (.cells #[.string x, .int .u64 (m : Int), .string y] 47)
  have c0 := cell_of_row _ w.heap.size 0 _ _ _ hbox
  have c1 := cell_of_row _ w.heap.size 1 _ _ _ hbox
  have c2 := cell_of_row _ w.heap.size 2 _ _ _ hbox
  obtain ⟨W, eW⟩ : ∃ W, w.alloc (.cells #[.string x, .int .u64 (m : Int), .string y] 47) = W := ⟨_, rfl⟩
  have hb := (Below.refl w.heap.size w).alloc (Nat.le_refl _) (.cells #[.string x, .int .u64 (m : Int), .string y] 47)
  rw [eW] at c0 c1 c2 hb ⊢
  rw [eW] at hbox
  have hwb : w.heap.size < W.heap.size := (Array.getElem?_eq_some_iff.1 hbox).1
  have hb2 : Below w.heap.size w (W.alloc (.cells #[.string x, .int .u64 (m : Int), .string y] 47)).drew := (hb.alloc hb.size _).drew
  have hone : KSl (W.alloc (.cells #[.string x, .int .u64 (m : Int), .string y] 47)).drew (some ⟨W.heap.size, 0, none⟩) [⟨x, m, y⟩] := (KSl.one (KkAt.fresh W ⟨x, m, y⟩ 47)).on ((Below.refl _ _).drew)
  have hbx : (W.alloc (.cells #[.string x, .int .u64 (m : Int), .string y] 47)).drew.heap[w.heap.size]? = some (.cells #[.string x, .int .u64 (m : Int), .string y] 47) := (heap_alloc_old W _ hwb).trans hbox
  have hsz : w.heap.size ≤ (W.alloc (.cells #[.string x, .int .u64 (m : Int), .string y] 47)).drew.heap.size ∧ w.heap.size < (W.alloc (.cells #[.string x, .int .u64 (m : Int), .string y] 47)).drew.heap.size := ⟨hb2.size, (Array.getElem?_eq_some_iff.1 hbx).1⟩
  have HPW := Lib.hid (HP.out.on hb2); have HONE := Lib.hid hone
  obtain ⟨h, eh⟩ : ∃ h, w.heap.size = h := ⟨_, rfl⟩
  rw [eh] at c0 c1 c2 hbx hsz hb2 ⊢
  have HB2 := Lib.hid hb2; have HBW := Lib.hid hsz; have HBX := Lib.hid hbx
  clear eW hbox hb hb2 hone hbx hsz hwb HP
  simp at c0 c1 c2
  go_region_held3 (fun w' : World => w'.cell? ⟨h, 0, none⟩ = some (.string x) ∧ w'.cell? ⟨h, 1, none⟩ = some (.int .u64 (m : Int)) ∧ w'.cell? ⟨h, 2, none⟩ = some (.string y))
    (first | with_reducible assumption | go_keep)
    (first
      | (refine step_append_kfull rfl _ _ rfl (some ⟨g, off + 1 * 3, none⟩) L 19 (some ⟨W.heap.size, 0, none⟩) 1 1 [⟨x, m, y⟩] HL.out.symm rfl rfl rfl HPW.out (fun e => by cases e) HONE.out (by simp) (by have := HL.out; simp; omega) ?_; intro v' w' hO hg; have hF := grown_kept HB2.out HBW.out hO hg; have hx3 := (hg.block h HBW.out.2 (by simp)).trans HBX.out; have d0 : w'.cell? ⟨h, 0, none⟩ = some (.string x) := (by rw [cell_of_row _ _ _ _ _ _ hx3]; rfl); have d1 : w'.cell? ⟨h, 1, none⟩ = some (.int .u64 (m : Int)) := (by rw [cell_of_row _ _ _ _ _ _ hx3]; rfl); have d2 : w'.cell? ⟨h, 2, none⟩ = some (.string y) := (by rw [cell_of_row _ _ _ _ _ _ hx3]; rfl); have HF := Lib.hid hF; clear hF hO hg hx3))
  clear HPW HONE HB2 HBW HBX c0 c1 c2 d0 d1 d2
  go_wp2_with fail
  go_ret
  exact ⟨_, rfl, by rw [eh]; exact HF.out.1, by first | exact HF.out.2 | (rw [eh]; exact HF.out.2)⟩
theorem with_any (a : Option Addr) (c : Nat) (l : List Kk) (p : Kk) (hl : l.length ≤ 20) (hlc : l.length ≤ c) (w : World) (hp : KSl w a l) :
    Calls Tryd.prog 29 #[.slice a l.length c, kkv p] w fun e w' => ∃ v, e = .returned v ∧ OwnK w' w.heap.size v (putK l p) ∧ Below w.heap.size w w' := by
  obtain ⟨x, m, y⟩ := p
  unfold putK
  by_cases h : l.length < 20
  · rw [if_pos h]; exact with_few a c l x m y h hlc w hp
  · rw [if_neg h]; exact with_full a c l x m y (by omega) hlc w hp
end Go.Proofs.YtfkfadcfafbmmaaDoor
