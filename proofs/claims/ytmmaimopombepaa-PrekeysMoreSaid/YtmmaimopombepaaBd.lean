/- slices.Equal of points; prekeys.Like. -/
import Derived.Test.YtmmaimopombepaaBc
namespace Go.Proofs.Ytmmaimopombepaa
open Go.RowKit
set_option maxRecDepth 100000
theorem bytes_inj {s r : ByteArray} (h : s.data.toList = r.data.toList) : s = r := by
  obtain ⟨⟨a⟩⟩ := s
  obtain ⟨⟨b⟩⟩ := r
  simp only at h
  rw [h]
theorem str_eqU (s t : ByteArray) : (s.toList == t.toList) = decide (s = t) := by
  rw [Lib.toList_data, Lib.toList_data]
  by_cases h : s = t
  · subst h; simp
  · rw [decide_eq_false h, beq_eq_false_iff_ne]
    exact fun e => h (bytes_inj e)
theorem belowN {B : Nat} {a w : World} (h : Below B a w) (n : Nat) : Below B a (w.drewN n) := ⟨h.os, h.tape, h.output, h.size, h.block⟩
theorem nat_eqU (m n : Nat) : ((m : Int) == (n : Int)) = decide (m = n) := by
  by_cases h : m = n
  · subst h; simp
  · rw [decide_eq_false h]; exact beqF h
def pnV (p : Pn) : Value := .agg #[.int .u64 (p.id : Int), .string p.pt]
theorem run_eq_pn (p q : Pn) (W : World) : (binOp .eql 25 (.agg #[.int .u64 (p.id : Int), .string p.pt]) (.agg #[.int .u64 (q.id : Int), .string q.pt])).run Try.prog W = .ok (.bool (decide (p = q))) W := by
  obtain ⟨m, s⟩ := p
  obtain ⟨n, r⟩ := q
  have q1 := str_eqU s r
  have q2 := nat_eqU m n
  by_cases e2 : m = n
  · subst e2
    by_cases e1 : s = r
    · subst e1
      simp [go_sem]
    · rw [decide_eq_false e1] at q1
      rw [decide_eq_false fun h => e1 (by cases h; rfl)]
      simp [go_sem, q1]
  · rw [decide_eq_false e2] at q2
    rw [decide_eq_false fun h => e2 (by cases h; rfl)]
    simp [go_sem, q2]
theorem run_ne_pn (p q : Pn) (W : World) : (binOp .neq 25 (.agg #[.int .u64 (p.id : Int), .string p.pt]) (.agg #[.int .u64 (q.id : Int), .string q.pt])).run Try.prog W = .ok (.bool (!decide (p = q))) W := by
  obtain ⟨m, s⟩ := p
  obtain ⟨n, r⟩ := q
  have q1 := str_eqU s r
  have q2 := nat_eqU m n
  by_cases e2 : m = n
  · subst e2
    by_cases e1 : s = r
    · subst e1
      simp [go_sem]
    · rw [decide_eq_false e1] at q1
      rw [decide_eq_false fun h => e1 (by cases h; rfl)]
      simp [go_sem, q1]
  · rw [decide_eq_false e2] at q2
    rw [decide_eq_false fun h => e2 (by cases h; rfl)]
    simp [go_sem, q2]
theorem take_eq_step {T : Type} {l m : List T} {k : Nat} (hl : k < l.length) (hm : k < m.length) : l.take (k + 1) = m.take (k + 1) ↔ l.take k = m.take k ∧ l[k] = m[k] := by
  rw [List.take_succ_eq_append_getElem hl, List.take_succ_eq_append_getElem hm]
  constructor
  · intro h
    have h1 : (l.take k).length = (m.take k).length := by rw [List.length_take, List.length_take]; omega
    obtain ⟨a, b⟩ := List.append_inj h h1
    exact ⟨a, by simpa using b⟩
  · rintro ⟨h1, h2⟩
    rw [h1, h2]
theorem ne_of_at {T : Type} {l m : List T} {k : Nat} (hl : k < l.length) (hm : k < m.length) (h : l[k] ≠ m[k]) : l ≠ m := fun e => by subst e; exact h rfl
theorem eq_of_take {T : Type} {l m : List T} (hl : l.length = m.length) (h : l.take l.length = m.take l.length) : l = m := by
  rw [List.take_length, hl, List.take_length] at h
  exact h
def EqRel (w : World) (l m : List Pn) (i : Value) (wr : World) : Prop := ∃ (k : Nat) (W : World), W = wr ∧ i = .int .i64 (k : Int) ∧ k ≤ l.length ∧ Below w.heap.size w wr ∧ l.take k = m.take k
set_option maxHeartbeats 4000000 in
theorem equalP_any (a b : Option Addr) (c c' : Nat) (l m : List Pn) (hl : l.length ≤ 1000) (w : World) (hp : PP w a c l) (hq : PP w b c' m) :
    Calls Try.prog 87 #[.slice a l.length c, .slice b m.length c'] w fun e w' => e = .returned (.bool (decide (l = m))) ∧ Below w.heap.size w w' := by
  have HP := Lib.hid hp; have HQ := Lib.hid hq
  have q : (l.length : Int) ≤ 1000 := by omega
  clear hp hq hl
  by_cases hlen : l.length = m.length
  case neg =>
    have hn : ¬ (l.length : Int) = (m.length : Int) := by omega
    rw [decide_eq_false fun e => hlen (by rw [e])]
    clear hlen HP HQ
    go_enter Try.func87, Try.ntmps87
    go_wp2_with fail
    go_ret
    exact ⟨rfl, Below.refl _ _⟩
  case pos =>
    rw [show m.length = l.length from hlen.symm]
    have HLN := Lib.hid hlen
    clear hlen
    go_enter Try.func87, Try.ntmps87
    go_wp2_with fail
    go_loopw [13] (EqRel w l m) (fun i _ => l.length - (Lib.intOf i).toNat)
    case atStart => exact ⟨0, _, rfl, rfl, Nat.zero_le _, Below.refl _ _, by simp⟩
    case round =>
      obtain ⟨k, wr, rfl, rfl, h1, h2, h3⟩ := hrel
      by_cases hk : k < l.length
      · have hkz : (k : Int) < (l.length : Int) := by omega
        have hkm : k < m.length := by have := HLN.out; omega
        obtain ⟨g, off, rfl, hlt, c0, c1⟩ := (HP.out.on h2).get k hk
        obtain ⟨g', off', rfl, hlt', d0, d1⟩ := (HQ.out.on h2).get k hkm
        have hst := take_eq_step hk hkm
        have hne := ne_of_at hk hkm
        obtain ⟨x, ex⟩ : ∃ x, l[k] = x := ⟨_, rfl⟩
        obtain ⟨y, ey⟩ : ∃ y, m[k] = y := ⟨_, rfl⟩
        rw [ex] at c0 c1 hst hne
        rw [ey] at d0 d1 hst hne
        have hrun := run_ne_pn x y
        have HB := Lib.hid h2
        by_cases e : x = y
        · rw [decide_eq_true e] at hrun
          have HN := Lib.hid (hst.2 ⟨h3, e⟩)
          clear h2 h3 hst hne e ex ey
          go_upto_region 6 with fail
          go_quiet (fail)
          go_wp2_with fail
          exact ⟨⟨k + 1, _, rfl, by go_num, by omega, belowN HB.out _, HN.out⟩, by simp [Lib.intOf]; omega⟩
        · rw [decide_eq_false e] at hrun
          have HN := Lib.hid (decide_eq_false (hne e))
          clear h2 h3 hst hne e ex ey
          go_upto_region 6 with fail
          go_quiet (fail)
          go_wp2_with fail
          go_ret
          exact ⟨by rw [HN.out]; rfl, belowN HB.out _⟩
      · have hkz : ¬ (k : Int) < (l.length : Int) := by omega
        have hkn : k = l.length := by omega
        rw [hkn] at h3
        have HD := Lib.hid (decide_eq_true (eq_of_take HLN.out h3))
        clear h3
        go_wp2_with fail
        go_ret
        exact ⟨by rw [HD.out]; rfl, h2⟩
set_option maxHeartbeats 4000000 in
theorem same_any (m m' : ShM) (hl : m.s.once.length ≤ 1000) (w : World) (h : PtsAt w m) (h' : PtsAt w m') :
    Calls Try.prog 58 #[.agg #[.int .u64 (m.s.user : Int), .string m.s.ident, .int .u64 (m.s.sgn.id : Int), .string m.s.sgn.pt, .slice m.a m.s.once.length m.c], .agg #[.int .u64 (m'.s.user : Int), .string m'.s.ident, .int .u64 (m'.s.sgn.id : Int), .string m'.s.sgn.pt, .slice m'.a m'.s.once.length m'.c]] w fun e w' => e = .returned (.bool (decide (m.s = m'.s))) ∧ Below w.heap.size w w' := by
  obtain ⟨⟨u, i, s, o⟩, a, c⟩ := m
  obtain ⟨⟨u', i', s', o'⟩, a', c'⟩ := m'
  have hB : Below w.heap.size w ((w.alloc (.cells #[.int .u64 (u : Int), .string i, .int .u64 (s.id : Int), .string s.pt, .slice a o.length c] 28)).alloc (.cells #[.int .u64 (u' : Int), .string i', .int .u64 (s'.id : Int), .string s'.pt, .slice a' o'.length c'] 28)) := ((Below.refl _ w).alloc (Nat.le_refl _) _).alloc (by simp) _
  have HO := Lib.hid (equalP_any a a' c c' o o' hl _ (h.pp.on hB) (h'.pp.on hB))
  have HB := Lib.hid hB
  clear h h' hB hl
  have q1 := nat_eqU u u'
  have q2 := str_eqU i i'
  have q3 := run_eq_pn s s'
  by_cases e1 : u = u'
  · rw [decide_eq_true e1] at q1
    by_cases e2 : i = i'
    · rw [decide_eq_true e2] at q2
      by_cases e3 : s = s'
      · rw [decide_eq_true e3] at q3
        have hd : decide ((ShM.mk ⟨u, i, s, o⟩ a c).s = (ShM.mk ⟨u', i', s', o'⟩ a' c').s) = decide (o = o') := by
          by_cases e4 : o = o'
          · rw [decide_eq_true e4]
            exact decide_eq_true (show (⟨u, i, s, o⟩ : Sh) = ⟨u', i', s', o'⟩ by rw [e1, e2, e3, e4])
          · rw [decide_eq_false e4]
            exact decide_eq_false (fun (h : (⟨u, i, s, o⟩ : Sh) = ⟨u', i', s', o'⟩) => e4 (Sh.mk.inj h).2.2.2)
        rw [hd]
        obtain ⟨r, hr⟩ : ∃ r, decide (o = o') = r := ⟨_, rfl⟩
        rw [hr] at HO ⊢
        clear hd hr e1 e2 e3
        go_enter Try.func58, Try.ntmps58
        go_wp2_with (go_at_call 87; refine HO.out.mono ?_; rintro e w2 ⟨rfl, hb2⟩)
        go_ret
        exact ⟨rfl, HB.out.trans (hb2.mono HB.out.size)⟩
      · rw [decide_eq_false e3] at q3
        have hd := Lib.hid (decide_eq_false (fun (h : (⟨u, i, s, o⟩ : Sh) = ⟨u', i', s', o'⟩) => e3 (Sh.mk.inj h).2.2.1))
        clear e1 e2 e3 HO
        go_enter Try.func58, Try.ntmps58
        go_wp2_with fail
        go_ret
        exact ⟨by rw [hd.out]; rfl, HB.out⟩
    · rw [decide_eq_false e2] at q2
      have hd := Lib.hid (decide_eq_false (fun (h : (⟨u, i, s, o⟩ : Sh) = ⟨u', i', s', o'⟩) => e2 (Sh.mk.inj h).2.1))
      clear e1 e2 HO q3
      go_enter Try.func58, Try.ntmps58
      go_wp2_with fail
      go_ret
      exact ⟨by rw [hd.out]; rfl, HB.out⟩
  · rw [decide_eq_false e1] at q1
    have hd := Lib.hid (decide_eq_false (fun (h : (⟨u, i, s, o⟩ : Sh) = ⟨u', i', s', o'⟩) => e1 (Sh.mk.inj h).1))
    clear e1 HO q2 q3
    go_enter Try.func58, Try.ntmps58
    go_wp2_with fail
    go_ret
    exact ⟨by rw [hd.out]; rfl, HB.out⟩
def LkRel (w : World) (l m : List Sh) (i : Value) (wr : World) : Prop := ∃ (k : Nat) (W : World), W = wr ∧ i = .int .i64 (k : Int) ∧ k ≤ l.length ∧ Below w.heap.size w wr ∧ l.take k = m.take k
/-- each row of points is short -/
def FewP (L : List ShM) : Prop := ∀ m ∈ L, m.s.once.length ≤ 1000
set_option maxHeartbeats 4000000 in
theorem equalF_any (a b : Option Addr) (c c' : Nat) (L M : List ShM) (hl : L.length ≤ 1000) (hf : FewP L) (w : World) (hp : SS w a c L) (hq : SS w b c' M) :
    Calls Try.prog 57 #[.slice a L.length c, .slice b M.length c', .func (.func 58) #[] #[]] w fun e w' => e = .returned (.bool (decide (shs L = shs M))) ∧ Below w.heap.size w w' := by
  have HP := Lib.hid hp; have HQ := Lib.hid hq; have HF := Lib.hid hf
  have q : (L.length : Int) ≤ 1000 := by omega
  have sl := shs_length L
  have sm := shs_length M
  clear hp hq hl hf
  by_cases hlen : L.length = M.length
  case neg =>
    have hn : ¬ (L.length : Int) = (M.length : Int) := by omega
    rw [decide_eq_false fun e => hlen (by rw [← sl, ← sm, e])]
    clear hlen HP HQ
    go_enter Try.func57, Try.ntmps57
    go_wp2_with fail
    go_ret
    exact ⟨rfl, Below.refl _ _⟩
  case pos =>
    rw [show M.length = L.length from hlen.symm]
    have HLN := Lib.hid (And.intro hlen (And.intro sl sm))
    clear hlen sl sm
    go_enter Try.func57, Try.ntmps57
    go_wp2_with fail
    go_loopw [17] (LkRel w (shs L) (shs M)) (fun i _ => L.length - (Lib.intOf i).toNat)
    case atStart => exact ⟨0, _, rfl, rfl, Nat.zero_le _, Below.refl _ _, by simp⟩
    case round =>
      obtain ⟨k, wr, rfl, rfl, h1, h2, h3⟩ := hrel
      by_cases hk : k < L.length
      · have hkz : (k : Int) < (L.length : Int) := by omega
        have hkm : k < M.length := by have := HLN.out.1; omega
        have hks : k < (shs L).length := by have := HLN.out.2.1; omega
        have hkt : k < (shs M).length := by have := HLN.out.2.2; omega
        obtain ⟨g, off, rfl, hlt, hall⟩ := (HP.out.on h2).sl.get k hk
        obtain ⟨g', off', rfl, hlt', hall'⟩ := (HQ.out.on h2).sl.get k hkm
        have hst := take_eq_step hks hkt
        have hne := ne_of_at hks hkt
        rw [shs_get L k hk, shs_get M k hkm] at hst hne
        have hpt := (HP.out.on h2).sl.pts _ (List.getElem_mem hk)
        have hpt' := (HQ.out.on h2).sl.pts _ (List.getElem_mem hkm)
        have hfl := HF.out _ (List.getElem_mem hk)
        have h5 := hall k hk
        have h5' := hall' k hkm
        obtain ⟨x, ex⟩ : ∃ x, L[k] = x := ⟨_, rfl⟩
        obtain ⟨y, ey⟩ : ∃ y, M[k] = y := ⟨_, rfl⟩
        rw [ex] at h5 hst hne hpt hfl
        rw [ey] at h5' hst hne hpt'
        obtain ⟨c0, c1, c2, c3, c4⟩ := h5
        obtain ⟨d0, d1, d2, d3, d4⟩ := h5'
        have hB2 : Below wr.heap.size wr ((wr.alloc (.cells #[.int .u64 (x.s.user : Int), .string x.s.ident, .int .u64 (x.s.sgn.id : Int), .string x.s.sgn.pt, .slice x.a x.s.once.length x.c] 28)).alloc (.cells #[.int .u64 (y.s.user : Int), .string y.s.ident, .int .u64 (y.s.sgn.id : Int), .string y.s.sgn.pt, .slice y.a y.s.once.length y.c] 28)) := ((Below.refl _ wr).alloc (Nat.le_refl _) _).alloc (by simp) _
        have HS := Lib.hid (same_any x y hfl _ (hpt.on hB2) (hpt'.on hB2))
        have HB := Lib.hid (h2.trans (hB2.mono h2.size))
        clear hall hall' hpt hpt' hfl
        by_cases e : x.s = y.s
        · rw [decide_eq_true e] at HS
          have HN := Lib.hid (hst.2 ⟨h3, e⟩)
          clear h2 h3 hst hne e ex ey hB2
          go_wp2_with (go_at_call 58; refine HS.out.mono ?_; rintro e w2 ⟨rfl, hb2⟩)
          exact ⟨⟨k + 1, _, rfl, by go_num, by omega, HB.out.trans (hb2.mono HB.out.size), HN.out⟩, by simp [Lib.intOf]; omega⟩
        · rw [decide_eq_false e] at HS
          have HN := Lib.hid (decide_eq_false (hne e))
          clear h2 h3 hst hne e ex ey hB2
          go_wp2_with (go_at_call 58; refine HS.out.mono ?_; rintro e w2 ⟨rfl, hb2⟩)
          go_ret
          exact ⟨by rw [HN.out]; rfl, HB.out.trans (hb2.mono HB.out.size)⟩
      · have hkz : ¬ (k : Int) < (L.length : Int) := by omega
        have hkn : k = (shs L).length := by have := HLN.out.2.1; omega
        rw [hkn] at h3
        have HD := Lib.hid (decide_eq_true (eq_of_take (by have := HLN.out; omega) h3))
        clear h3
        go_wp2_with fail
        go_ret
        exact ⟨by rw [HD.out]; rfl, h2⟩
theorem likeS_any (a b : Option Addr) (c c' : Nat) (L M : List ShM) (hl : L.length ≤ 1000) (hf : FewP L) (w : World) (hp : SS w a c L) (hq : SS w b c' M) :
    Calls Try.prog 18 #[.slice a L.length c, .slice b M.length c'] w fun e w' => e = .returned (.bool (decide (shs L = shs M))) ∧ Below w.heap.size w w' := by
  have H := Lib.hid (equalF_any a b c c' L M hl hf w hp hq)
  clear hl hf hp hq
  go_enter Try.func18, Try.ntmps18
  go_wp2_with (go_at_call 57; refine H.out.mono ?_; rintro e w2 ⟨rfl, hb⟩)
  go_ret
  exact ⟨rfl, hb⟩
end Go.Proofs.Ytmmaimopombepaa