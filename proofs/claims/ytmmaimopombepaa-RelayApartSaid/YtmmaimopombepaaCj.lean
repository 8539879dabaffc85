/- slices.Equal of mails, relay.Like; the reference 16's MailsSame, Same. -/
import Derived.Test.YtmmaimopombepaaCc
namespace Go.Proofs.Ytmmaimopombepaa
open Go.RowKit
set_option maxRecDepth 100000

theorem belowNC {B : Nat} {a w : World} (h : Below B a w) (n : Nat) : Below B a (w.drewN n) := ⟨h.os, h.tape, h.output, h.size, h.block⟩
theorem run_ne_ml (p q : Ml) (W : World) : (binOp .neq 82 (.agg #[.int .u64 (p.id : Int), .string p.b, .int .u64 (p.born : Int)]) (.agg #[.int .u64 (q.id : Int), .string q.b, .int .u64 (q.born : Int)])).run Try.prog W = .ok (.bool (!decide (p = q))) W := by
  obtain ⟨m, s, t⟩ := p
  obtain ⟨n, r, v⟩ := q
  have q1 := str_eqC s r
  have q2 := nat_eqC m n
  have q3 := nat_eqC t v
  by_cases e2 : m = n
  · subst e2
    by_cases e1 : s = r
    · subst e1
      by_cases e3 : t = v
      · subst e3
        simp [go_sem]
      · rw [decide_eq_false e3] at q3
        rw [decide_eq_false fun h => e3 (by cases h; rfl)]
        simp [go_sem, q3]
    · rw [decide_eq_false e1] at q1
      rw [decide_eq_false fun h => e1 (by cases h; rfl)]
      simp [go_sem, q1]
  · rw [decide_eq_false e2] at q2
    rw [decide_eq_false fun h => e2 (by cases h; rfl)]
    simp [go_sem, q2]
theorem take_eqC {T : Type} {l m : List T} {k : Nat} (hl : k < l.length) (hm : k < m.length) : l.take (k + 1) = m.take (k + 1) ↔ l.take k = m.take k ∧ l[k] = m[k] := by
  rw [List.take_succ_eq_append_getElem hl, List.take_succ_eq_append_getElem hm]
  constructor
  · intro h
    have h1 : (l.take k).length = (m.take k).length := by rw [List.length_take, List.length_take]; omega
    obtain ⟨a, b⟩ := List.append_inj h h1
    exact ⟨a, by simpa using b⟩
  · rintro ⟨h1, h2⟩
    rw [h1, h2]
theorem ne_ofC {T : Type} {l m : List T} {k : Nat} (hl : k < l.length) (hm : k < m.length) (h : l[k] ≠ m[k]) : l ≠ m := fun e => by subst e; exact h rfl
theorem eq_ofC {T : Type} {l m : List T} (hl : l.length = m.length) (h : l.take l.length = m.take l.length) : l = m := by
  rw [List.take_length, hl, List.take_length] at h
  exact h
def EqMRel (w : World) (l m : List Ml) (i : Value) (wr : World) : Prop := ∃ (k : Nat) (W : World), W = wr ∧ i = .int .i64 (k : Int) ∧ k ≤ l.length ∧ Below w.heap.size w wr ∧ l.take k = m.take k
set_option maxHeartbeats 4000000 in
theorem equalM_any (a b : Option Addr) (c c' : Nat) (l m : List Ml) (hl : l.length ≤ 1000) (w : World) (hp : PM w a c l) (hq : PM w b c' m) :
    Calls Try.prog 101 #[.slice a l.length c, .slice b m.length c'] w fun e w' => e = .returned (.bool (decide (l = m))) ∧ Below w.heap.size w w' := by
  have HP := Lib.hid hp; have HQ := Lib.hid hq
  have q : (l.length : Int) ≤ 1000 := by omega
  clear hp hq hl
  by_cases hlen : l.length = m.length
  case neg =>
    have hn : ¬ (l.length : Int) = (m.length : Int) := by omega
    rw [decide_eq_false fun e => hlen (by rw [e])]
    clear hlen HP HQ
    go_enter Try.func101, Try.ntmps101
    go_wp2_with fail
    go_ret
    exact ⟨rfl, Below.refl _ _⟩
  case pos =>
    rw [show m.length = l.length from hlen.symm]
    have HLN := Lib.hid hlen
    clear hlen
    go_enter Try.func101, Try.ntmps101
    go_wp2_with fail
    go_loopw [13] (EqMRel w l m) (fun i _ => l.length - (Lib.intOf i).toNat)
    case atStart => exact ⟨0, _, rfl, rfl, Nat.zero_le _, Below.refl _ _, by simp⟩
    case round =>
      obtain ⟨k, wr, rfl, rfl, h1, h2, h3⟩ := hrel
      by_cases hk : k < l.length
      · have hkz : (k : Int) < (l.length : Int) := by omega
        have hkm : k < m.length := by have := HLN.out; omega
        obtain ⟨g, off, rfl, hlt, hall⟩ := (HP.out.on h2).get k hk
        obtain ⟨g', off', rfl, hlt', hall'⟩ := (HQ.out.on h2).get k hkm
        obtain ⟨c0, c1, c2⟩ := hall k hk
        obtain ⟨d0, d1, d2⟩ := hall' k hkm
        have hst := take_eqC hk hkm
        have hne := ne_ofC hk hkm
        obtain ⟨x, ex⟩ : ∃ x, l[k] = x := ⟨_, rfl⟩
        obtain ⟨y, ey⟩ : ∃ y, m[k] = y := ⟨_, rfl⟩
        rw [ex] at c0 c1 c2 hst hne
        rw [ey] at d0 d1 d2 hst hne
        have hrun := run_ne_ml x y
        have HB := Lib.hid h2
        by_cases e : x = y
        · rw [decide_eq_true e] at hrun
          have HN := Lib.hid (hst.2 ⟨h3, e⟩)
          clear h2 h3 hst hne e ex ey hall hall'
          go_upto_region 6 with fail
          go_quiet (fail)
          go_wp2_with fail
          exact ⟨⟨k + 1, _, rfl, by go_num, by omega, belowNC HB.out _, HN.out⟩, by simp [Lib.intOf]; omega⟩
        · rw [decide_eq_false e] at hrun
          have HN := Lib.hid (decide_eq_false (hne e))
          clear h2 h3 hst hne e ex ey hall hall'
          go_upto_region 6 with fail
          go_quiet (fail)
          go_wp2_with fail
          go_ret
          exact ⟨by rw [HN.out]; rfl, belowNC HB.out _⟩
      · have hkz : ¬ (k : Int) < (l.length : Int) := by omega
        have hkn : k = l.length := by omega
        rw [hkn] at h3
        have HD := Lib.hid (decide_eq_true (eq_ofC HLN.out h3))
        clear h3
        go_wp2_with fail
        go_ret
        exact ⟨by rw [HD.out]; rfl, h2⟩
set_option maxHeartbeats 4000000 in
theorem mailsSame_any (a b : Option Addr) (c c' : Nat) (l m : List Ml) (hl : l.length ≤ 1000) (w : World) (hp : PM w a c l) (hq : PM w b c' m) :
    Calls Try.prog 46 #[.slice a l.length c, .slice b m.length c'] w fun e w' => e = .returned (.bool (decide (l = m))) ∧ Below w.heap.size w w' := by
  have HP := Lib.hid hp; have HQ := Lib.hid hq
  have q : (l.length : Int) ≤ 1000 := by omega
  clear hp hq hl
  by_cases hlen : l.length = m.length
  case neg =>
    have hn : ¬ (l.length : Int) = (m.length : Int) := by omega
    rw [decide_eq_false fun e => hlen (by rw [e])]
    clear hlen HP HQ
    go_enter Try.func46, Try.ntmps46
    go_wp2_with fail
    go_ret
    exact ⟨rfl, Below.refl _ _⟩
  case pos =>
    rw [show m.length = l.length from hlen.symm]
    have HLN := Lib.hid hlen
    clear hlen
    go_enter Try.func46, Try.ntmps46
    go_wp2_with fail
    go_loopw [13] (EqMRel w l m) (fun i _ => l.length - (Lib.intOf i).toNat)
    case atStart => exact ⟨0, _, rfl, rfl, Nat.zero_le _, Below.refl _ _, by simp⟩
    case round =>
      obtain ⟨k, wr, rfl, rfl, h1, h2, h3⟩ := hrel
      by_cases hk : k < l.length
      · have hkz : (k : Int) < (l.length : Int) := by omega
        have hkm : k < m.length := by have := HLN.out; omega
        obtain ⟨g, off, rfl, hlt, hall⟩ := (HP.out.on h2).get k hk
        obtain ⟨g', off', rfl, hlt', hall'⟩ := (HQ.out.on h2).get k hkm
        obtain ⟨c0, c1, c2⟩ := hall k hk
        obtain ⟨d0, d1, d2⟩ := hall' k hkm
        have hst := take_eqC hk hkm
        have hne := ne_ofC hk hkm
        obtain ⟨x, ex⟩ : ∃ x, l[k] = x := ⟨_, rfl⟩
        obtain ⟨y, ey⟩ : ∃ y, m[k] = y := ⟨_, rfl⟩
        rw [ex] at c0 c1 c2 hst hne
        rw [ey] at d0 d1 d2 hst hne
        have hrun := run_ne_ml x y
        have HB := Lib.hid h2
        by_cases e : x = y
        · rw [decide_eq_true e] at hrun
          have HN := Lib.hid (hst.2 ⟨h3, e⟩)
          clear h2 h3 hst hne e ex ey hall hall'
          go_upto_region 6 with fail
          go_quiet (fail)
          go_wp2_with fail
          exact ⟨⟨k + 1, _, rfl, by go_num, by omega, belowNC HB.out _, HN.out⟩, by simp [Lib.intOf]; omega⟩
        · rw [decide_eq_false e] at hrun
          have HN := Lib.hid (decide_eq_false (hne e))
          clear h2 h3 hst hne e ex ey hall hall'
          go_upto_region 6 with fail
          go_quiet (fail)
          go_wp2_with fail
          go_ret
          exact ⟨by rw [HN.out]; rfl, belowNC HB.out _⟩
      · have hkz : ¬ (k : Int) < (l.length : Int) := by omega
        have hkn : k = l.length := by omega
        rw [hkn] at h3
        have HD := Lib.hid (decide_eq_true (eq_ofC HLN.out h3))
        clear h3
        go_wp2_with fail
        go_ret
        exact ⟨by rw [HD.out]; rfl, h2⟩
set_option maxHeartbeats 4000000 in
theorem sameBox_any (m m' : BxM) (hl : m.s.ml.length ≤ 1000) (w : World) (h : PM w m.a m.c m.s.ml) (h' : PM w m'.a m'.c m'.s.ml) :
    Calls Try.prog 77 #[.agg #[.int .u64 (m.s.user : Int), .slice m.a m.s.ml.length m.c], .agg #[.int .u64 (m'.s.user : Int), .slice m'.a m'.s.ml.length m'.c]] w fun e w' => e = .returned (.bool (decide (m.s = m'.s))) ∧ Below w.heap.size w w' := by
  obtain ⟨⟨u, o⟩, a, c⟩ := m
  obtain ⟨⟨u', o'⟩, a', c'⟩ := m'
  have hB : Below w.heap.size w ((w.alloc (.cells #[.int .u64 (u : Int), .slice a o.length c] 101)).alloc (.cells #[.int .u64 (u' : Int), .slice a' o'.length c'] 101)) := ((Below.refl _ w).alloc (Nat.le_refl _) _).alloc (by simp) _
  have HO := Lib.hid (equalM_any a a' c c' o o' hl _ (h.on hB) (h'.on hB))
  have HB := Lib.hid hB
  clear h h' hB hl
  have q1 := nat_eqC u u'
  by_cases e1 : u = u'
  · rw [decide_eq_true e1] at q1
    have hd : decide ((BxM.mk ⟨u, o⟩ a c).s = (BxM.mk ⟨u', o'⟩ a' c').s) = decide (o = o') := by
      by_cases e4 : o = o'
      · rw [decide_eq_true e4]
        exact decide_eq_true (show (⟨u, o⟩ : Bx) = ⟨u', o'⟩ by rw [e1, e4])
      · rw [decide_eq_false e4]
        exact decide_eq_false (fun (h : (⟨u, o⟩ : Bx) = ⟨u', o'⟩) => e4 (Bx.mk.inj h).2)
    rw [hd]
    obtain ⟨r, hr⟩ : ∃ r, decide (o = o') = r := ⟨_, rfl⟩
    rw [hr] at HO ⊢
    clear hd hr e1
    go_enter Try.func77, Try.ntmps77
    go_wp2_with (go_at_call 101; refine HO.out.mono ?_; rintro e w2 ⟨rfl, hb2⟩)
    go_ret
    exact ⟨rfl, HB.out.trans (hb2.mono HB.out.size)⟩
  · rw [decide_eq_false e1] at q1
    have hd := Lib.hid (decide_eq_false (fun (h : (⟨u, o⟩ : Bx) = ⟨u', o'⟩) => e1 (Bx.mk.inj h).1))
    clear e1 HO
    go_enter Try.func77, Try.ntmps77
    go_wp2_with fail
    go_ret
    exact ⟨by rw [hd.out]; rfl, HB.out⟩
def LkBRel (w : World) (l m : List Bx) (i : Value) (wr : World) : Prop := ∃ (k : Nat) (W : World), W = wr ∧ i = .int .i64 (k : Int) ∧ k ≤ l.length ∧ Below w.heap.size w wr ∧ l.take k = m.take k
set_option maxHeartbeats 4000000 in
theorem equalB_any (a b : Option Addr) (c c' : Nat) (L M : List BxM) (hf : FewB L) (w : World) (hp : SB w a c L) (hq : SB w b c' M) :
    Calls Try.prog 76 #[.slice a L.length c, .slice b M.length c', .func (.func 77) #[] #[]] w fun e w' => e = .returned (.bool (decide (bxs L = bxs M))) ∧ Below w.heap.size w w' := by
  have HP := Lib.hid hp; have HQ := Lib.hid hq; have HF := Lib.hid hf
  have q : (L.length : Int) ≤ 1000 := by have := hf.1; omega
  have sl := bxs_length L
  have sm := bxs_length M
  clear hp hq hf
  by_cases hlen : L.length = M.length
  case neg =>
    have hn : ¬ (L.length : Int) = (M.length : Int) := by omega
    rw [decide_eq_false fun e => hlen (by rw [← sl, ← sm, e])]
    clear hlen HP HQ
    go_enter Try.func76, Try.ntmps76
    go_wp2_with fail
    go_ret
    exact ⟨rfl, Below.refl _ _⟩
  case pos =>
    rw [show M.length = L.length from hlen.symm]
    have HLN := Lib.hid (And.intro hlen (And.intro sl sm))
    clear hlen sl sm
    go_enter Try.func76, Try.ntmps76
    go_wp2_with fail
    go_loopw [17] (LkBRel w (bxs L) (bxs M)) (fun i _ => L.length - (Lib.intOf i).toNat)
    case atStart => exact ⟨0, _, rfl, rfl, Nat.zero_le _, Below.refl _ _, by simp⟩
    case round =>
      obtain ⟨k, wr, rfl, rfl, h1, h2, h3⟩ := hrel
      by_cases hk : k < L.length
      · have hkz : (k : Int) < (L.length : Int) := by omega
        have hkm : k < M.length := by have := HLN.out.1; omega
        have hks : k < (bxs L).length := by have := HLN.out.2.1; omega
        have hkt : k < (bxs M).length := by have := HLN.out.2.2; omega
        obtain ⟨g, off, rfl, hlt, hall⟩ := (HP.out.on h2).get k hk
        obtain ⟨g', off', rfl, hlt', hall'⟩ := (HQ.out.on h2).get k hkm
        have hst := take_eqC hks hkt
        have hne := ne_ofC hks hkt
        rw [bxs_get L k hk, bxs_get M k hkm] at hst hne
        have hpt := (HP.out.on h2).mls _ (List.getElem_mem hk)
        have hpt' := (HQ.out.on h2).mls _ (List.getElem_mem hkm)
        have hfl := HF.out.2 _ (List.getElem_mem hk)
        obtain ⟨c0, c1⟩ := hall k hk
        obtain ⟨d0, d1⟩ := hall' k hkm
        obtain ⟨x, ex⟩ : ∃ x, L[k] = x := ⟨_, rfl⟩
        obtain ⟨y, ey⟩ : ∃ y, M[k] = y := ⟨_, rfl⟩
        rw [ex] at c0 c1 hst hne hpt hfl
        rw [ey] at d0 d1 hst hne hpt'
        have hB2 : Below wr.heap.size wr ((wr.alloc (.cells #[.int .u64 (x.s.user : Int), .slice x.a x.s.ml.length x.c] 101)).alloc (.cells #[.int .u64 (y.s.user : Int), .slice y.a y.s.ml.length y.c] 101)) := ((Below.refl _ wr).alloc (Nat.le_refl _) _).alloc (by simp) _
        have HS := Lib.hid (sameBox_any x y hfl _ (hpt.on hB2) (hpt'.on hB2))
        have HB := Lib.hid (h2.trans (hB2.mono h2.size))
        clear hall hall' hpt hpt' hfl
        by_cases e : x.s = y.s
        · rw [decide_eq_true e] at HS
          have HN := Lib.hid (hst.2 ⟨h3, e⟩)
          clear h2 h3 hst hne e ex ey hB2
          go_wp2_with (go_at_call 77; refine HS.out.mono ?_; rintro e w2 ⟨rfl, hb2⟩)
          exact ⟨⟨k + 1, _, rfl, by go_num, by omega, HB.out.trans (hb2.mono HB.out.size), HN.out⟩, by simp [Lib.intOf]; omega⟩
        · rw [decide_eq_false e] at HS
          have HN := Lib.hid (decide_eq_false (hne e))
          clear h2 h3 hst hne e ex ey hB2
          go_wp2_with (go_at_call 77; refine HS.out.mono ?_; rintro e w2 ⟨rfl, hb2⟩)
          go_ret
          exact ⟨by rw [HN.out]; rfl, HB.out.trans (hb2.mono HB.out.size)⟩
      · have hkz : ¬ (k : Int) < (L.length : Int) := by omega
        have hkn : k = (bxs L).length := by have := HLN.out.2.1; omega
        rw [hkn] at h3
        have HD := Lib.hid (decide_eq_true (eq_ofC (by have := HLN.out; omega) h3))
        clear h3
        go_wp2_with fail
        go_ret
        exact ⟨by rw [HD.out]; rfl, h2⟩
theorem rl_eq {b b' : List Bx} {n n' x x' : Nat} (h1 : n = n') (h2 : x = x') : decide ((⟨b, n, x⟩ : Rl) = ⟨b', n', x'⟩) = decide (b = b') := by
  subst h1 h2
  by_cases e : b = b'
  · rw [decide_eq_true e, decide_eq_true (by rw [e])]
  · rw [decide_eq_false e, decide_eq_false (fun h => e (Rl.mk.inj h).1)]
set_option maxHeartbeats 4000000 in
theorem likeR_any (a b : Option Addr) (c c' : Nat) (L M : List BxM) (n n' x x' : Nat) (hf : FewB L) (w : World) (hp : SB w a c L) (hq : SB w b c' M) :
    Calls Try.prog 38 #[.agg #[.slice a L.length c, .int .u64 (n : Int), .int .u64 (x : Int)], .agg #[.slice b M.length c', .int .u64 (n' : Int), .int .u64 (x' : Int)]] w fun e w' => e = .returned (.bool (decide ((⟨bxs L, n, x⟩ : Rl) = ⟨bxs M, n', x'⟩))) ∧ Below w.heap.size w w' := by
  have hB : Below w.heap.size w ((w.alloc (.cells #[.slice a L.length c, .int .u64 (n : Int), .int .u64 (x : Int)] 56)).alloc (.cells #[.slice b M.length c', .int .u64 (n' : Int), .int .u64 (x' : Int)] 56)) := ((Below.refl _ w).alloc (Nat.le_refl _) _).alloc (by simp) _
  have HO := Lib.hid (equalB_any a b c c' L M hf _ (hp.on hB) (hq.on hB))
  have HB := Lib.hid hB
  clear hp hq hB hf
  have q1 := nat_eqC n n'
  have q2 := nat_eqC x x'
  by_cases e1 : n = n'
  · rw [decide_eq_true e1] at q1
    by_cases e2 : x = x'
    · rw [decide_eq_true e2] at q2
      rw [rl_eq e1 e2]
      obtain ⟨r, hr⟩ : ∃ r, decide (bxs L = bxs M) = r := ⟨_, rfl⟩
      rw [hr] at HO ⊢
      clear hr e1 e2
      go_enter Try.func38, Try.ntmps38
      go_wp2_with (go_at_call 76; refine HO.out.mono ?_; rintro e w2 ⟨rfl, hb2⟩)
      go_ret
      exact ⟨rfl, HB.out.trans (hb2.mono HB.out.size)⟩
    · rw [decide_eq_false e2] at q2
      have hd := Lib.hid (decide_eq_false (fun (h : (⟨bxs L, n, x⟩ : Rl) = ⟨bxs M, n', x'⟩) => e2 (Rl.mk.inj h).2.2))
      clear e1 e2 HO
      go_enter Try.func38, Try.ntmps38
      go_wp2_with fail
      go_ret
      exact ⟨by rw [hd.out]; rfl, HB.out⟩
  · rw [decide_eq_false e1] at q1
    have hd := Lib.hid (decide_eq_false (fun (h : (⟨bxs L, n, x⟩ : Rl) = ⟨bxs M, n', x'⟩) => e1 (Rl.mk.inj h).2.1))
    clear e1 HO q2
    go_enter Try.func38, Try.ntmps38
    go_wp2_with fail
    go_ret
    exact ⟨by rw [hd.out]; rfl, HB.out⟩
end Go.Proofs.Ytmmaimopombepaa
