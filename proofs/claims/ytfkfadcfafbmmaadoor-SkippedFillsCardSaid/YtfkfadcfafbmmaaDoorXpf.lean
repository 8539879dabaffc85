/- The contract of skipped's Fill. -/
import Derived.Test.YtfkfadcfafbmmaaDoorXp
import Derived.Test.YtfkfadcfafbmmaaDoorXpe
import Derived.Test.YtfkfadcfafbmmaaDoorBRg1
namespace Go.Proofs.YtfkfadcfafbmmaaDoor
open Go.RowKit Go.Sort
set_option maxRecDepth 100000

set_option maxHeartbeats 2000000 in
theorem Fill_wrong (a : Option Addr) (ca : Nat) (l : List Kk) (r c : ByteArray) (f t : Nat) (hl : l.length ≤ 22) (hla : l.length ≤ ca) (hg : ¬ rightK l) (w : World) (hp : KSl w a l) :
    Calls Tryd.prog 6 #[.slice a l.length ca, .string r, .string c, .int .u64 (f : Int), .int .u64 (t : Int)] w fun e w' => e = .returned (.tuple #[.slice none 0 0, .string ⟨#[]⟩, .int .i64 1]) ∧ Below w.heap.size w w' := by
  have hR := Right_any a ca l (by omega) hla w hp
  rw [decide_eq_false hg] at hR
  have HR := Lib.hid hR
  clear hR hp hl hla hg
  go_enter Tryd.func6, Tryd.ntmps6
  go_wp2_with fail
  refine HR.out.mono ?_
  rintro e w1 ⟨rfl, hb⟩
  have HB := Lib.hid hb
  clear HR hb
  go_wp2_with fail
  go_ret3
  exact ⟨rfl, HB.out⟩
set_option maxHeartbeats 2000000 in
theorem Fill_ratchet (a : Option Addr) (ca : Nat) (l : List Kk) (r c : ByteArray) (f t : Nat) (hl : l.length ≤ 22) (hla : l.length ≤ ca) (hg : rightK l) (hr : ¬ r.size = 32) (w : World) (hp : KSl w a l) :
    Calls Tryd.prog 6 #[.slice a l.length ca, .string r, .string c, .int .u64 (f : Int), .int .u64 (t : Int)] w fun e w' => e = .returned (.tuple #[.slice none 0 0, .string ⟨#[]⟩, .int .i64 2]) ∧ Below w.heap.size w w' := by
  have hR := Right_any a ca l (by omega) hla w hp
  rw [decide_eq_true hg] at hR
  have hX := fun w => isKeyK_any r w
  rw [decide_eq_false hr] at hX
  have HR := Lib.hid hR; have HX := Lib.hid hX
  clear hR hp hl hla hg hX hr
  go_enter Tryd.func6, Tryd.ntmps6
  go_wp2_with fail
  refine HR.out.mono ?_
  rintro e w1 ⟨rfl, hb⟩
  have HB := Lib.hid hb
  clear HR hb
  go_wp2_with (go_at_call 13; refine (HX.out _).mono ?_; rintro e w' ⟨rfl, rfl⟩)
  go_ret3
  exact ⟨rfl, HB.out⟩
set_option maxHeartbeats 2000000 in
theorem Fill_chain (a : Option Addr) (ca : Nat) (l : List Kk) (r c : ByteArray) (f t : Nat) (hl : l.length ≤ 22) (hla : l.length ≤ ca) (hg : rightK l) (hr : r.size = 32) (hc : ¬ c.size = 32) (w : World) (hp : KSl w a l) :
    Calls Tryd.prog 6 #[.slice a l.length ca, .string r, .string c, .int .u64 (f : Int), .int .u64 (t : Int)] w fun e w' => e = .returned (.tuple #[.slice none 0 0, .string ⟨#[]⟩, .int .i64 2]) ∧ Below w.heap.size w w' := by
  have hR := Right_any a ca l (by omega) hla w hp
  rw [decide_eq_true hg] at hR
  have hX := fun w => isKeyK_any r w
  rw [decide_eq_true hr] at hX
  have hY := fun w => isKeyK_any c w
  rw [decide_eq_false hc] at hY
  have HR := Lib.hid hR; have HX := Lib.hid hX; have HY := Lib.hid hY
  clear hR hp hl hla hg hX hr hY hc
  go_enter Tryd.func6, Tryd.ntmps6
  go_wp2_with fail
  refine HR.out.mono ?_
  rintro e w1 ⟨rfl, hb⟩
  have HB := Lib.hid hb
  clear HR hb
  go_wp2_with (first | (go_at_call 13; refine (HX.out _).mono ?_; rintro e w' ⟨rfl, rfl⟩) | (go_at_call 13; refine (HY.out _).mono ?_; rintro e w' ⟨rfl, rfl⟩))
  go_ret3
  exact ⟨rfl, HB.out⟩
set_option maxHeartbeats 2000000 in
theorem Fill_turned (a : Option Addr) (ca : Nat) (l : List Kk) (r c : ByteArray) (f t : Nat) (hl : l.length ≤ 22) (hla : l.length ≤ ca) (hg : rightK l) (hr : r.size = 32) (hc : c.size = 32) (ht : t < f) (w : World) (hp : KSl w a l) :
    Calls Tryd.prog 6 #[.slice a l.length ca, .string r, .string c, .int .u64 (f : Int), .int .u64 (t : Int)] w fun e w' => e = .returned (.tuple #[.slice none 0 0, .string ⟨#[]⟩, .int .i64 8]) ∧ Below w.heap.size w w' := by
  have hR := Right_any a ca l (by omega) hla w hp
  rw [decide_eq_true hg] at hR
  have h1 : (t : Int) < (f : Int) := by omega
  have hX := fun w => isKeyK_any r w
  rw [decide_eq_true hr] at hX
  have hY := fun w => isKeyK_any c w
  rw [decide_eq_true hc] at hY
  have HR := Lib.hid hR; have HX := Lib.hid hX; have HY := Lib.hid hY
  clear hR hp hl hla hg hX hr hY hc ht
  go_enter Tryd.func6, Tryd.ntmps6
  go_wp2_with fail
  refine HR.out.mono ?_
  rintro e w1 ⟨rfl, hb⟩
  have HB := Lib.hid hb
  clear HR hb
  go_wp2_with (first | (go_at_call 13; refine (HX.out _).mono ?_; rintro e w' ⟨rfl, rfl⟩) | (go_at_call 13; refine (HY.out _).mono ?_; rintro e w' ⟨rfl, rfl⟩))
  go_ret3
  exact ⟨rfl, HB.out⟩
set_option maxHeartbeats 2000000 in
theorem Fill_far (a : Option Addr) (ca : Nat) (l : List Kk) (r c : ByteArray) (f t : Nat) (hl : l.length ≤ 22) (hla : l.length ≤ ca) (hg : rightK l) (hr : r.size = 32) (hc : c.size = 32) (ht : f + 10 < t) (h64 : t < 18446744073709551616) (w : World) (hp : KSl w a l) :
    Calls Tryd.prog 6 #[.slice a l.length ca, .string r, .string c, .int .u64 (f : Int), .int .u64 (t : Int)] w fun e w' => e = .returned (.tuple #[.slice none 0 0, .string ⟨#[]⟩, .int .i64 8]) ∧ Below w.heap.size w w' := by
  have hR := Right_any a ca l (by omega) hla w hp
  rw [decide_eq_true hg] at hR
  have h1 : ¬ (t : Int) < (f : Int) := by omega
  have h2 : IntKind.u64.wrap ((t : Int) - (f : Int)) = ((t - f : Nat) : Int) := by rw [IntWalk.u64_in _ (by omega)]; omega
  have h3 : (10 : Int) < ((t - f : Nat) : Int) := by omega
  obtain ⟨d, ed⟩ : ∃ d, t - f = d := ⟨_, rfl⟩
  rw [ed] at h2 h3
  have hX := fun w => isKeyK_any r w
  rw [decide_eq_true hr] at hX
  have hY := fun w => isKeyK_any c w
  rw [decide_eq_true hc] at hY
  have HR := Lib.hid hR; have HX := Lib.hid hX; have HY := Lib.hid hY
  clear hR hp hl hla hg hX hr hY hc ht ed h64
  go_enter Tryd.func6, Tryd.ntmps6
  go_wp2_with fail
  refine HR.out.mono ?_
  rintro e w1 ⟨rfl, hb⟩
  have HB := Lib.hid hb
  clear HR hb
  go_wp2_with (first | (go_at_call 13; refine (HX.out _).mono ?_; rintro e w' ⟨rfl, rfl⟩) | (go_at_call 13; refine (HY.out _).mono ?_; rintro e w' ⟨rfl, rfl⟩))
  go_ret3
  exact ⟨rfl, HB.out⟩
set_option maxHeartbeats 2000000 in
theorem Fill_old (a : Option Addr) (ca : Nat) (l : List Kk) (r c : ByteArray) (f t : Nat) (hl : l.length ≤ 22) (hla : l.length ≤ ca) (hg : rightK l) (hr : r.size = 32) (hc : c.size = 32) (m : Nat) (ht : f + m = t) (hm : m ≤ 10) (h64 : t < 18446744073709551616) (hno : ¬ freeK l r f m) (w : World) (hp : KSl w a l) :
    Calls Tryd.prog 6 #[.slice a l.length ca, .string r, .string c, .int .u64 (f : Int), .int .u64 (t : Int)] w fun e w' => e = .returned (.tuple #[.slice none 0 0, .string ⟨#[]⟩, .int .i64 7]) ∧ Below w.heap.size w w' := by
  have hR := Right_any a ca l (by omega) hla w hp
  rw [decide_eq_true hg] at hR
  have h1 : ¬ (t : Int) < (f : Int) := by omega
  have h2 : IntKind.u64.wrap ((t : Int) - (f : Int)) = (m : Int) := by rw [IntWalk.u64_in _ (by omega)]; omega
  have h3 : ¬ (10 : Int) < (m : Int) := by omega
  have hX := fun w => isKeyK_any r w
  rw [decide_eq_true hr] at hX
  have hY := fun w => isKeyK_any c w
  rw [decide_eq_true hc] at hY
  have hA := fun (W : World) (hW : KSl W a l) => hasAny_any a ca l r f m (by omega) (by omega) W hW
  rw [ht, decide_eq_false hno, Bool.not_false] at hA
  have HR := Lib.hid hR; have HX := Lib.hid hX; have HY := Lib.hid hY; have HA := Lib.hid hA; have HP := Lib.hid hp
  clear hR hp hl hla hg hX hr hY hc ht hm h64 hno hA
  go_enter Tryd.func6, Tryd.ntmps6
  go_wp2_with fail
  refine HR.out.mono ?_
  rintro e w1 ⟨rfl, hb⟩
  have HB := Lib.hid hb
  clear HR hb
  go_wp2_with (first | (go_at_call 13; refine (HX.out _).mono ?_; rintro e w' ⟨rfl, rfl⟩) | (go_at_call 13; refine (HY.out _).mono ?_; rintro e w' ⟨rfl, rfl⟩))
  refine (HA.out w1 (HP.out.on HB.out)).mono ?_
  rintro e w2 ⟨rfl, hb⟩
  have HB := Lib.hid (HB.out.trans (hb.mono HB.out.size))
  clear hb HA
  go_wp2_with fail
  go_ret3
  exact ⟨rfl, HB.out⟩
set_option maxHeartbeats 2000000 in
theorem Fill_good (a : Option Addr) (ca : Nat) (l : List Kk) (r c : ByteArray) (f t : Nat) (hl : l.length ≤ 22) (hla : l.length ≤ ca) (hg : rightK l) (hr : r.size = 32) (hc : c.size = 32) (m : Nat) (ht : f + m = t) (hm : m ≤ 10) (h64 : t < 18446744073709551616) (hno : freeK l r f m) (w : World) (hp : KSl w a l) (hF : FirstAt w) (hK : KeysAt w) :
    Calls Tryd.prog 6 #[.slice a l.length ca, .string r, .string c, .int .u64 (f : Int), .int .u64 (t : Int)] w fun e w' => ∃ (a' : Option Addr) (c' : Nat), e = .returned (.tuple #[.slice a' (fillK l r c f m).length c', .string (runC c m), .int .i64 0]) ∧ (fillK l r c f m).length ≤ c' ∧ KSl w' a' (fillK l r c f m) ∧ Below w.heap.size w w' := by
  have hR := Right_any a ca l (by omega) hla w hp
  rw [decide_eq_true hg] at hR
  have h1 : ¬ (t : Int) < (f : Int) := by omega
  have h2 : IntKind.u64.wrap ((t : Int) - (f : Int)) = (m : Int) := by rw [IntWalk.u64_in _ (by omega)]; omega
  have h3 : ¬ (10 : Int) < (m : Int) := by omega
  have h4 : IntKind.i64.wrap (m : Int) = (m : Int) := by rw [IntWalk.i64_in _ (by omega)]
  have hX := fun w => isKeyK_any r w
  rw [decide_eq_true hr] at hX
  have hY := fun w => isKeyK_any c w
  rw [decide_eq_true hc] at hY
  have hA := fun (W : World) (hW : KSl W a l) => hasAny_any a ca l r f m (by omega) (by omega) W hW
  rw [ht, decide_eq_true hno, Bool.not_true] at hA
  have hRu := fun (W : World) (hF : FirstAt W) (hK : KeysAt W) => Run_good c hc m (by omega) W hF hK
  have hFi := fun (b : Option Addr) (cb : Nat) (W : World) (hW : KSl W a l) (hq : SSl W b (runK c m)) => filled_any a ca l r c f m hg.few (by omega) (by omega) b cb W hW hq
  obtain ⟨C, eC⟩ : ∃ C, runC c m = C := ⟨_, rfl⟩
  obtain ⟨L, eL⟩ : ∃ L, fillK l r c f m = L := ⟨_, rfl⟩
  rw [eC, eL]
  rw [eC] at hRu
  rw [eL] at hFi
  have HR := Lib.hid hR; have HX := Lib.hid hX; have HY := Lib.hid hY; have HA := Lib.hid hA; have HP := Lib.hid hp; have HRU := Lib.hid hRu; have HFI := Lib.hid hFi; have HFK := Lib.hid (And.intro hF hK)
  clear hR hp hl hla hg hX hr hY hc ht hm h64 hno hA hRu hFi hF hK eC eL
  go_enter Tryd.func6, Tryd.ntmps6
  go_wp2_with fail
  refine HR.out.mono ?_
  rintro e w1 ⟨rfl, hb⟩
  have HB := Lib.hid hb
  clear HR hb
  go_wp2_with (first | (go_at_call 13; refine (HX.out _).mono ?_; rintro e w' ⟨rfl, rfl⟩) | (go_at_call 13; refine (HY.out _).mono ?_; rintro e w' ⟨rfl, rfl⟩))
  refine (HA.out w1 (HP.out.on HB.out)).mono ?_
  rintro e w2 ⟨rfl, hb⟩
  have HB2 := Lib.hid (HB.out.trans (hb.mono HB.out.size))
  clear hb HA HB
  go_wp2_with fail
  refine (HRU.out w2 (HFK.out.1.on HB2.out) (HFK.out.2.on HB2.out)).mono ?_
  rintro e w3 ⟨v, rfl, hO, hb⟩
  have HB3 := Lib.hid (HB2.out.trans (hb.mono HB2.out.size))
  obtain ⟨b, cb, rfl, hq⟩ := hO.readK
  rw [runK_length]
  have HQ := Lib.hid hq
  clear hb HRU HB2 hq hO
  go_wp2_with fail
  refine (HFI.out b cb w3 (HP.out.on HB3.out) HQ.out).mono ?_
  rintro e w4 ⟨v, rfl, hO, hb⟩
  have HF := Lib.hid (And.intro hO (HB3.out.trans (hb.mono HB3.out.size)))
  clear hO hb HFI HB3 HQ
  go_wp2_with fail
  go_ret3
  obtain ⟨a', c', e1, h1, h2⟩ := HF.out.1.ksl
  exact ⟨a', c', by rw [e1]; rfl, h1, h2, HF.out.2⟩
theorem nil_told3 {e : Ending} {E : Int} {w w' : World} (h : e = .returned (.tuple #[.slice none 0 0, .string ⟨#[]⟩, .int .i64 E]) ∧ Below w.heap.size w w') :
    ∃ (a' : Option Addr) (c' : Nat), e = .returned (.tuple #[.slice a' ([] : List Kk).length c', .string ⟨#[]⟩, .int .i64 E]) ∧ ([] : List Kk).length ≤ c' ∧ KSl w' a' [] ∧ Below w.heap.size w w' :=
  ⟨none, 0, h.1, Nat.le_refl _, KSl.nil _ _, h.2⟩
theorem Fill_any (a : Option Addr) (ca : Nat) (l : List Kk) (r c : ByteArray) (f t : Nat) (hl : l.length ≤ 22) (hla : l.length ≤ ca) (_ : f < 18446744073709551616) (ht : t < 18446744073709551616) (w : World) (hp : KSl w a l) (hF : FirstAt w) (hK : KeysAt w) :
    Calls Tryd.prog 6 #[.slice a l.length ca, .string r, .string c, .int .u64 (f : Int), .int .u64 (t : Int)] w fun e w' => ∃ (a' : Option Addr) (c' : Nat), e = .returned (.tuple #[.slice a' (fillET l r c f t).length c', .string (fillEC l r c f t), .int .i64 (fillE l r c f t)]) ∧ (fillET l r c f t).length ≤ c' ∧ KSl w' a' (fillET l r c f t) ∧ Below w.heap.size w w' := by
  by_cases hg : rightK l
  · obtain ⟨e1, e2, e3⟩ := fillE_right hg r c f t
    rw [e1, e2, e3]
    by_cases hs : r.size = 32 ∧ c.size = 32
    · by_cases hgap : f ≤ t ∧ t ≤ f + 10
      · obtain ⟨m, rfl⟩ : ∃ m, t = f + m := ⟨t - f, by omega⟩
        have em : f + m - f = m := by omega
        by_cases hno : freeK l r f (f + m - f)
        · obtain ⟨p1, p2, p3⟩ := fill_good (l := l) hs hgap hno
          rw [p1, p2, p3, em]
          rw [em] at hno
          exact Fill_good a ca l r c f _ hl hla hg hs.1 hs.2 m rfl (by omega) ht hno w hp hF hK
        · obtain ⟨p1, p2, p3⟩ := fill_old (l := l) hs hgap hno
          rw [p1, p2, p3]
          rw [em] at hno
          exact (Fill_old a ca l r c f _ hl hla hg hs.1 hs.2 m rfl (by omega) ht hno w hp).mono fun _ _ h => nil_told3 h
      · obtain ⟨p1, p2, p3⟩ := fill_gap (l := l) (f := f) (t := t) hs hgap
        rw [p1, p2, p3]
        by_cases htf : t < f
        · exact (Fill_turned a ca l r c f t hl hla hg hs.1 hs.2 htf w hp).mono fun _ _ h => nil_told3 h
        · exact (Fill_far a ca l r c f t hl hla hg hs.1 hs.2 (by omega) ht w hp).mono fun _ _ h => nil_told3 h
    · obtain ⟨p1, p2, p3⟩ := fill_size (l := l) (f := f) (t := t) hs
      rw [p1, p2, p3]
      by_cases hr : r.size = 32
      · exact (Fill_chain a ca l r c f t hl hla hg hr (fun h => hs ⟨hr, h⟩) w hp).mono fun _ _ h => nil_told3 h
      · exact (Fill_ratchet a ca l r c f t hl hla hg hr w hp).mono fun _ _ h => nil_told3 h
  · obtain ⟨e1, e2, e3⟩ := fillE_wrong hg r c f t
    rw [e1, e2, e3]
    exact (Fill_wrong a ca l r c f t hl hla hg w hp).mono fun _ _ h => nil_told3 h
end Go.Proofs.YtfkfadcfafbmmaaDoor
