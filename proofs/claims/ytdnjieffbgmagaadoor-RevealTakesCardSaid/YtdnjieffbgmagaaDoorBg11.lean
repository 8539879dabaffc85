/- The texts Pd, Pe, Pg, Pi, Ra, Sa, one behind the other. -/
import Derived.Test.YtdnjieffbgmagaaDoorBg10
import Derived.Lib.AppendStr
import Derived.Deep.Strs
import Derived.Carry
/- Parts in memory; the contracts of wire's Number, fits, samePart. -/
namespace Go.Proofs.YtdnjieffbgmagaaDoor
open Go.RowKit
set_option maxRecDepth 100000
def p0 : Pt := ⟨false, 0, ⟨#[]⟩⟩
def pv (p : Pt) : Value := .agg #[.bool p.text, .int .u64 (p.n : Int), .string p.s]
structure PtOk (p : Pt) : Prop where
  n : p.n < 18446744073709551616
  s : p.s.size ≤ maxLen
def PsOk (l : List Pt) : Prop := ∀ p ∈ l, PtOk p
theorem PsOk.at {l : List Pt} (h : PsOk l) (i : Nat) (hi : i < l.length) : PtOk (l.getD i p0) := by
  have e : l.getD i p0 = l[i] := by simp [List.getD, hi]
  rw [e]; exact h _ (List.getElem_mem hi)
/-- three cells that are a part -/
structure PtAt (w : World) (b o : Nat) (p : Pt) : Prop where
  c0 : w.cell? ⟨b, o, none⟩ = some (.bool p.text)
  c1 : w.cell? ⟨b, o + 1, none⟩ = some (.int .u64 (p.n : Int))
  c2 : w.cell? ⟨b, o + 2, none⟩ = some (.string p.s)
theorem PtAt.on {w w' : World} {b o : Nat} {p : Pt} (h : PtAt w b o p) (hb : Below w.heap.size w w') : PtAt w' b o p := by
  have hlt := World.block_lt_of_cell? w _ h.c0
  exact ⟨by rw [hb.cell (p := ⟨b, o, none⟩) hlt]; exact h.c0, by rw [hb.cell (p := ⟨b, o + 1, none⟩) hlt]; exact h.c1, by rw [hb.cell (p := ⟨b, o + 2, none⟩) hlt]; exact h.c2⟩
theorem PtAt.below {w w' : World} {n b o : Nat} {p : Pt} (h : PtAt w b o p) (hb : Below n w w') (hB : b < n) : PtAt w' b o p :=
  ⟨by rw [hb.cell (p := ⟨b, o, none⟩) hB]; exact h.c0, by rw [hb.cell (p := ⟨b, o + 1, none⟩) hB]; exact h.c1, by rw [hb.cell (p := ⟨b, o + 2, none⟩) hB]; exact h.c2⟩
theorem PtAt.fresh (w : World) (p : Pt) (t : TypeId) : PtAt (w.alloc (.cells #[.bool p.text, .int .u64 (p.n : Int), .string p.s] t)) w.heap.size 0 p := by
  have hH := heap_alloc_new w (.cells #[.bool p.text, .int .u64 (p.n : Int), .string p.s] t)
  exact ⟨by rw [cell_of_row _ _ _ _ _ _ hH]; rfl, by rw [cell_of_row _ _ _ _ _ _ hH]; rfl, by rw [cell_of_row _ _ _ _ _ _ hH]; rfl⟩
/-- a slice of parts, nil or not, that reads as l -/
def PSl (w : World) (a : Option Addr) (l : List Pt) : Prop :=
  0 < l.length → ∃ b off : Nat, a = some ⟨b, off, none⟩ ∧ b < w.heap.size ∧ ∀ i, i < l.length → PtAt w b (off + i * 3) (l.getD i p0)
theorem PSl.on {w w' : World} {a : Option Addr} {l : List Pt} (h : PSl w a l) (hb : Below w.heap.size w w') : PSl w' a l := by
  intro h0
  obtain ⟨b, off, ha, hlt, hc⟩ := h h0
  exact ⟨b, off, ha, Nat.lt_of_lt_of_le hlt hb.size, fun i hi => (hc i hi).on hb⟩
theorem PSl.nil (w : World) (a : Option Addr) : PSl w a [] := fun h => absurd h (Nat.lt_irrefl 0)
theorem PSl.take {w : World} {a : Option Addr} {l : List Pt} (h : PSl w a l) (k : Nat) : PSl w a (l.take k) := by
  intro h0
  rw [List.length_take] at h0
  obtain ⟨b, off, ha, hlt, hc⟩ := h (by omega)
  refine ⟨b, off, ha, hlt, fun i hi => ?_⟩
  rw [List.length_take] at hi
  have e : (l.take k).getD i p0 = l.getD i p0 := by
    rw [List.getD_eq_getElem?_getD, List.getD_eq_getElem?_getD, List.getElem?_take, if_pos (by omega)]
  rw [e]; exact hc i (by omega)

theorem str_eq (s t : ByteArray) : (s.toList == t.toList) = decide (s = t) := by
  rw [Lib.toList_data, Lib.toList_data]
  by_cases h : s = t
  · subst h; simp
  · rw [decide_eq_false h, beq_eq_false_iff_ne]
    exact fun e => h (bl_inj e)
theorem str_lit (s : ByteArray) (l m : List UInt8) (hs : bl s = l) : (s.toList == m) = decide (l = m) := by
  rw [Lib.toList_data]
  show (bl s == m) = _
  rw [hs]
  by_cases h : l = m
  · subst h; simp
  · rw [decide_eq_false h, beq_eq_false_iff_ne]; exact h
theorem nat_eq (n m : Nat) : ((n : Int) == (m : Int)) = decide (n = m) := by
  by_cases h : n = m
  · subst h; simp
  · rw [decide_eq_false h, beq_eq_false_iff_ne]; omega
set_option maxHeartbeats 400000 in
theorem fits_any (p : Pt) (hp : PtOk p) (w : World) :
    Calls Tryd.prog 72 #[pv p] w fun e w' => e = .returned (.bool (!longP p)) ∧ Below w.heap.size w w' := by
  obtain ⟨t, n, s⟩ := p
  have hb : Below w.heap.size w (w.alloc (.cells #[.bool t, .int .u64 (n : Int), .string s] 77)) := (Below.refl _ _).alloc (Nat.le_refl _) _
  have HB := Lib.hid hb
  clear hp hb
  unfold pv
  simp only
  cases t
  · go_enter Tryd.func72, Tryd.ntmps72
    go_wp2_with fail
    go_ret
    exact ⟨rfl, HB.out⟩
  · by_cases h : 1024 < s.size
    · have l1 : ¬ (s.size : Int) ≤ 1024 := by omega
      have l2 : (1024 : Int) < (s.size : Int) := by omega
      have e : longP ⟨true, n, s⟩ = true := by unfold longP; simp [h]
      rw [e]
      clear e h
      go_enter Tryd.func72, Tryd.ntmps72
      go_wp2_with fail
      go_ret
      exact ⟨rfl, HB.out⟩
    · have l1 : (s.size : Int) ≤ 1024 := by omega
      have e : longP ⟨true, n, s⟩ = false := by unfold longP; simp [h]
      rw [e]
      clear e h
      go_enter Tryd.func72, Tryd.ntmps72
      go_wp2_with fail
      go_ret
      exact ⟨rfl, HB.out⟩
end Go.Proofs.YtdnjieffbgmagaaDoor

/- The contracts of wire's withPart, Pack, Text. -/
namespace Go.Proofs.YtdnjieffbgmagaaDoor
open Go.RowKit
set_option maxRecDepth 100000
/-- the same as one step of a region that draws its order -/
theorem step_append_text {ops : Array Oper} {o : Oper} {a : Act} {w : World} {K : Act → World → Prop} {Q : Exit → Act → World → Prop} {E : Prop} (hgd : o.guard = none) (s x : Operand)
    (ho : o.op = .call { callee := .builtin .append, args := #[s, x], argTypes := #[74, 9] })
    (base : Nat) (v : Value) (l : List UInt8) (t : ByteArray) (hs : a.eval s = v) (hown : Own w base v l) (hx : a.eval x = .string t)
    (hl : l.length ≤ 100000000) (ht : t.size ≤ 100000) (hbase : base ≤ w.heap.size)
    (h : ∀ v' w', Own w' base v' (l ++ bl t) → w.grownBy w' v.ownBlock → K (a.put o.dst v') w') :
    if Region.wanted o (yielded ops a.tmps) = true then Oper.wp Tryd.prog o a w K Q else E := by
  have hw : Region.wanted o (yielded ops a.tmps) = true := by simp [Region.wanted, hgd]
  rw [if_pos hw]
  obtain ⟨i0, hi, hz0, hz1, hz2⟩ := info_parts infoB
  obtain ⟨v', w', hr, h2, h3, -⟩ := Lib.run_append_own_string (P := Tryd.prog) w base 74 9 o.type 5 i0 Tryd.underlying74 Tryd.underlying9 hi hz0 hz1 hz2 v l.length (Lib.byteCells l) hown t (by unfold maxLen; omega) (by omega) hbase
  have hK := h v' w' (by unfold Own; rw [List.length_append, bl_length, Lib.byteCells_append]; exact h2) h3
  unfold Oper.wp
  simp [execOp, ho, resolve, invoke, builtin, hs, hx, hr, Result.andThen]
  exact hK
theorem Own.grown {w w0 w' : World} {base : Nat} {v : Value} {l : List UInt8} (h : Own w base v l) (hB : Below base w0 w) (hb : base ≤ w.heap.size) (hg : w.grownBy w' v.ownBlock) : Below base w0 w' :=
  hB.grown hg hb fun k hk => (World.ownsRow.lt h k hk).1

set_option maxHeartbeats 2000000 in
theorem withPart_any (v : Value) (l : List UInt8) (base : Nat) (p : Pt) (hp : PtOk p) (hf : longP p = false) (hl : l.length ≤ 9000000) (w : World) (hown : Own w base v l) (hbase : base ≤ w.heap.size) :
    Calls Tryd.prog 73 #[v, pv p] w fun e w' => ∃ v', e = .returned v' ∧ Own w' base v' (l ++ partB p) ∧ Below base w w' := by
  obtain ⟨t, n, s⟩ := p
  have hn : n < 18446744073709551616 := hp.n
  unfold pv
  simp only
  have hW := fun (n : Nat) (hn : n < 18446744073709551616) (W : World) (h1 : Own W base v l) (h2 : base ≤ W.heap.size) => withNumber_any v l base n hn (by omega) W h1 h2
  have HW := Lib.hid hW
  have hO1 := hown.alloc (.cells #[.bool t, .int .u64 (n : Int), .string s] 77)
  have hB1 : Below base w (w.alloc (.cells #[.bool t, .int .u64 (n : Int), .string s] 77)) := (Below.refl _ _).alloc hbase _
  have hb1 : base ≤ (w.alloc (.cells #[.bool t, .int .u64 (n : Int), .string s] 77)).heap.size := by simp; omega
  have HO := Lib.hid hO1; have HB := Lib.hid hB1; have Hb := Lib.hid hb1
  cases t
  · have hP : partB ⟨false, n, s⟩ = numB n := rfl
    rw [hP]
    have HN := Lib.hid hn
    clear hp hf hW hown hbase hO1 hB1 hb1 hP hn hl
    go_enter Tryd.func73, Tryd.ntmps73
    go_wp2_with fail
    refine (HW.out n HN.out _ HO.out Hb.out).mono ?_
    rintro e w1 ⟨v', rfl, hO2, hB2, -⟩
    have hB := HB.out.trans hB2
    have HO2 := Lib.hid hO2; have HB2 := Lib.hid hB
    clear hO2 hB2 hB HO HB Hb HW HN
    go_wp2_with fail
    go_ret
    exact ⟨_, rfl, HO2.out, HB2.out⟩
  · have hsz : s.size ≤ 1024 := by unfold longP at hf; simpa using hf
    have hP : partB ⟨true, n, s⟩ = numB s.size ++ bl s := rfl
    rw [hP, ← List.append_assoc]
    have hlen : (l ++ numB s.size).length ≤ 100000000 := by
      rw [List.length_append, numB_length]; have := digL_len8 s.size (by omega); omega
    have hs64 : IntKind.u64.wrap (s.size : Int) = (s.size : Int) := by rw [IntKind.wrap_u64]; omega
    have HSZ := Lib.hid (And.intro hsz hlen)
    clear hp hf hW hown hbase hO1 hB1 hb1 hP hn hl hsz hlen
    go_enter Tryd.func73, Tryd.ntmps73
    go_wp2_with fail
    have hbox : (w.alloc (.cells #[.bool true, .int .u64 (n : Int), .string s] 77)).heap[w.heap.size]? = some (.cells #[.bool true, .int .u64 (n : Int), .string s] 77) := heap_alloc_new _ _
    have HBX := Lib.hid hbox
    clear hbox
    go_region_held3 (fun w' : World => w'.cell? ⟨w.heap.size, 2, none⟩ = some (.string s))
      (first | with_reducible assumption | go_keep)
      (first
      | (go_at_call 79; refine (HW.out s.size (by have := HSZ.out.1; omega) (World.drew _) (Own.drew HO.out) Hb.out).mono ?_; rintro e w1 ⟨v', rfl, hO2, hB2, hK2⟩; have hB := HB.out.drew.trans hB2; have hb := Nat.le_trans Hb.out hB2.size; have hx2 := hK2 w.heap.size _ _ _ HBX.out (by decide); have c2 : w1.cell? ⟨w.heap.size, 2, none⟩ = some (.string s) := (by rw [cell_of_row _ _ _ _ _ _ hx2]; rfl); have HX2 := Lib.hid hx2; have HO2 := Lib.hid hO2; have HB2 := Lib.hid hB; have Hb2 := Lib.hid hb; clear hO2 hB2 hB hb hK2 hx2)
      | (refine step_append_text rfl _ _ rfl base _ _ s rfl HO2.out rfl HSZ.out.2 (by have := HSZ.out.1; omega) Hb2.out ?_; intro v2 w2 hO3 hg; have hB3 := HO2.out.grown HB2.out Hb2.out hg; have c3 : w2.cell? ⟨w.heap.size, 2, none⟩ = some (.string s) := (by rw [cell_of_row _ _ _ _ _ _ (HO2.out.keeps hg _ _ _ _ HX2.out (by decide))]; rfl); have HO3 := Lib.hid hO3; have HB3 := Lib.hid hB3; clear hO3 hB3 hg))
    clear HO2 HB2 Hb2 HX2 HBX c2 c3 HO HB Hb HW
    go_wp2_with fail
    go_ret
    exact ⟨_, rfl, HO3.out, HB3.out⟩

theorem partB_le (p : Pt) (hp : PtOk p) (hf : longP p = false) : (partB p).length ≤ 1033 := by
  unfold partB
  cases ht : p.text
  · simp only [Bool.false_eq_true, if_false]
    rw [numB_length]; have := digL_len8 p.n hp.n; omega
  · have hsz : p.s.size ≤ 1024 := by unfold longP at hf; rw [ht] at hf; simpa using hf
    simp only [if_true]
    rw [List.length_append, numB_length, bl_length]; have := digL_len8 p.s.size (by omega); omega
theorem packL_le (l : List Pt) (hp : PsOk l) (hf : longL l = false) : (packL l).length ≤ 1033 * l.length := by
  induction l with
  | nil => simp [packL]
  | cons p l ih =>
    have hl1 : longP p = false ∧ longL l = false := by
      unfold longL at hf; rw [List.any_cons, Bool.or_eq_false_iff] at hf; exact hf
    have h1 := partB_le p (hp p (by simp)) hl1.1
    have h2 := ih (fun q hq => hp q (by simp [hq])) hl1.2
    have hc : packL (p :: l) = partB p ++ packL l := by unfold packL; rw [List.flatMap_cons]
    rw [hc, List.length_append, List.length_cons]; omega
theorem take_step (l : List Pt) (k : Nat) (h : k < l.length) : l.take (k + 1) = l.take k ++ [l.getD k p0] := by
  rw [List.take_succ_eq_append_getElem h]; simp [List.getD, h]
theorem PsOk.take {l : List Pt} (h : PsOk l) (k : Nat) : PsOk (l.take k) := fun p hp => h p (List.mem_of_mem_take hp)
theorem longL_at (l : List Pt) (k : Nat) (h : k < l.length) (h1 : longP (l.getD k p0) = true) : longL l = true := by
  have e : l.getD k p0 = l[k] := by simp [List.getD, h]
  unfold longL
  rw [List.any_eq_true]
  exact ⟨_, List.getElem_mem h, by rw [← e]; exact h1⟩
def packS (l : List Pt) : ByteArray := if longL l then ⟨#[]⟩ else strL (packL l)
def packE (l : List Pt) : Nat := if longL l then 2 else 0
def PackRel (w : World) (l : List Pt) (v i : Value) (wr : World) : Prop :=
  ∃ k : Nat, k ≤ l.length ∧ i = .int .i64 (k : Int) ∧ Own wr w.heap.size v (packL (l.take k)) ∧ longL (l.take k) = false ∧ Below w.heap.size w wr
theorem text_nil (w : World) : (convert 74 9 (.slice none 0 0)).run Tryd.prog w = .ok (.string ⟨#[]⟩) w := by
  simp [convert, Conv.bytesToString]
  rfl
set_option maxHeartbeats 2000000 in
theorem Pack_any (a : Option Addr) (c : Nat) (l : List Pt) (hl : l.length ≤ 1000) (hok : PsOk l) (w : World) (hp : PSl w a l) :
    Calls Tryd.prog 59 #[.slice a l.length c] w fun e w' => e = .returned (.tuple #[.string (packS l), .int .i64 (packE l : Int)]) ∧ Below w.heap.size w w' := by
  have HP := Lib.hid hp; have HOK := Lib.hid hok; have HL := Lib.hid hl
  clear hp hok hl
  go_enter Tryd.func59, Tryd.ntmps59
  go_wp2_with fail
  go_loopw [4, 9] (PackRel w l) (fun _ i _ => l.length - (intOf i).toNat)
  case atStart => exact ⟨0, Nat.zero_le _, rfl, by simpa [packL] using Own.nil w w.heap.size, rfl, Below.refl _ _⟩
  case round =>
    obtain ⟨k, hk, rfl, hO, hf, hB⟩ := hrel
    have hsz := hB.size
    by_cases hlt : k < l.length
    · have h1 : (k : Int) < (l.length : Int) := by omega
      have h1k : (k : Int) < 1000 := by have := HL.out; omega
      obtain ⟨b, off, rfl, hbl, hc⟩ := HP.out (by omega)
      have hpt := (hc k hlt).on (hB.mono (Nat.le_refl _))
      have hpo := HOK.out.at k hlt
      have hst := take_step l k hlt
      have hlong := longL_at l k hlt
      obtain ⟨p, ep⟩ : ∃ p, l.getD k p0 = p := ⟨_, rfl⟩
      rw [ep] at hpt hpo hst hlong
      obtain ⟨c0, c1, c2⟩ := hpt
      have HO := Lib.hid hO; have HB := Lib.hid hB; have HST := Lib.hid hst; have HPO := Lib.hid hpo
      clear hO hB hst hc ep hpo
      go_wp2_with fail
      refine (fits_any p HPO.out _).mono ?_
      rintro e w1 ⟨rfl, hb1⟩
      obtain ⟨⟨d0, d1, d2⟩, -, hlt1, hbw⟩ := box3 hb1
      have hO1 := (show Own wr w.heap.size u4 (packL (l.take k)) from HO.out).onB hbw
      have hB1 := HB.out.trans (hbw.mono hsz)
      have hs1 := Nat.le_trans hsz hbw.size
      have HO1 := Lib.hid hO1; have HB1 := Lib.hid hB1; have HS1 := Lib.hid hs1
      clear hb1 hbw hO1 hB1 HO HB c0 c1 c2 hs1 hlt1
      cases hL : longP p
      · have hle : (packL (l.take k)).length ≤ 9000000 := by
          have := packL_le (l.take k) (HOK.out.take k) hf
          rw [List.length_take] at this
          have := HL.out
          omega
        have hfl : longL (l.take (k + 1)) = false := by
          rw [HST.out, longL_append, hf]
          show longL [p] = false
          unfold longL
          simp [hL]
        have hpk : packL (l.take (k + 1)) = packL (l.take k) ++ partB p := by rw [HST.out, packL_append, packL_one]
        have HPK := Lib.hid hpk; have HLE := Lib.hid (And.intro hle (And.intro hL hfl))
        clear hpk hle hfl hf hlong hL
        go_wp2_with fail
        refine (withPart_any u4 _ w.heap.size p HPO.out HLE.out.2.1 HLE.out.1 w1 HO1.out HS1.out).mono ?_
        rintro e w2 ⟨v', rfl, hO2, hB2⟩
        rw [← HPK.out] at hO2
        have hB3 := HB1.out.trans hB2
        have HO2 := Lib.hid hO2; have HB3 := Lib.hid hB3
        clear hO2 hB2 hB3 HO1 HB1 d0 d1 d2 hsz
        go_wp2_with fail
        exact ⟨⟨k + 1, by omega, by simp, HO2.out, HLE.out.2.2, HB3.out⟩, by simp [intOf]; omega⟩
      · have hl := hlong hL
        have e1 : packS l = ⟨#[]⟩ := by unfold packS; rw [if_pos hl]
        have e2 : packE l = 2 := by unfold packE; rw [if_pos hl]
        have E := Lib.hid (And.intro e1 e2)
        clear e1 e2 hl hlong hL
        go_wp2_with fail
        go_ret2
        rw [E.out.1, E.out.2]
        exact ⟨rfl, HB1.out⟩
    · obtain rfl : k = l.length := by omega
      rw [List.take_of_length_le (Nat.le_refl _)] at hO hf
      have e1 : packS l = strL (packL l) := by unfold packS; rw [hf]; rfl
      have e2 : packE l = 0 := by unfold packE; rw [hf]; rfl
      have E := Lib.hid (And.intro e1 e2)
      clear e1 e2 hf hk hlt hsz
      have hn : ¬ (l.length : Int) < (l.length : Int) := by omega
      rcases hO with ⟨hx, ⟨rfl, h0⟩ | ⟨g, cap, cur, rfl, h5, h6, h7, h8, h9, h10⟩⟩
      · have e3 : packL l = [] := List.eq_nil_of_length_eq_zero h0
        have E3 := Lib.hid e3
        have htn := text_nil wr
        clear hx h0 e3
        have HB := Lib.hid hB
        clear hB
        go_wp2_with fail
        go_ret2
        rw [E.out.1, E.out.2, E3.out]
        exact ⟨rfl, HB.out⟩
      · have hO : Own wr w.heap.size (.slice (some ⟨g, 0, none⟩) (packL l).length cap) (packL l) := ⟨hx, Or.inr ⟨g, cap, cur, rfl, h5, h6, h7, h8, h9, h10⟩⟩
        have htx := hO.text rfl
        have HB := Lib.hid hB
        clear hB hO hx h5 h6 h7 h8 h9 h10
        go_wp2_with fail
        go_ret2
        rw [E.out.1, E.out.2]
        exact ⟨rfl, HB.out⟩

end Go.Proofs.YtdnjieffbgmagaaDoor

/- The reference: Number, One, Long, Pack, Kinds. -/
namespace Go.Proofs.YtdnjieffbgmagaaDoor
open Go.RowKit Go.Sort
set_option maxRecDepth 100000
theorem cat_str (a b : List UInt8) : strL a ++ strL b = strL (a ++ b) := strL_append a b
def RNumRel (w : World) (n : Nat) (v o : Value) (wr : World) : Prop :=
  ∃ (m : Nat) (ol : List UInt8), m ≤ n ∧ v = .int .u64 (m : Int) ∧ o = .string (strL ol) ∧ digL m ++ ol = digL n ∧ Below w.heap.size w wr
def natOf : Value → Nat | .int _ n => n.toNat | _ => 0
set_option maxHeartbeats 1000000 in
theorem rNumber_any (n : Nat) (hn : n < 18446744073709551616) (w : World) :
    Calls Tryd.prog 69 #[.int .u64 (n : Int)] w fun e w' => e = .returned (.string (strL (numB n))) ∧ Below w.heap.size w w' := by
  go_enter Tryd.func69, Tryd.ntmps69
  go_wp2_with fail
  go_loopw [0, 3] (RNumRel w n) (fun v _ _ => natOf v)
  case atStart => exact ⟨n, [], Nat.le_refl _, rfl, rfl, by simp, Below.refl _ _⟩
  case round =>
    obtain ⟨m, ol, hm, rfl, rfl, hd, hB⟩ := hrel
    have hsz := hB.size
    by_cases h0 : m = 0
    · subst h0
      rw [digL_zero, List.nil_append] at hd
      subst hd
      have hl := digL_len8 n hn
      have hz : ¬ (0 : Int) < ((0 : Nat) : Int) := by omega
      have h1 := one_text (UInt8.ofNat (digL n).length) ((digL n).length : Int) (by rw [UInt8.toNat_ofNat']; omega)
      have hs : ((strL (digL n)).size : Int) = ((digL n).length : Int) := by rw [strL_size]
      have hl2 : ((digL n).length : Int) ≤ 8 := by omega
      have hlim : (9223372036854775807 < (strL [UInt8.ofNat (digL n).length]).size + (strL (digL n)).size) = False := by rw [strL_size, strL_size]; simp; omega
      have HB := Lib.hid hB
      clear hB hm
      go_wp2_with fail
      go_ret
      exact ⟨by rw [cat_str]; rfl, HB.out.alloc hsz _⟩
    · have h1 : (0 : Int) < (m : Int) := by omega
      have h2 := one_text (UInt8.ofNat (m % 256)) ((m : Int) % 256) (by rw [ofNat_mod]; omega)
      rw [digL_pos m h0, List.append_assoc] at hd
      have hol : ol.length ≤ 8 := by
        have := congrArg List.length hd
        have h8 := digL_len8 n hn
        simp at this
        omega
      have hlim : (9223372036854775807 < (strL [UInt8.ofNat (m % 256)]).size + (strL ol).size) = False := by rw [strL_size, strL_size]; simp; omega
      have HB := Lib.hid hB; have HD := Lib.hid hd
      clear hB hd hol
      go_wp2_with fail
      exact ⟨⟨m / 256, [UInt8.ofNat (m % 256)] ++ ol, by omega, by simp, by rw [cat_str], HD.out, HB.out.alloc hsz _⟩, by simp [natOf]; omega⟩

set_option maxHeartbeats 1000000 in
theorem rOne_any (p : Pt) (hp : PtOk p) (hf : longP p = false) (w : World) :
    Calls Tryd.prog 78 #[pv p] w fun e w' => e = .returned (.string (strL (partB p))) ∧ Below w.heap.size w w' := by
  obtain ⟨t, n, s⟩ := p
  have hn : n < 18446744073709551616 := hp.n
  have hs : s.size ≤ maxLen := hp.s
  have hb0 : Below w.heap.size w (w.alloc (.cells #[.bool t, .int .u64 (n : Int), .string s] 77)) := (Below.refl _ _).alloc (Nat.le_refl _) _
  have hpt := PtAt.fresh w ⟨t, n, s⟩ 77
  unfold pv
  simp only
  have HB0 := Lib.hid hb0; have HPT := Lib.hid hpt
  clear hp hb0 hpt
  cases t
  · have HN := Lib.hid hn
    have hP : partB ⟨false, n, s⟩ = numB n := rfl
    rw [hP]
    clear hP hn hs
    go_enter Tryd.func78, Tryd.ntmps78
    go_wp2_with fail
    refine (rNumber_any n HN.out _).mono ?_
    rintro e w1 ⟨rfl, hb⟩
    have hB := HB0.out.trans (hb.mono HB0.out.size)
    have HB := Lib.hid hB
    clear hb hB HB0 HPT
    go_wp2_with fail
    go_ret
    exact ⟨rfl, HB.out⟩
  · have hP : partB ⟨true, n, s⟩ = numB s.size ++ bl s := rfl
    rw [hP, ← strL_append, strL_bl]
    have hsz : s.size ≤ 1024 := by unfold longP at hf; simpa using hf
    have hw : IntKind.u64.wrap (s.size : Int) = (s.size : Int) := by rw [IntKind.wrap_u64]; omega
    have hN := fun W => rNumber_any s.size (by omega) W
    have hl9 : (numB s.size).length ≤ 9 := by rw [numB_length]; have := digL_len8 s.size (by omega); omega
    obtain ⟨y, ey⟩ : ∃ y, strL (numB s.size) = y := ⟨_, rfl⟩
    have hys : y.size ≤ 9 := by rw [← ey, strL_size]; exact hl9
    rw [ey] at hN
    rw [ey]
    have hcat : ∀ W : World, (Op.stringOp .add y s).run Tryd.prog W = .ok (.string (y ++ s)) W := fun W => by rw [run_string_add_sum W _ _ (by omega)]
    have hlim : (9223372036854775807 < y.size + s.size) = False := by simp; omega
    have HN := Lib.hid hN
    clear hP hn hs hN hl9 hys ey hf
    go_enter Tryd.func78, Tryd.ntmps78
    go_upto_region 2 with fail
    generalize World.alloc w _ = V at HB0 HPT ⊢
    have q2 := cell_regrown HPT.out.c2
    simp only [Nat.zero_add] at q2
    refine wp_region_quiet_below (by kernel_rfl) (by kernel_rfl) ?_
    iterate 9 (quiet_step (first | (go_at_call 69; exact Calls.regrown_of (HN.out _))))
    refine wpQuiet_nil ?_
    intro _ hw'
    obtain ⟨⟨dq, osq⟩, hw''⟩ := hw'
    subst hw''
    have hB := HB0.out.trans ((below_regrown V dq osq).mono HB0.out.size)
    have HB := Lib.hid hB
    clear q2 hcat hlim HB0 HPT HN hB
    generalize grow (redrawn V dq) osq = V1 at HB ⊢
    go_wp2_with fail
    go_ret
    exact ⟨rfl, HB.out⟩

end Go.Proofs.YtdnjieffbgmagaaDoor

/- Slices of parts of a call's own: appends, and that they can be read. -/
namespace Go.Proofs.YtdnjieffbgmagaaDoor
open Go.RowKit Go.Sort
set_option maxRecDepth 100000
def pcs (p : Pt) : List Value := [.bool p.text, .int .u64 (p.n : Int), .string p.s]
def Pc (l : List Pt) : List Value := l.flatMap pcs
theorem Pc_cons (p : Pt) (l : List Pt) : Pc (p :: l) = pcs p ++ Pc l := by unfold Pc; rw [List.flatMap_cons]
theorem Pc_append (a b : List Pt) : Pc (a ++ b) = Pc a ++ Pc b := List.flatMap_append
theorem Pc_length (l : List Pt) : (Pc l).length = l.length * 3 := by
  induction l with
  | nil => rfl
  | cons p l ih => rw [Pc_cons, List.length_append, ih, List.length_cons]; simp [pcs]; omega
theorem Pc_get (l : List Pt) (i : Nat) (h : i < l.length) : (Pc l)[i * 3]? = some (.bool (l.getD i p0).text) ∧ (Pc l)[i * 3 + 1]? = some (.int .u64 ((l.getD i p0).n : Int)) ∧ (Pc l)[i * 3 + 2]? = some (.string (l.getD i p0).s) := by
  induction l generalizing i with
  | nil => simp at h
  | cons p l ih =>
    rw [Pc_cons]
    rcases i with _ | i
    · simp [pcs]
    · have e : (i + 1) * 3 = (pcs p).length + i * 3 := by simp [pcs]; omega
      have := ih i (by simpa using h)
      rw [e]
      refine ⟨?_, ?_, ?_⟩
      · rw [List.getElem?_append_right (by omega), Nat.add_sub_cancel_left]; simpa using this.1
      · rw [show (pcs p).length + i * 3 + 1 = (pcs p).length + (i * 3 + 1) by omega, List.getElem?_append_right (by omega), Nat.add_sub_cancel_left]; simpa using this.2.1
      · rw [show (pcs p).length + i * 3 + 2 = (pcs p).length + (i * 3 + 2) by omega, List.getElem?_append_right (by omega), Nat.add_sub_cancel_left]; simpa using this.2.2
theorem Pc_one (l : List Pt) : ∀ u ∈ Pc l, u.oneCell' = true := by
  intro u hu
  unfold Pc at hu
  rw [List.mem_flatMap] at hu
  obtain ⟨p, -, hp⟩ := hu
  simp only [pcs, List.mem_cons, List.mem_nil_iff, or_false] at hp
  rcases hp with rfl | rfl | rfl <;> rfl
theorem Pc_at {w : World} {b off : Nat} {l : List Pt} (h : ∀ i, i < l.length → PtAt w b (off + i * 3) (l.getD i p0)) (j : Nat) (u : Value) (hu : (Pc l)[j]? = some u) : w.cell? ⟨b, off + j, none⟩ = some u := by
  have hj : j < l.length * 3 := by
    rw [← Pc_length]
    exact (List.getElem?_eq_some_iff.1 hu).1
  have hi : j / 3 < l.length := by omega
  obtain ⟨g0, g1, g2⟩ := Pc_get l (j / 3) hi
  have hp := h (j / 3) hi
  have h3 : j % 3 = 0 ∨ j % 3 = 1 ∨ j % 3 = 2 := by omega
  rcases h3 with h3 | h3 | h3
  · have e : j = j / 3 * 3 := by omega
    rw [e] at hu
    rw [g0] at hu
    cases hu
    have := hp.c0
    rw [← e] at this
    exact this
  · have e : j = j / 3 * 3 + 1 := by omega
    rw [e, g1] at hu
    cases hu
    have := hp.c1
    rw [Nat.add_assoc, ← e] at this
    exact this
  · have e : j = j / 3 * 3 + 2 := by omega
    rw [e, g2] at hu
    cases hu
    have := hp.c2
    rw [Nat.add_assoc, ← e] at this
    exact this
theorem infoP : (Tryd.prog.info? 77).map (fun i => (i.zero, i.size, i.bytes)) = some (some (.agg #[.bool false, .int .u64 0, .string ⟨#[]⟩]), 3, 32) := by kernel_rfl
/-- a slice of parts of the call's own (blocks from base on) that reads as l -/
def OwnP (w : World) (base : Nat) (v : Value) (l : List Pt) : Prop := w.ownsRow base 77 3 v l.length (Pc l)
theorem OwnP.nil (w : World) (base : Nat) : OwnP w base (.slice none 0 0) [] := ⟨rfl, .inl ⟨rfl, rfl⟩⟩
theorem OwnP.alloc {w : World} {base : Nat} {v : Value} {l : List Pt} (h : OwnP w base v l) (o : Obj) : OwnP (w.alloc o) base v l := World.ownsRow.alloc h o
theorem OwnP.on {w w' : World} {base : Nat} {v : Value} {l : List Pt} (h : OwnP w base v l) (hb : Below w.heap.size w w') : OwnP w' base v l := by
  refine ⟨h.1, ?_⟩
  rcases h.2 with h2 | ⟨g, cap, cur, e, hg, hc, h3⟩
  · exact Or.inl h2
  · exact Or.inr ⟨g, cap, cur, e, hg, by rw [hb.block g (Array.getElem?_eq_some_iff.1 hc).1]; exact hc, h3⟩
theorem OwnP.empty (w : World) (base : Nat) (hb : base ≤ w.heap.size) : OwnP (w.alloc (.cells #[] 77)) base (.slice (some ⟨w.heap.size, 0, none⟩) 0 0) [] :=
  ⟨rfl, .inr ⟨w.heap.size, 0, #[], rfl, hb, heap_alloc_new w _, Nat.le_refl _, by unfold maxLen; omega, rfl, rfl⟩⟩
/-- it is a slice that can be read -/
theorem OwnP.psl {w : World} {base : Nat} {v : Value} {l : List Pt} (h : OwnP w base v l) : ∃ (a : Option Addr) (c : Nat), v = .slice a l.length c ∧ l.length ≤ c ∧ PSl w a l := by
  rcases h.2 with ⟨rfl, h0⟩ | ⟨g, cap, cur, rfl, hg, hc, hcap, -⟩
  · refine ⟨none, 0, by rw [h0], by omega, fun hp => ?_⟩
    omega
  · refine ⟨some ⟨g, 0, none⟩, cap, rfl, hcap, fun _ => ⟨g, 0, rfl, (Array.getElem?_eq_some_iff.1 hc).1, fun i hi => ?_⟩⟩
    obtain ⟨g0, g1, g2⟩ := Pc_get l i hi
    have hcs := World.ownsRow.cells h (g := g) rfl
    have c0 := hcs _ _ g0
    have c1 := hcs _ _ g1
    have c2 := hcs _ _ g2
    rw [Addr.add_mid] at c0 c1 c2
    exact ⟨c0, by rw [Nat.add_assoc]; exact c1, by rw [Nat.add_assoc]; exact c2⟩
theorem OwnP.below {w w0 w' : World} {base : Nat} {v : Value} {l : List Pt} (h : OwnP w base v l) (hB : Below base w0 w) (hb : base ≤ w.heap.size) (hg : w.grownBy w' v.ownBlock) : Below base w0 w' :=
  hB.grown hg hb fun k hk => (World.ownsRow.lt h k hk).1
/-- what is no row of parts stands as it was -/
theorem OwnP.keeps {w w' : World} {base : Nat} {v : Value} {l : List Pt} (h : OwnP w base v l) (hg : w.grownBy w' v.ownBlock) (k : Nat) (cs : Array Value) (t : TypeId) (fr : Nat × Nat) (h1 : w.heap[k]? = some (.cells cs t fr)) (h2 : t ≠ 77) : w'.heap[k]? = some (.cells cs t fr) := by
  rw [hg.block k (Array.getElem?_eq_some_iff.1 h1).1 ?_]
  · exact h1
  · intro e
    rcases h.2 with ⟨rfl, -⟩ | ⟨g, cap, cur, rfl, -, hc, -⟩
    · cases e
    · cases e
      rw [h1] at hc
      cases hc
      exact h2 rfl
/-- append(own, parts...), whether those are none, or nil, or some -/
theorem run_append_ps (w : World) (ty : TypeId) (base : Nat) (v : Value) (l : List Pt) (b : Option Addr) (c : Nat) (m : List Pt) (hown : OwnP w base v l) (hq : PSl w b m) (hl : l.length + m.length ≤ 100000) (hbase : base ≤ w.heap.size) :
    ∃ v' w', (Builtin.append_ #[102, 102] ty #[v, .slice b m.length c]).run Tryd.prog w = .ok v' w' ∧ OwnP w' base v' (l ++ m) ∧ w.grownBy w' v.ownBlock := by
  obtain ⟨i0, hi, hz0, hz1, hz2⟩ := info_parts infoP
  have hall : ∀ (ad : Addr) (news : List Value), b = some ad → news = Pc m → (∀ j u, news[j]? = some u → w.cell? (ad.add j) = some u) →
      ∃ v' w', (Builtin.append_ #[102, 102] ty #[v, .slice b m.length c]).run Tryd.prog w = .ok v' w' ∧ OwnP w' base v' (l ++ m) ∧ w.grownBy w' v.ownBlock := by
    rintro ad news rfl rfl hnews
    obtain ⟨v', w', hr, h2, h3, -⟩ := run_append_own (P := Tryd.prog) w base 102 ty 77 i0 (.agg #[.bool false, .int .u64 0, .string ⟨#[]⟩]) 3 32 Tryd.underlying102 hi hz0 hz1 hz2 rfl (by decide) v l.length (Pc l) hown ad m.length c (Pc m) (Pc_length m) hnews (Pc_one m) (by unfold maxLen; omega) (by omega) hbase
    refine ⟨v', w', hr, ?_, h3⟩
    unfold OwnP
    rw [List.length_append, Pc_append]
    exact h2
  by_cases h0 : 0 < m.length
  · obtain ⟨g, off, rfl, hlt, hc⟩ := hq h0
    exact hall _ _ rfl rfl fun j u hu => by rw [Addr.add_mid]; exact Pc_at hc j u hu
  · obtain rfl : m = [] := List.eq_nil_of_length_eq_zero (by omega)
    cases b with
    | some ad => exact hall ad [] rfl rfl (fun j u hu => by simp at hu)
    | none =>
      refine ⟨v, w, ?_, by rw [List.append_nil]; exact hown, ⟨rfl, rfl, rfl, Nat.le_refl _, fun _ _ _ => rfl⟩⟩
      rcases hown.2 with ⟨rfl, h0⟩ | ⟨g, cap, cur, rfl, hg, hc, hcap, -⟩
      · simp [Builtin.append_, run_underlying Tryd.underlying102, sizeOf, typeInfo, hi, Builtin.lenOf, Builtin.firstCells]
      · simp [Builtin.append_, run_underlying Tryd.underlying102, sizeOf, typeInfo, hi, Builtin.lenOf, Builtin.firstCells, loadCells, hcap, storeCells]
theorem append_ps {ops : Array Oper} {rest : List Oper} {o : Oper} {a : Act} {Q : Exit → Act → World → Prop} {w : World} (hgd : o.guard = none) (s x : Operand)
    (ho : o.op = .call { callee := .builtin .append, args := #[s, x], argTypes := #[102, 102] })
    (base : Nat) (v : Value) (l : List Pt) (b : Option Addr) (n c : Nat) (m : List Pt) (hn : n = m.length) (hs : a.eval s = v) (hx : a.eval x = .slice b n c) (hown : OwnP w base v l) (hq : PSl w b m) (hl : l.length + m.length ≤ 100000) (hbase : base ≤ w.heap.size)
    (h : ∀ v' w', OwnP w' base v' (l ++ m) → w.grownBy w' v.ownBlock → wpList Tryd.prog ops Q rest (a.put o.dst v') w') :
    wpList Tryd.prog ops Q (o :: rest) a w := by
  subst hn
  obtain ⟨v', w', hr, h2, h3⟩ := run_append_ps w o.type base v l b c m hown hq hl hbase
  refine wpList_plain hgd fun K hK => ?_
  unfold Oper.wp execOp
  simp only [ho, resolve, invoke, builtin, Sem.run_bind, Sem.run_pure, Result.andThen_ok, List.map_toArray, List.map_cons, List.map_nil, hs, hx, hr]
  exact hK _ _ (h v' w' h2 h3)
/-- one part that was laid alone -/
theorem PSl.one {w : World} {B : Nat} {p : Pt} (h : PtAt w B 0 p) : PSl w (some ⟨B, 0, none⟩) [p] := fun _ =>
  ⟨B, 0, rfl, World.block_lt_of_cell? w _ h.c0, fun i hi => by
    obtain rfl : i = 0 := by simpa using hi
    exact h⟩
end Go.Proofs.YtdnjieffbgmagaaDoor

/- A row of parts that came in: it can be read, and its numbers and texts are Go's. -/
namespace Go.Proofs.YtdnjieffbgmagaaDoor
open Go.RowKit Go.ChangeShapes Go.WideShapes Go.Deep
set_option maxRecDepth 100000
theorem cellsStr : Tryd.prog.cellsOf 9 = 1 := by kernel_rfl
end Go.Proofs.YtdnjieffbgmagaaDoor

/- Frames in plain mathematics: their bytes, the frame that bytes tell, and that what is put is got as it was. -/
namespace Go.Proofs.YtdnjieffbgmagaaDoor
set_option maxRecDepth 100000
/-- a frame -/
structure Fr where
  kind : Int
  frm : Nat
  dst : Nat
  id : Nat
  ident : ByteArray
  base : ByteArray
  signed : Nat
  once : Nat
  ratchet : ByteArray
  prev : Nat
  num : Nat
  body : ByteArray
  keys : List ByteArray
deriving DecidableEq
def np (n : Nat) : Pt := ⟨false, n, ⟨#[]⟩⟩
def tp (s : ByteArray) : Pt := ⟨true, 0, s⟩
def rightF (f : Fr) : Bool :=
  if f.kind = 0 then decide (f.ident.size = 32) && decide (f.base.size = 32) && decide (f.ratchet.size = 32) && decide (f.body.size ≤ 1024) && decide (f.keys.length = 0)
  else if f.ident.size = 0 ∧ f.base.size = 0 ∧ f.signed = 0 ∧ f.once = 0 then
    (if f.kind = 1 then decide (f.ratchet.size = 32) && decide (f.body.size ≤ 1024) && decide (f.keys.length = 0)
     else decide (f.kind = 2) && decide (f.ratchet.size = 0) && decide (f.body.size = 0) && decide (f.prev = 0) && decide (f.num = 0) && (f.keys.all fun k => decide (k.size = 32)) && decide (f.keys.length ≤ 32))
  else false
/-- its numbers are Go's -/
structure FrOk (f : Fr) : Prop where
  frm : f.frm < 18446744073709551616
  dst : f.dst < 18446744073709551616
  id : f.id < 18446744073709551616
  signed : f.signed < 18446744073709551616
  once : f.once < 18446744073709551616
  prev : f.prev < 18446744073709551616
  num : f.num < 18446744073709551616
def headP (f : Fr) : List Pt :=
  [np f.kind.toNat, np f.frm, np f.dst, np f.id] ++ (if f.kind = 0 then [tp f.ident, tp f.base, np f.signed, np f.once] else []) ++ (if f.kind < 2 then [tp f.ratchet, np f.prev, np f.num] else [])
def allP (f : Fr) : List Pt := headP f ++ (if f.kind < 2 then [tp f.body] else np f.keys.length :: f.keys.map tp)
def headF (f : Fr) : List UInt8 := packL (headP f)
end Go.Proofs.YtdnjieffbgmagaaDoor
