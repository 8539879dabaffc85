/- The contracts of wire's withPart, Pack, Text. -/
import Derived.Test.YtimijdmigdlhfaaPd
import Derived.Lib.AppendStr
namespace Go.Proofs.Ytimijdmigdlhfaa
open Go.RowKit
set_option maxRecDepth 100000
/-- the same as one step of a region that draws its order -/
theorem step_append_text {ops : Array Oper} {o : Oper} {a : Act} {w : World} {K : Act → World → Prop} {Q : Exit → Act → World → Prop} {E : Prop} (hgd : o.guard = none) (s x : Operand)
    (ho : o.op = .call { callee := .builtin .append, args := #[s, x], argTypes := #[53, 9] })
    (base : Nat) (v : Value) (l : List UInt8) (t : ByteArray) (hs : a.eval s = v) (hown : Own w base v l) (hx : a.eval x = .string t)
    (hl : l.length ≤ 100000000) (ht : t.size ≤ 100000) (hbase : base ≤ w.heap.size)
    (h : ∀ v' w', Own w' base v' (l ++ bl t) → w.grownBy w' v.ownBlock → K (a.put o.dst v') w') :
    if Region.wanted o (yielded ops a.tmps) = true then Oper.wp Try.prog o a w K Q else E := by
  have hw : Region.wanted o (yielded ops a.tmps) = true := by simp [Region.wanted, hgd]
  rw [if_pos hw]
  obtain ⟨i0, hi, hz0, hz1, hz2⟩ := info_parts infoB
  obtain ⟨v', w', hr, h2, h3, -⟩ := Lib.run_append_own_string (P := Try.prog) w base 53 9 o.type 5 i0 Try.underlying53 Try.underlying9 hi hz0 hz1 hz2 v l.length (Lib.byteCells l) hown t (by unfold maxLen; omega) (by omega) hbase
  have hK := h v' w' (by unfold Own; rw [List.length_append, bl_length, Lib.byteCells_append]; exact h2) h3
  unfold Oper.wp
  simp [execOp, ho, resolve, invoke, builtin, hs, hx, hr, Result.andThen]
  exact hK
theorem Own.grown {w w0 w' : World} {base : Nat} {v : Value} {l : List UInt8} (h : Own w base v l) (hB : Below base w0 w) (hb : base ≤ w.heap.size) (hg : w.grownBy w' v.ownBlock) : Below base w0 w' :=
  hB.grown hg hb fun k hk => (World.ownsRow.lt h k hk).1

set_option maxHeartbeats 2000000 in
theorem withPart_any (v : Value) (l : List UInt8) (base : Nat) (p : Pt) (hp : PtOk p) (hf : longP p = false) (hl : l.length ≤ 9000000) (w : World) (hown : Own w base v l) (hbase : base ≤ w.heap.size) :
    Calls Try.prog 44 #[v, pv p] w fun e w' => ∃ v', e = .returned v' ∧ Own w' base v' (l ++ partB p) ∧ Below base w w' := by
  obtain ⟨t, n, s⟩ := p
  have hn : n < 18446744073709551616 := hp.n
  unfold pv
  simp only
  have hW := fun (n : Nat) (hn : n < 18446744073709551616) (W : World) (h1 : Own W base v l) (h2 : base ≤ W.heap.size) => withNumber_any v l base n hn (by omega) W h1 h2
  have HW := Lib.hid hW
  have hO1 := hown.alloc (.cells #[.bool t, .int .u64 (n : Int), .string s] 65)
  have hB1 : Below base w (w.alloc (.cells #[.bool t, .int .u64 (n : Int), .string s] 65)) := (Below.refl _ _).alloc hbase _
  have hb1 : base ≤ (w.alloc (.cells #[.bool t, .int .u64 (n : Int), .string s] 65)).heap.size := by simp; omega
  have HO := Lib.hid hO1; have HB := Lib.hid hB1; have Hb := Lib.hid hb1
  cases t
  · have hP : partB ⟨false, n, s⟩ = numB n := rfl
    rw [hP]
    have HN := Lib.hid hn
    clear hp hf hW hown hbase hO1 hB1 hb1 hP hn hl
    go_enter Try.func44, Try.ntmps44
    go_wp2_with fail
    refine (HW.out n HN.out _ HO.out Hb.out).mono ?_
    rintro e w1 ⟨v', rfl, hO2, hB2, -⟩
    have hB := HB.out.trans hB2
    have HO2 := Lib.hid hO2; have HB2 := Lib.hid hB
    clear hO2 hB2 hB HO HB Hb HW HN
    go_wp2_with fail
    go_ret
    exact ⟨_, rfl, HO2.out, HB2.out⟩
  · have hsz : s.size ≤ 1024 := by unfold longP at hf; simpa using hf
    have hP : partB ⟨true, n, s⟩ = numB s.size ++ bl s := rfl
    rw [hP, ← List.append_assoc]
    have hlen : (l ++ numB s.size).length ≤ 100000000 := by
      rw [List.length_append, numB_length]; have := digL_len8 s.size (by omega); omega
    have hs64 : IntKind.u64.wrap (s.size : Int) = (s.size : Int) := by rw [IntKind.wrap_u64]; omega
    have HSZ := Lib.hid (And.intro hsz hlen)
    clear hp hf hW hown hbase hO1 hB1 hb1 hP hn hl hsz hlen
    go_enter Try.func44, Try.ntmps44
    go_wp2_with fail
    have hbox : (w.alloc (.cells #[.bool true, .int .u64 (n : Int), .string s] 65)).heap[w.heap.size]? = some (.cells #[.bool true, .int .u64 (n : Int), .string s] 65) := heap_alloc_new _ _
    have HBX := Lib.hid hbox
    clear hbox
    go_region_held3 (fun w' : World => w'.cell? ⟨w.heap.size, 2, none⟩ = some (.string s))
      (first | with_reducible assumption | go_keep)
      (first
      | (go_at_call 49; refine (HW.out s.size (by have := HSZ.out.1; omega) (World.drew _) (Own.drew HO.out) Hb.out).mono ?_; rintro e w1 ⟨v', rfl, hO2, hB2, hK2⟩; have hB := HB.out.drew.trans hB2; have hb := Nat.le_trans Hb.out hB2.size; have hx2 := hK2 w.heap.size _ _ _ HBX.out (by decide); have c2 : w1.cell? ⟨w.heap.size, 2, none⟩ = some (.string s) := (by rw [cell_of_row _ _ _ _ _ _ hx2]; rfl); have HX2 := Lib.hid hx2; have HO2 := Lib.hid hO2; have HB2 := Lib.hid hB; have Hb2 := Lib.hid hb; clear hO2 hB2 hB hb hK2 hx2)
      | (refine step_append_text rfl _ _ rfl base _ _ s rfl HO2.out rfl HSZ.out.2 (by have := HSZ.out.1; omega) Hb2.out ?_; intro v2 w2 hO3 hg; have hB3 := HO2.out.grown HB2.out Hb2.out hg; have c3 : w2.cell? ⟨w.heap.size, 2, none⟩ = some (.string s) := (by rw [cell_of_row _ _ _ _ _ _ (HO2.out.keeps hg _ _ _ _ HX2.out (by decide))]; rfl); have HO3 := Lib.hid hO3; have HB3 := Lib.hid hB3; clear hO3 hB3 hg))
    clear HO2 HB2 Hb2 HX2 HBX c2 c3 HO HB Hb HW
    go_wp2_with fail
    go_ret
    exact ⟨_, rfl, HO3.out, HB3.out⟩

theorem partB_le (p : Pt) (hp : PtOk p) (hf : longP p = false) : (partB p).length ≤ 1033 := by
  unfold partB
  cases ht : p.text
  · simp only [Bool.false_eq_true, if_false]
    rw [numB_length]; have := digL_len8 p.n hp.n; omega
  · have hsz : p.s.size ≤ 1024 := by unfold longP at hf; rw [ht] at hf; simpa using hf
    simp only [if_true]
    rw [List.length_append, numB_length, bl_length]; have := digL_len8 p.s.size (by omega); omega
theorem packL_le (l : List Pt) (hp : PsOk l) (hf : longL l = false) : (packL l).length ≤ 1033 * l.length := by
  induction l with
  | nil => simp [packL]
  | cons p l ih =>
    have hl1 : longP p = false ∧ longL l = false := by
      unfold longL at hf; rw [List.any_cons, Bool.or_eq_false_iff] at hf; exact hf
    have h1 := partB_le p (hp p (by simp)) hl1.1
    have h2 := ih (fun q hq => hp q (by simp [hq])) hl1.2
    have hc : packL (p :: l) = partB p ++ packL l := by unfold packL; rw [List.flatMap_cons]
    rw [hc, List.length_append, List.length_cons]; omega
theorem take_step (l : List Pt) (k : Nat) (h : k < l.length) : l.take (k + 1) = l.take k ++ [l.getD k p0] := by
  rw [List.take_succ_eq_append_getElem h]; simp [List.getD, h]
theorem PsOk.take {l : List Pt} (h : PsOk l) (k : Nat) : PsOk (l.take k) := fun p hp => h p (List.mem_of_mem_take hp)
theorem longL_at (l : List Pt) (k : Nat) (h : k < l.length) (h1 : longP (l.getD k p0) = true) : longL l = true := by
  have e : l.getD k p0 = l[k] := by simp [List.getD, h]
  unfold longL
  rw [List.any_eq_true]
  exact ⟨_, List.getElem_mem h, by rw [← e]; exact h1⟩
def packS (l : List Pt) : ByteArray := if longL l then ⟨#[]⟩ else strL (packL l)
def packE (l : List Pt) : Nat := if longL l then 2 else 0
def PackRel (w : World) (l : List Pt) (v i : Value) (wr : World) : Prop :=
  ∃ k : Nat, k ≤ l.length ∧ i = .int .i64 (k : Int) ∧ Own wr w.heap.size v (packL (l.take k)) ∧ longL (l.take k) = false ∧ Below w.heap.size w wr
theorem text_nil (w : World) : (convert 53 9 (.slice none 0 0)).run Try.prog w = .ok (.string ⟨#[]⟩) w := by
  simp [convert, Conv.bytesToString]
  rfl
set_option maxHeartbeats 2000000 in
theorem Pack_any (a : Option Addr) (c : Nat) (l : List Pt) (hl : l.length ≤ 1000) (hok : PsOk l) (w : World) (hp : PSl w a l) :
    Calls Try.prog 36 #[.slice a l.length c] w fun e w' => e = .returned (.tuple #[.string (packS l), .int .i64 (packE l : Int)]) ∧ Below w.heap.size w w' := by
  have HP := Lib.hid hp; have HOK := Lib.hid hok; have HL := Lib.hid hl
  clear hp hok hl
  go_enter Try.func36, Try.ntmps36
  go_wp2_with fail
  go_loopw [4, 9] (PackRel w l) (fun _ i _ => l.length - (intOf i).toNat)
  case atStart => exact ⟨0, Nat.zero_le _, rfl, by simpa [packL] using Own.nil w w.heap.size, rfl, Below.refl _ _⟩
  case round =>
    obtain ⟨k, hk, rfl, hO, hf, hB⟩ := hrel
    have hsz := hB.size
    by_cases hlt : k < l.length
    · have h1 : (k : Int) < (l.length : Int) := by omega
      have h1k : (k : Int) < 1000 := by have := HL.out; omega
      obtain ⟨b, off, rfl, hbl, hc⟩ := HP.out (by omega)
      have hpt := (hc k hlt).on (hB.mono (Nat.le_refl _))
      have hpo := HOK.out.at k hlt
      have hst := take_step l k hlt
      have hlong := longL_at l k hlt
      obtain ⟨p, ep⟩ : ∃ p, l.getD k p0 = p := ⟨_, rfl⟩
      rw [ep] at hpt hpo hst hlong
      obtain ⟨c0, c1, c2⟩ := hpt
      have HO := Lib.hid hO; have HB := Lib.hid hB; have HST := Lib.hid hst; have HPO := Lib.hid hpo
      clear hO hB hst hc ep hpo
      go_wp2_with fail
      refine (fits_any p HPO.out _).mono ?_
      rintro e w1 ⟨rfl, hb1⟩
      obtain ⟨⟨d0, d1, d2⟩, -, hlt1, hbw⟩ := box3 hb1
      have hO1 := (show Own wr w.heap.size u4 (packL (l.take k)) from HO.out).onB hbw
      have hB1 := HB.out.trans (hbw.mono hsz)
      have hs1 := Nat.le_trans hsz hbw.size
      have HO1 := Lib.hid hO1; have HB1 := Lib.hid hB1; have HS1 := Lib.hid hs1
      clear hb1 hbw hO1 hB1 HO HB c0 c1 c2 hs1 hlt1
      cases hL : longP p
      · have hle : (packL (l.take k)).length ≤ 9000000 := by
          have := packL_le (l.take k) (HOK.out.take k) hf
          rw [List.length_take] at this
          have := HL.out
          omega
        have hfl : longL (l.take (k + 1)) = false := by
          rw [HST.out, longL_append, hf]
          show longL [p] = false
          unfold longL
          simp [hL]
        have hpk : packL (l.take (k + 1)) = packL (l.take k) ++ partB p := by rw [HST.out, packL_append, packL_one]
        have HPK := Lib.hid hpk; have HLE := Lib.hid (And.intro hle (And.intro hL hfl))
        clear hpk hle hfl hf hlong hL
        go_wp2_with fail
        refine (withPart_any u4 _ w.heap.size p HPO.out HLE.out.2.1 HLE.out.1 w1 HO1.out HS1.out).mono ?_
        rintro e w2 ⟨v', rfl, hO2, hB2⟩
        rw [← HPK.out] at hO2
        have hB3 := HB1.out.trans hB2
        have HO2 := Lib.hid hO2; have HB3 := Lib.hid hB3
        clear hO2 hB2 hB3 HO1 HB1 d0 d1 d2 hsz
        go_wp2_with fail
        exact ⟨⟨k + 1, by omega, by simp, HO2.out, HLE.out.2.2, HB3.out⟩, by simp [intOf]; omega⟩
      · have hl := hlong hL
        have e1 : packS l = ⟨#[]⟩ := by unfold packS; rw [if_pos hl]
        have e2 : packE l = 2 := by unfold packE; rw [if_pos hl]
        have E := Lib.hid (And.intro e1 e2)
        clear e1 e2 hl hlong hL
        go_wp2_with fail
        go_ret2
        rw [E.out.1, E.out.2]
        exact ⟨rfl, HB1.out⟩
    · obtain rfl : k = l.length := by omega
      rw [List.take_of_length_le (Nat.le_refl _)] at hO hf
      have e1 : packS l = strL (packL l) := by unfold packS; rw [hf]; rfl
      have e2 : packE l = 0 := by unfold packE; rw [hf]; rfl
      have E := Lib.hid (And.intro e1 e2)
      clear e1 e2 hf hk hlt hsz
      have hn : ¬ (l.length : Int) < (l.length : Int) := by omega
      rcases hO with ⟨hx, ⟨rfl, h0⟩ | ⟨g, cap, cur, rfl, h5, h6, h7, h8, h9, h10⟩⟩
      · have e3 : packL l = [] := List.eq_nil_of_length_eq_zero h0
        have E3 := Lib.hid e3
        have htn := text_nil wr
        clear hx h0 e3
        have HB := Lib.hid hB
        clear hB
        go_wp2_with fail
        go_ret2
        rw [E.out.1, E.out.2, E3.out]
        exact ⟨rfl, HB.out⟩
      · have hO : Own wr w.heap.size (.slice (some ⟨g, 0, none⟩) (packL l).length cap) (packL l) := ⟨hx, Or.inr ⟨g, cap, cur, rfl, h5, h6, h7, h8, h9, h10⟩⟩
        have htx := hO.text rfl
        have HB := Lib.hid hB
        clear hB hO hx h5 h6 h7 h8 h9 h10
        go_wp2_with fail
        go_ret2
        rw [E.out.1, E.out.2]
        exact ⟨rfl, HB.out⟩

set_option maxHeartbeats 1000000 in
theorem Text_any (s : ByteArray) (hs : s.size ≤ maxLen) (w : World) :
    Calls Try.prog 25 #[.string s] w fun e w' => e = .returned (.tuple #[.string (packS [⟨true, 0, s⟩]), .int .i64 (packE [⟨true, 0, s⟩] : Int)]) ∧ Below w.heap.size w w' := by
  have h := fun (W : World) (a : Option Addr) (hp : PSl W a [⟨true, 0, s⟩]) => Pack_any a 1 [⟨true, 0, s⟩] (by simp) (by intro p hp; obtain rfl := List.mem_singleton.1 hp; exact ⟨by show 0 < _; omega, hs⟩) W hp
  have hp : PSl (w.alloc (.cells #[.bool true, .int .u64 0, .string s] 65)) (some ⟨w.heap.size, 0, none⟩) [⟨true, 0, s⟩] := fun _ =>
    ⟨w.heap.size, 0, rfl, by simp, fun i hi => by
      obtain rfl : i = 0 := by simpa using hi
      have hH := heap_alloc_new w (.cells #[.bool true, .int .u64 0, .string s] 65)
      exact ⟨by rw [cell_of_row _ _ _ _ _ _ hH]; rfl, by rw [cell_of_row _ _ _ _ _ _ hH]; rfl, by rw [cell_of_row _ _ _ _ _ _ hH]; rfl⟩⟩
  have hb : Below w.heap.size w (w.alloc (.cells #[.bool true, .int .u64 0, .string s] 65)) := (Below.refl _ _).alloc (Nat.le_refl _) _
  have hr := h _ _ hp
  have HB := Lib.hid hb; have HR := Lib.hid hr
  clear h hp hb hr hs
  go_enter Try.func25, Try.ntmps25
  go_wp2_with fail
  refine HR.out.mono ?_
  rintro e w1 ⟨rfl, hb1⟩
  have hb := HB.out.trans (hb1.mono HB.out.size)
  have HB1 := Lib.hid hb
  clear HR HB hb hb1
  go_wp2_with fail
  go_ret2
  exact ⟨rfl, HB1.out⟩
end Go.Proofs.Ytimijdmigdlhfaa