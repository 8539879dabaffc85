/- The texts Sb, Rb, Sc, one behind the other. -/
import Derived.Test.YtdnjieffbgmagaaDoorBg11
import Derived.Test.YtdnjieffbgmagaaDoorBg9
import Derived.Deep.Fields
/- Frames in memory; the reference's text, keys, Right. -/
namespace Go.Proofs.YtdnjieffbgmagaaDoor
open Go.RowKit Go.Sort
set_option maxRecDepth 100000
def frC (f : Fr) (a : Option Addr) (c : Nat) : Array Value := #[.int .i64 f.kind, .int .u64 (f.frm : Int), .int .u64 (f.dst : Int), .int .u64 (f.id : Int), .string f.ident, .string f.base, .int .u64 (f.signed : Int), .int .u64 (f.once : Int), .string f.ratchet, .int .u64 (f.prev : Int), .int .u64 (f.num : Int), .string f.body, .slice a f.keys.length c]
def frV (f : Fr) (a : Option Addr) (c : Nat) : Value := .agg (frC f a c)
set_option maxHeartbeats 400000 in
theorem r8text_any (s : ByteArray) (hs : s.size ≤ 1024) (w : World) :
    Calls Tryd.prog 70 #[.string s] w fun e w' => e = .returned (.string (strL (partB (tp s)))) ∧ Below w.heap.size w w' := by
  have h : Calls Tryd.prog 78 #[.agg #[.bool true, .int .u64 0, .string s]] w fun e w' => e = .returned (.string (strL (partB (tp s)))) ∧ Below w.heap.size w w' :=
    rOne_any (tp s) ⟨by show 0 < _; omega, by show s.size ≤ maxLen; unfold maxLen; omega⟩ (by show (true && decide (1024 < s.size)) = false; rw [decide_eq_false (by omega)]; rfl) w
  have H := Lib.hid h
  clear h hs
  go_enter Tryd.func70, Tryd.ntmps70
  go_wp2_with fail
  refine H.out.mono ?_
  rintro e w1 ⟨rfl, hb⟩
  go_wp2_with fail
  go_ret
  exact ⟨rfl, hb⟩
def KeysRel (W : World) (l : List ByteArray) (i : Value) (wr : World) : Prop :=
  ∃ k : Nat, k ≤ l.length ∧ i = .int .i64 (k : Int) ∧ (l.take k).all (fun x => decide (x.size = 32)) = true ∧ wr = W
theorem all_step (l : List ByteArray) (k : Nat) (h : k < l.length) (p : ByteArray → Bool) (hk : (l.take k).all p = true) : (l.take (k + 1)).all p = p (l.getD k ⟨#[]⟩) := by
  rw [List.take_succ_eq_append_getElem h, List.all_append, hk, Bool.true_and]
  simp [List.getD, h]
theorem all_stop (l : List ByteArray) (k : Nat) (h : k < l.length) (p : ByteArray → Bool) (hp : p (l.getD k ⟨#[]⟩) = false) : l.all p = false := by
  rw [Bool.eq_false_iff]
  intro ha
  rw [List.all_eq_true] at ha
  have e : l.getD k ⟨#[]⟩ = l[k] := by simp [List.getD, h]
  have := ha _ (List.getElem_mem h)
  rw [← e, hp] at this
  exact absurd this (by simp)
set_option maxHeartbeats 1000000 in
theorem r8keys_any (a : Option Addr) (c : Nat) (l : List ByteArray) (hl : l.length ≤ maxLen) (w : World) (hp : SSl w a l) :
    Calls Tryd.prog 25 #[.slice a l.length c] w fun e w' => e = .returned (.bool ((l.all fun x => decide (x.size = 32)) && decide (l.length ≤ 32))) ∧ w = w' := by
  have HP := Lib.hid hp; have HL := Lib.hid hl
  clear hp hl
  go_enter Tryd.func25, Tryd.ntmps25
  go_wp2_with fail
  go_loopw [7] (KeysRel w l) (fun i _ => l.length - (intOf i).toNat)
  case atStart => exact ⟨0, Nat.zero_le _, rfl, rfl, rfl⟩
  case round =>
    obtain ⟨k, hk, rfl, hall, rfl⟩ := hrel
    by_cases hlt : k < l.length
    · have h1 : (k : Int) < (l.length : Int) := by omega
      have h1k : (k : Int) < 9223372036854775807 := by have := HL.out; unfold maxLen at this; omega
      obtain ⟨b, off, rfl, hbl, hc⟩ := HP.out (by omega)
      have hcell := hc k hlt
      have hst := all_step l k hlt _ hall
      have hstop := all_stop l k hlt (fun x => decide (x.size = 32))
      obtain ⟨x, ex⟩ : ∃ x, l.getD k ⟨#[]⟩ = x := ⟨_, rfl⟩
      rw [ex] at hcell hst hstop
      by_cases hx : x.size = 32
      · have hne : ((x.size : Int) != 32) = false := by rw [hx]; rfl
        rw [decide_eq_true hx] at hst
        have HST := Lib.hid hst
        clear hc hst hstop ex hall hx
        go_wp2_with fail
        exact ⟨⟨k + 1, by omega, by simp, HST.out, rfl⟩, by simp [intOf]; omega⟩
      · have hne : ((x.size : Int) != 32) = true := by rw [bne, Bool.not_eq_true', beq_eq_false_iff_ne]; omega
        have HST := Lib.hid (hstop (decide_eq_false hx))
        clear hc hst hstop ex hall hx
        go_wp2_with fail
        go_ret
        rw [HST.out]
        exact ⟨rfl, rfl⟩
    · obtain rfl : k = l.length := by omega
      rw [List.take_of_length_le (Nat.le_refl _)] at hall
      have HA := Lib.hid hall
      have hn : ¬ (l.length : Int) < (l.length : Int) := by omega
      clear hall
      go_wp2_with fail
      go_ret
      rw [HA.out, Bool.true_and]
      exact ⟨ret_bool (by by_cases h : l.length ≤ 32; · rw [decide_eq_true h]; simp; omega
                          · rw [decide_eq_false h]; simp; omega), rfl⟩
theorem str_nil (x : ByteArray) : (x.toList == []) = decide (x.size = 0) := by
  rw [str_lit x (bl x) [] rfl]
  by_cases h : x.size = 0
  · rw [decide_eq_true h, decide_eq_true]; exact List.eq_nil_of_length_eq_zero h
  · rw [decide_eq_false h, decide_eq_false]; intro e; exact h (by rw [← bl_length, e]; rfl)
theorem size_nil (x : ByteArray) : x.size = 0 ↔ x = ByteArray.empty := by
  constructor
  · intro h; exact ByteArray.ext (Array.eq_empty_of_size_eq_zero h)
  · rintro rfl; rfl
theorem frBox (w : World) (f : Fr) (a : Option Addr) (c : Nat) (t : TypeId) : (w.alloc (.cells (frC f a c) t)).heap[w.heap.size]? = some (.cells (frC f a c) t) := heap_alloc_new _ _
set_option maxHeartbeats 8000000 in
theorem r8Right_any (f : Fr) (a : Option Addr) (c : Nat) (hl : f.keys.length ≤ maxLen) (w : World) (hp : SSl w a f.keys) :
    Calls Tryd.prog 8 #[frV f a c] w fun e w' => e = .returned (.bool (rightF f)) ∧ Below w.heap.size w w' := by
  have hB0 : Below w.heap.size w (w.alloc (.cells (frC f a c) 32)) := (Below.refl _ _).alloc (Nat.le_refl _) _
  have hx := frBox w f a c 32
  have hk := fun W h => r8keys_any a c f.keys hl W h
  obtain ⟨kd, fm, dt, fid, idt, bs, sg, oc, rt, pv, nm, bd, ks⟩ := f
  unfold frV
  simp only [frC] at hB0 hx hk ⊢
  have HB := Lib.hid hB0; have HX := Lib.hid hx; have HK := Lib.hid hk; have HP := Lib.hid hp
  clear hB0 hx hk hp hl
  go_enter Tryd.func8, Tryd.ntmps8
  go_upto_region 1 with fail
  have HPV := Lib.hid (HP.out.on HB.out)
  obtain ⟨B, eB⟩ : ∃ B, w.heap.size = B := ⟨_, rfl⟩
  rw [eB] at HX ⊢
  clear eB HP
  generalize World.alloc w _ = V at HB HX HPV ⊢
  have d0 : V.cell? ⟨B, 0, none⟩ = some (.int .i64 kd) := by rw [cell_of_row _ _ _ _ _ _ HX.out]; rfl
  have d4 : V.cell? ⟨B, 4, none⟩ = some (.string idt) := by rw [cell_of_row _ _ _ _ _ _ HX.out]; rfl
  have d5 : V.cell? ⟨B, 5, none⟩ = some (.string bs) := by rw [cell_of_row _ _ _ _ _ _ HX.out]; rfl
  have d6 : V.cell? ⟨B, 6, none⟩ = some (.int .u64 (sg : Int)) := by rw [cell_of_row _ _ _ _ _ _ HX.out]; rfl
  have d7 : V.cell? ⟨B, 7, none⟩ = some (.int .u64 (oc : Int)) := by rw [cell_of_row _ _ _ _ _ _ HX.out]; rfl
  have d8 : V.cell? ⟨B, 8, none⟩ = some (.string rt) := by rw [cell_of_row _ _ _ _ _ _ HX.out]; rfl
  have d9 : V.cell? ⟨B, 9, none⟩ = some (.int .u64 (pv : Int)) := by rw [cell_of_row _ _ _ _ _ _ HX.out]; rfl
  have d10 : V.cell? ⟨B, 10, none⟩ = some (.int .u64 (nm : Int)) := by rw [cell_of_row _ _ _ _ _ _ HX.out]; rfl
  have d11 : V.cell? ⟨B, 11, none⟩ = some (.string bd) := by rw [cell_of_row _ _ _ _ _ _ HX.out]; rfl
  have d12 : V.cell? ⟨B, 12, none⟩ = some (.slice a ks.length c) := by rw [cell_of_row _ _ _ _ _ _ HX.out]; rfl
  by_cases k0 : kd = 0
  · subst k0
    clear HX HK HPV
    go_wp2_with fail
    all_goals
      go_ret
      refine ⟨ret_bool ?_, HB.out⟩
      rw [Bool.eq_iff_iff]
      simp only [rightF, if_true, Bool.and_eq_true, decide_eq_true_eq, beq_iff_eq, Bool.false_eq_true, false_iff]
      first | omega | (constructor <;> intro h <;> omega)
  · have s1 := str_nil idt
    have s2 := str_nil bs
    have s3 := str_nil rt
    have s4 := str_nil bd
    clear HX
    go_wp2_with (go_at_call 25; refine (HK.out V HPV.out).mono ?_; rintro e w1 ⟨rfl, rfl⟩)
    all_goals
      have z1 := size_nil idt
      have z2 := size_nil bs
      have z3 := size_nil rt
      have z4 := size_nil bd
      go_ret
      refine ⟨ret_bool ?_, HB.out⟩
      clear d0 d4 d5 d6 d7 d8 d9 d10 d11 d12 HK HPV s1 s2 s3 s4
      have l0 : ((ks.length : Int) == 0) = decide (ks.length = 0) := nat_eq ks.length 0
      have e0 : ByteArray.empty.size = 0 := rfl
      unfold rightF
      simp only
      grind
end Go.Proofs.YtdnjieffbgmagaaDoor

/- A frame that came in: its fields, and that its keys can be read. -/
namespace Go.Proofs.YtdnjieffbgmagaaDoor
open Go.RowKit Go.ChangeShapes Go.WideShapes Go.Deep
set_option maxRecDepth 100000
theorem cellsFrame : Tryd.prog.cellsOf 32 = 13 := by kernel_rfl
theorem cellsInt : Tryd.prog.cellsOf 3 = 1 := by kernel_rfl
theorem cellsStrs : Tryd.prog.cellsOf 24 = 1 := by kernel_rfl
/-- its texts and its kind are Go's -/
structure FrIn (f : Fr) : Prop where
  kind : -9223372036854775808 ≤ f.kind ∧ f.kind ≤ 9223372036854775807
  ident : f.ident.size ≤ maxLen
  base : f.base.size ≤ maxLen
  ratchet : f.ratchet.size ≤ maxLen
  body : f.body.size ≤ maxLen
  keys : ∀ k ∈ f.keys, k.size ≤ maxLen
theorem u64_of (z : Int) (hz : (Lit.int .u64 z).wf = true) : ∃ n : Nat, z = (n : Int) ∧ n < 18446744073709551616 := by
  have e : IntKind.u64.min = 0 := by rfl
  have e2 : IntKind.u64.max = 18446744073709551615 := by rfl
  simp [Lit.wf, e, e2] at hz
  exact ⟨z.toNat, by omega, by omega⟩
theorem open_keys {H : Type} {enc : TypeId × Value → H} {W : World} {base : Nat} {spare : Nat → Bool} {held : Bool} {n : Nat} {v : Value} {y : DataW H × List MemPlace}
    (h : DataW.trod enc Tryd.prog W base spare held n 24 [v] = some y) :
    ∃ (a : Option Addr) (c : Nat) (l : List ByteArray), v = .slice a l.length c ∧ l.length ≤ maxLen ∧ l.length ≤ c ∧ (∀ k ∈ l, k.size ≤ maxLen) ∧ SSl W a l := by
  rcases open_strs Tryd.underlying24 Tryd.underlying9 cellsStr h with ⟨e0, -⟩ | ⟨a, len, cap, m, S, e0, -, hlc, hcm, hmm, -, hi⟩
  · obtain rfl : v = .slice none 0 0 := by simpa using e0
    exact ⟨none, 0, [], rfl, Nat.zero_le _, Nat.le_refl _, fun k hk => (by cases hk), fun h => absurd h (Nat.lt_irrefl 0)⟩
  · obtain rfl : v = .slice (some a) len cap := by simpa using e0
    have hle : len ≤ m := by rw [hmm]; split <;> omega
    refine ⟨some a, cap, (List.range len).map S, by simp, by simp; omega, by simp; exact hlc, fun k hk => ?_, fun hpos => ?_⟩
    · rw [List.mem_map] at hk
      obtain ⟨i, hin, rfl⟩ := hk
      exact (hi i (by have := List.mem_range.1 hin; omega)).2
    · simp only [List.length_map, List.length_range] at hpos
      have hc0 := (hi 0 (by omega)).1
      rw [show a.add 0 = a from rfl] at hc0
      obtain ⟨hap, hab⟩ := cell_plain hc0
      refine ⟨a.block, a.off, by rw [← hap], hab, fun i hin => ?_⟩
      simp only [List.length_map, List.length_range] at hin
      have hci := (hi i (by omega)).1
      have hadd : a.add i = ⟨a.block, a.off + i, none⟩ := by rw [hap]; exact Addr.add_mid _ _ _
      rw [hadd] at hci
      rw [hci]
      simp [List.getD, hin]
theorem fields_of {H : Type} {enc : TypeId × Value → H} {P : Program} {W : World} {base : Nat} {spare : Nat → Bool} {held : Bool} {t : TypeId} {fs : Array Field} {fuel : Nat} {l : List Value} {x : DataW H × List MemPlace}
    (hs : P.underlying t = some (.struct fs)) (hone : oneCellFields P fs = true) (hl : l.length = fs.size) (h : DataW.trod enc P W base spare held fuel t l = some x) :
    ∃ (n : Nat) (Y : Nat → DataW H × List MemPlace), ∀ (i : Nat) (f : Field), fs[i]? = some f → DataW.trod enc P W base spare held n f.type [l.getD i undef] = some (Y i) := by
  obtain ⟨xs, n, -, -, -, hxl, hf⟩ := DataW.trod_struct hs h
  refine ⟨n, fun i => xs.getD i (.nil, []), fun i f hi => ?_⟩
  have hlt : i < fs.size := (Array.getElem?_eq_some_iff.1 hi).1
  obtain ⟨ho, hc1⟩ := hone_of hone i f hi
  have g := hf i f hi
  rw [ho, hc1] at g
  rw [take1_drop l i undef (by omega), List.getElem?_eq_getElem (by omega)] at g
  rw [g]
  simp [List.getD, List.getElem?_eq_getElem (show i < xs.length by omega)]
set_option maxHeartbeats 4000000 in
theorem open_frame {H : Type} {enc : TypeId × Value → H} {W : World} {r : Reach} {b0 base : Nat} {spare : Nat → Bool} {held : Bool} {v : Value} {d : DataW H} {p : List MemPlace}
    (hval : Value.okWide Tryd.prog W r b0 32 v) (h : DataW.Trod enc Tryd.prog W base spare held 32 v d p) :
    ∃ (a : Option Addr) (c : Nat) (f : Fr), v = frV f a c ∧ f.keys.length ≤ maxLen ∧ f.keys.length ≤ c ∧ FrOk f ∧ FrIn f ∧ SSl W a f.keys := by
  obtain ⟨cs, rfl, hsz⟩ := okWide_struct Tryd.underlying32 hval
  rw [cellsFrame] at hsz
  obtain ⟨l⟩ := cs
  obtain ⟨fuel, hf⟩ := h
  clear hval
  match l, hsz with
  | [v0, v1, v2, v3, v4, v5, v6, v7, v8, v9, v10, v11, v12], _ =>
    obtain ⟨n, Y, hfi⟩ := fields_of Tryd.underlying32 (by kernel_rfl) rfl hf
    have h0 : DataW.trod enc Tryd.prog W base spare held n 3 [v0] = some (Y 0) := hfi 0 _ rfl
    have h1 : DataW.trod enc Tryd.prog W base spare held n 22 [v1] = some (Y 1) := hfi 1 _ rfl
    have h2 : DataW.trod enc Tryd.prog W base spare held n 22 [v2] = some (Y 2) := hfi 2 _ rfl
    have h3 : DataW.trod enc Tryd.prog W base spare held n 22 [v3] = some (Y 3) := hfi 3 _ rfl
    have h4 : DataW.trod enc Tryd.prog W base spare held n 9 [v4] = some (Y 4) := hfi 4 _ rfl
    have h5 : DataW.trod enc Tryd.prog W base spare held n 9 [v5] = some (Y 5) := hfi 5 _ rfl
    have h6 : DataW.trod enc Tryd.prog W base spare held n 22 [v6] = some (Y 6) := hfi 6 _ rfl
    have h7 : DataW.trod enc Tryd.prog W base spare held n 22 [v7] = some (Y 7) := hfi 7 _ rfl
    have h8 : DataW.trod enc Tryd.prog W base spare held n 9 [v8] = some (Y 8) := hfi 8 _ rfl
    have h9 : DataW.trod enc Tryd.prog W base spare held n 22 [v9] = some (Y 9) := hfi 9 _ rfl
    have h10 : DataW.trod enc Tryd.prog W base spare held n 22 [v10] = some (Y 10) := hfi 10 _ rfl
    have h11 : DataW.trod enc Tryd.prog W base spare held n 9 [v11] = some (Y 11) := hfi 11 _ rfl
    have h12 : DataW.trod enc Tryd.prog W base spare held n 24 [v12] = some (Y 12) := hfi 12 _ rfl
    clear hfi hf
    obtain ⟨z0, e0, -, hz0⟩ := DataW.trod_int Tryd.underlying3 h0
    obtain rfl : v0 = .int .i64 z0 := by simpa using e0
    obtain ⟨z1, e1, -, hz1⟩ := DataW.trod_int Tryd.underlying22 h1
    obtain rfl : v1 = .int .u64 z1 := by simpa using e1
    obtain ⟨fm, rfl, b1⟩ := u64_of z1 hz1
    obtain ⟨z2, e2, -, hz2⟩ := DataW.trod_int Tryd.underlying22 h2
    obtain rfl : v2 = .int .u64 z2 := by simpa using e2
    obtain ⟨dt, rfl, b2⟩ := u64_of z2 hz2
    obtain ⟨z3, e3, -, hz3⟩ := DataW.trod_int Tryd.underlying22 h3
    obtain rfl : v3 = .int .u64 z3 := by simpa using e3
    obtain ⟨fi, rfl, b3⟩ := u64_of z3 hz3
    obtain ⟨it, e4, -, b4⟩ := DataW.trod_string Tryd.underlying9 h4
    obtain rfl : v4 = .string it := by simpa using e4
    obtain ⟨bs, e5, -, b5⟩ := DataW.trod_string Tryd.underlying9 h5
    obtain rfl : v5 = .string bs := by simpa using e5
    obtain ⟨z6, e6, -, hz6⟩ := DataW.trod_int Tryd.underlying22 h6
    obtain rfl : v6 = .int .u64 z6 := by simpa using e6
    obtain ⟨sg, rfl, b6⟩ := u64_of z6 hz6
    obtain ⟨z7, e7, -, hz7⟩ := DataW.trod_int Tryd.underlying22 h7
    obtain rfl : v7 = .int .u64 z7 := by simpa using e7
    obtain ⟨oc, rfl, b7⟩ := u64_of z7 hz7
    obtain ⟨rt, e8, -, b8⟩ := DataW.trod_string Tryd.underlying9 h8
    obtain rfl : v8 = .string rt := by simpa using e8
    obtain ⟨z9, e9, -, hz9⟩ := DataW.trod_int Tryd.underlying22 h9
    obtain rfl : v9 = .int .u64 z9 := by simpa using e9
    obtain ⟨pv, rfl, b9⟩ := u64_of z9 hz9
    obtain ⟨z10, e10, -, hz10⟩ := DataW.trod_int Tryd.underlying22 h10
    obtain rfl : v10 = .int .u64 z10 := by simpa using e10
    obtain ⟨nm, rfl, b10⟩ := u64_of z10 hz10
    obtain ⟨bd, e11, -, b11⟩ := DataW.trod_string Tryd.underlying9 h11
    obtain rfl : v11 = .string bd := by simpa using e11
    obtain ⟨a, c, ks, rfl, k1, k2, k3, k4⟩ := open_keys h12
    refine ⟨a, c, ⟨z0, fm, dt, fi, it, bs, sg, oc, rt, pv, nm, bd, ks⟩, rfl, k1, k2, ⟨b1, b2, b3, b6, b7, b9, b10⟩, ⟨?_, b4, b5, b8, b11, k3⟩, k4⟩
    have e : IntKind.i64.min = -9223372036854775808 := by rfl
    have e2 : IntKind.i64.max = 9223372036854775807 := by rfl
    simp [Lit.wf, e, e2] at hz0
    exact hz0
end Go.Proofs.YtdnjieffbgmagaaDoor

/- The reference's Head: a frame's head. -/
namespace Go.Proofs.YtdnjieffbgmagaaDoor
open Go.RowKit Go.Sort
set_option maxRecDepth 100000
theorem cat_run (x y : List UInt8) (h : x.length + y.length ≤ 100000) : (∀ W : World, (Op.stringOp .add (strL x) (strL y)).run Tryd.prog W = .ok (.string (strL (x ++ y))) W) ∧ (9223372036854775807 < (strL x).size + (strL y).size) = False := by
  refine ⟨fun W => ?_, by rw [strL_size, strL_size]; simp; omega⟩
  rw [run_string_add_sum W _ _ (by rw [strL_size, strL_size]; omega), strL_append]
theorem numB_le9 (n : Nat) (h : n < 18446744073709551616) : (numB n).length ≤ 9 := by rw [numB_length]; have := digL_len8 n h; omega
theorem tp_le (s : ByteArray) (h : s.size ≤ 1024) : (partB (tp s)).length ≤ 1033 := partB_le (tp s) ⟨by show 0 < _; omega, by show s.size ≤ maxLen; unfold maxLen; omega⟩ (by show (true && decide (1024 < s.size)) = false; rw [decide_eq_false (by omega)]; rfl)
/-- what a frame that may be has, in its sizes -/
structure FrSz (f : Fr) : Prop where
  kind : f.kind = 0 ∨ f.kind = 1 ∨ f.kind = 2
  ident : f.ident.size ≤ 1024
  base : f.base.size ≤ 1024
  ratchet : f.ratchet.size ≤ 1024
  body : f.body.size ≤ 1024
  klen : f.keys.length ≤ 32
  kall : ∀ k ∈ f.keys, k.size ≤ 1024
theorem no_key (l : List ByteArray) (h : l.length = 0) : ∀ k ∈ l, k.size ≤ 1024 := by rw [List.eq_nil_of_length_eq_zero h]; intro k hk; cases hk
theorem right_sz (f : Fr) (h : rightF f = true) : FrSz f := by
  unfold rightF at h
  split at h
  · rename_i h0
    simp only [Bool.and_eq_true, decide_eq_true_eq] at h
    exact ⟨Or.inl h0, by omega, by omega, by omega, by omega, by omega, no_key f.keys (by omega)⟩
  · split at h
    · rename_i h1
      split at h
      · rename_i h2
        simp only [Bool.and_eq_true, decide_eq_true_eq] at h
        exact ⟨Or.inr (Or.inl h2), by omega, by omega, by omega, by omega, by omega, no_key f.keys (by omega)⟩
      · simp only [Bool.and_eq_true, decide_eq_true_eq] at h
        exact ⟨Or.inr (Or.inr h.1.1.1.1.1.1), by omega, by omega, by omega, by omega, h.2, fun k hk => by have := List.all_eq_true.1 h.1.2 k hk; simp at this; omega⟩
    · simp at h
set_option maxHeartbeats 8000000 in
theorem r8Head_any (f : Fr) (a : Option Addr) (c : Nat) (hf : FrSz f) (hok : FrOk f) (w : World) :
    Calls Tryd.prog 52 #[frV f a c] w fun e w' => e = .returned (.string (strL (headF f))) ∧ Below w.heap.size w w' := by
  have hB0 : Below w.heap.size w (w.alloc (.cells (frC f a c) 32)) := (Below.refl _ _).alloc (Nat.le_refl _) _
  have hx := frBox w f a c 32
  have HLEN := Lib.hid (And.intro (numB_le9 f.frm hok.frm) (And.intro (numB_le9 f.dst hok.dst) (And.intro (numB_le9 f.id hok.id) (And.intro (numB_le9 f.signed hok.signed) (And.intro (numB_le9 f.once hok.once) (And.intro (numB_le9 f.prev hok.prev) (And.intro (numB_le9 f.num hok.num) (And.intro (tp_le f.ident hf.ident) (And.intro (tp_le f.base hf.base) (And.intro (tp_le f.ratchet hf.ratchet) (And.intro (numB_le9 0 (by omega)) (And.intro (numB_le9 1 (by omega)) (numB_le9 2 (by omega))))))))))))))
  have HN1 := Lib.hid (rNumber_any f.frm hok.frm); have HN2 := Lib.hid (rNumber_any f.dst hok.dst); have HN3 := Lib.hid (rNumber_any f.id hok.id); have HN4 := Lib.hid (rNumber_any f.signed hok.signed); have HN5 := Lib.hid (rNumber_any f.once hok.once); have HN6 := Lib.hid (rNumber_any f.prev hok.prev); have HN7 := Lib.hid (rNumber_any f.num hok.num)
  have HT1 := Lib.hid (r8text_any f.ident hf.ident); have HT2 := Lib.hid (r8text_any f.base hf.base); have HT3 := Lib.hid (r8text_any f.ratchet hf.ratchet)
  unfold frV
  simp only [frC] at hB0 hx ⊢
  obtain ⟨B, eB⟩ : ∃ B, w.heap.size = B := ⟨_, rfl⟩
  rcases hf.kind with hk | hk | hk
  · have HKD := Lib.hid hk
    have hk0 : ∀ W : World, Calls Tryd.prog 69 #[.int .u64 0] W fun e w' => e = .returned (.string (strL (numB 0))) ∧ Below W.heap.size W w' := fun W => rNumber_any 0 (by omega) W
    have HK0 := Lib.hid hk0
    have hw0 : IntKind.u64.wrap 0 = 0 := rfl
    rw [hk] at hB0 hx ⊢
    rw [eB] at hx
    have HB := Lib.hid hB0; have HX := Lib.hid hx
    clear hB0 hx hk0 hk
    go_enter Tryd.func52, Tryd.ntmps52
    go_upto_region 1 with fail
    clear eB
    generalize World.alloc w _ = V at HB HX ⊢
    have q0 := cell_regrown (show V.cell? ⟨B, 0, none⟩ = some (.int .i64 0) by rw [cell_of_row _ _ _ _ _ _ HX.out]; rfl)
    have q1 := cell_regrown (show V.cell? ⟨B, 1, none⟩ = some (.int .u64 (f.frm : Int)) by rw [cell_of_row _ _ _ _ _ _ HX.out]; rfl)
    have q2 := cell_regrown (show V.cell? ⟨B, 2, none⟩ = some (.int .u64 (f.dst : Int)) by rw [cell_of_row _ _ _ _ _ _ HX.out]; rfl)
    have q3 := cell_regrown (show V.cell? ⟨B, 3, none⟩ = some (.int .u64 (f.id : Int)) by rw [cell_of_row _ _ _ _ _ _ HX.out]; rfl)
    obtain ⟨u0, m0⟩ := cat_run (numB 0) (numB f.frm) (by (try simp only [List.length_append]); have := HLEN.out; omega)
    obtain ⟨u1, m1⟩ := cat_run (numB 0 ++ numB f.frm) (numB f.dst) (by (try simp only [List.length_append]); have := HLEN.out; omega)
    obtain ⟨u2, m2⟩ := cat_run (numB 0 ++ (numB f.frm ++ numB f.dst)) (numB f.id) (by (try simp only [List.length_append]); have := HLEN.out; omega)
    refine wp_region_quiet_below (by kernel_rfl) (by kernel_rfl) ?_
    iterate 17 (quiet_step (first | (go_at_call_of 69 (Value.int .u64 0); exact Calls.regrown_of (HK0.out _)) | (go_at_call_of 69 (Value.int .u64 (f.frm : Int)); exact Calls.regrown_of (HN1.out _)) | (go_at_call_of 69 (Value.int .u64 (f.dst : Int)); exact Calls.regrown_of (HN2.out _)) | (go_at_call_of 69 (Value.int .u64 (f.id : Int)); exact Calls.regrown_of (HN3.out _))))
    refine wpQuiet_nil ?_
    intro _ hw'
    obtain ⟨⟨dq, osq⟩, hw''⟩ := hw'
    subst hw''
    have hrg := below_regrown V dq osq
    have HX' := Lib.hid ((hrg.block B (Array.getElem?_eq_some_iff.1 HX.out).1).trans HX.out)
    have HB' := Lib.hid (HB.out.trans (hrg.mono HB.out.size))
    clear hrg HX HB q0 q1 q2 q3 u0 m0 u1 m1 u2 m2
    have HX := HX'
    have HB := HB'
    clear HX' HB'
    generalize grow (redrawn V dq) osq = V1 at HX HB ⊢
    have z0 : V1.cell? ⟨B, 0, none⟩ = some (.int .i64 0) := by rw [cell_of_row _ _ _ _ _ _ HX.out]; rfl
    go_upto_region 3 with fail
    have q4 := cell_regrown (show V1.cell? ⟨B, 4, none⟩ = some (.string f.ident) by rw [cell_of_row _ _ _ _ _ _ HX.out]; rfl)
    have q5 := cell_regrown (show V1.cell? ⟨B, 5, none⟩ = some (.string f.base) by rw [cell_of_row _ _ _ _ _ _ HX.out]; rfl)
    have q6 := cell_regrown (show V1.cell? ⟨B, 6, none⟩ = some (.int .u64 (f.signed : Int)) by rw [cell_of_row _ _ _ _ _ _ HX.out]; rfl)
    have q7 := cell_regrown (show V1.cell? ⟨B, 7, none⟩ = some (.int .u64 (f.once : Int)) by rw [cell_of_row _ _ _ _ _ _ HX.out]; rfl)
    obtain ⟨u0, m0⟩ := cat_run (numB 0 ++ (numB f.frm ++ (numB f.dst ++ numB f.id))) (partB (tp f.ident)) (by (try simp only [List.length_append]); have := HLEN.out; omega)
    obtain ⟨u1, m1⟩ := cat_run (numB 0 ++ (numB f.frm ++ (numB f.dst ++ (numB f.id ++ partB (tp f.ident))))) (partB (tp f.base)) (by (try simp only [List.length_append]); have := HLEN.out; omega)
    obtain ⟨u2, m2⟩ := cat_run (numB 0 ++ (numB f.frm ++ (numB f.dst ++ (numB f.id ++ (partB (tp f.ident) ++ partB (tp f.base)))))) (numB f.signed) (by (try simp only [List.length_append]); have := HLEN.out; omega)
    obtain ⟨u3, m3⟩ := cat_run (numB 0 ++ (numB f.frm ++ (numB f.dst ++ (numB f.id ++ (partB (tp f.ident) ++ (partB (tp f.base) ++ numB f.signed)))))) (numB f.once) (by (try simp only [List.length_append]); have := HLEN.out; omega)
    refine wp_region_quiet_below (by kernel_rfl) (by kernel_rfl) ?_
    iterate 18 (quiet_step (first | (go_at_call_of 70 (Value.string f.ident); exact Calls.regrown_of (HT1.out _)) | (go_at_call_of 70 (Value.string f.base); exact Calls.regrown_of (HT2.out _)) | (go_at_call_of 69 (Value.int .u64 (f.signed : Int)); exact Calls.regrown_of (HN4.out _)) | (go_at_call_of 69 (Value.int .u64 (f.once : Int)); exact Calls.regrown_of (HN5.out _))))
    refine wpQuiet_nil ?_
    intro _ hw'
    obtain ⟨⟨dq, osq⟩, hw''⟩ := hw'
    subst hw''
    have hrg := below_regrown V1 dq osq
    have HX' := Lib.hid ((hrg.block B (Array.getElem?_eq_some_iff.1 HX.out).1).trans HX.out)
    have HB' := Lib.hid (HB.out.trans (hrg.mono HB.out.size))
    clear z0 hrg HX HB q4 q5 q6 q7 u0 m0 u1 m1 u2 m2 u3 m3
    have HX := HX'
    have HB := HB'
    clear HX' HB'
    generalize grow (redrawn V1 dq) osq = V2 at HX HB ⊢
    have z0 : V2.cell? ⟨B, 0, none⟩ = some (.int .i64 0) := by rw [cell_of_row _ _ _ _ _ _ HX.out]; rfl
    go_upto_region 5 with fail
    have q8 := cell_regrown (show V2.cell? ⟨B, 8, none⟩ = some (.string f.ratchet) by rw [cell_of_row _ _ _ _ _ _ HX.out]; rfl)
    have q9 := cell_regrown (show V2.cell? ⟨B, 9, none⟩ = some (.int .u64 (f.prev : Int)) by rw [cell_of_row _ _ _ _ _ _ HX.out]; rfl)
    have q10 := cell_regrown (show V2.cell? ⟨B, 10, none⟩ = some (.int .u64 (f.num : Int)) by rw [cell_of_row _ _ _ _ _ _ HX.out]; rfl)
    obtain ⟨u0, m0⟩ := cat_run (numB 0 ++ (numB f.frm ++ (numB f.dst ++ (numB f.id ++ (partB (tp f.ident) ++ (partB (tp f.base) ++ (numB f.signed ++ numB f.once))))))) (partB (tp f.ratchet)) (by (try simp only [List.length_append]); have := HLEN.out; omega)
    obtain ⟨u1, m1⟩ := cat_run (numB 0 ++ (numB f.frm ++ (numB f.dst ++ (numB f.id ++ (partB (tp f.ident) ++ (partB (tp f.base) ++ (numB f.signed ++ (numB f.once ++ partB (tp f.ratchet))))))))) (numB f.prev) (by (try simp only [List.length_append]); have := HLEN.out; omega)
    obtain ⟨u2, m2⟩ := cat_run (numB 0 ++ (numB f.frm ++ (numB f.dst ++ (numB f.id ++ (partB (tp f.ident) ++ (partB (tp f.base) ++ (numB f.signed ++ (numB f.once ++ (partB (tp f.ratchet) ++ numB f.prev))))))))) (numB f.num) (by (try simp only [List.length_append]); have := HLEN.out; omega)
    refine wp_region_quiet_below (by kernel_rfl) (by kernel_rfl) ?_
    iterate 14 (quiet_step (first | (go_at_call_of 70 (Value.string f.ratchet); exact Calls.regrown_of (HT3.out _)) | (go_at_call_of 69 (Value.int .u64 (f.prev : Int)); exact Calls.regrown_of (HN6.out _)) | (go_at_call_of 69 (Value.int .u64 (f.num : Int)); exact Calls.regrown_of (HN7.out _))))
    refine wpQuiet_nil ?_
    intro _ hw'
    obtain ⟨⟨dq, osq⟩, hw''⟩ := hw'
    subst hw''
    have hrg := below_regrown V2 dq osq
    have HX' := Lib.hid ((hrg.block B (Array.getElem?_eq_some_iff.1 HX.out).1).trans HX.out)
    have HB' := Lib.hid (HB.out.trans (hrg.mono HB.out.size))
    clear z0 hrg HX HB q8 q9 q10 u0 m0 u1 m1 u2 m2
    have HX := HX'
    have HB := HB'
    clear HX' HB'
    generalize grow (redrawn V2 dq) osq = V3 at HX HB ⊢
    go_wp2_with fail
    go_ret
    refine ⟨?_, HB.out⟩
    have e : headF f = numB 0 ++ (numB f.frm ++ (numB f.dst ++ (numB f.id ++ (partB (tp f.ident) ++ (partB (tp f.base) ++ (numB f.signed ++ (numB f.once ++ (partB (tp f.ratchet) ++ (numB f.prev ++ numB f.num))))))))) := by unfold headF headP; rw [HKD.out]; simp [packL, partB, np, tp]
    rw [e]; rfl
  · have HKD := Lib.hid hk
    have hk0 : ∀ W : World, Calls Tryd.prog 69 #[.int .u64 1] W fun e w' => e = .returned (.string (strL (numB 1))) ∧ Below W.heap.size W w' := fun W => rNumber_any 1 (by omega) W
    have HK0 := Lib.hid hk0
    have hw0 : IntKind.u64.wrap 1 = 1 := rfl
    rw [hk] at hB0 hx ⊢
    rw [eB] at hx
    have HB := Lib.hid hB0; have HX := Lib.hid hx
    clear hB0 hx hk0 hk
    go_enter Tryd.func52, Tryd.ntmps52
    go_upto_region 1 with fail
    clear eB
    generalize World.alloc w _ = V at HB HX ⊢
    have q0 := cell_regrown (show V.cell? ⟨B, 0, none⟩ = some (.int .i64 1) by rw [cell_of_row _ _ _ _ _ _ HX.out]; rfl)
    have q1 := cell_regrown (show V.cell? ⟨B, 1, none⟩ = some (.int .u64 (f.frm : Int)) by rw [cell_of_row _ _ _ _ _ _ HX.out]; rfl)
    have q2 := cell_regrown (show V.cell? ⟨B, 2, none⟩ = some (.int .u64 (f.dst : Int)) by rw [cell_of_row _ _ _ _ _ _ HX.out]; rfl)
    have q3 := cell_regrown (show V.cell? ⟨B, 3, none⟩ = some (.int .u64 (f.id : Int)) by rw [cell_of_row _ _ _ _ _ _ HX.out]; rfl)
    obtain ⟨u0, m0⟩ := cat_run (numB 1) (numB f.frm) (by (try simp only [List.length_append]); have := HLEN.out; omega)
    obtain ⟨u1, m1⟩ := cat_run (numB 1 ++ numB f.frm) (numB f.dst) (by (try simp only [List.length_append]); have := HLEN.out; omega)
    obtain ⟨u2, m2⟩ := cat_run (numB 1 ++ (numB f.frm ++ numB f.dst)) (numB f.id) (by (try simp only [List.length_append]); have := HLEN.out; omega)
    refine wp_region_quiet_below (by kernel_rfl) (by kernel_rfl) ?_
    iterate 17 (quiet_step (first | (go_at_call_of 69 (Value.int .u64 1); exact Calls.regrown_of (HK0.out _)) | (go_at_call_of 69 (Value.int .u64 (f.frm : Int)); exact Calls.regrown_of (HN1.out _)) | (go_at_call_of 69 (Value.int .u64 (f.dst : Int)); exact Calls.regrown_of (HN2.out _)) | (go_at_call_of 69 (Value.int .u64 (f.id : Int)); exact Calls.regrown_of (HN3.out _))))
    refine wpQuiet_nil ?_
    intro _ hw'
    obtain ⟨⟨dq, osq⟩, hw''⟩ := hw'
    subst hw''
    have hrg := below_regrown V dq osq
    have HX' := Lib.hid ((hrg.block B (Array.getElem?_eq_some_iff.1 HX.out).1).trans HX.out)
    have HB' := Lib.hid (HB.out.trans (hrg.mono HB.out.size))
    clear hrg HX HB q0 q1 q2 q3 u0 m0 u1 m1 u2 m2
    have HX := HX'
    have HB := HB'
    clear HX' HB'
    generalize grow (redrawn V dq) osq = V1 at HX HB ⊢
    have z0 : V1.cell? ⟨B, 0, none⟩ = some (.int .i64 1) := by rw [cell_of_row _ _ _ _ _ _ HX.out]; rfl
    go_upto_region 5 with fail
    have q8 := cell_regrown (show V1.cell? ⟨B, 8, none⟩ = some (.string f.ratchet) by rw [cell_of_row _ _ _ _ _ _ HX.out]; rfl)
    have q9 := cell_regrown (show V1.cell? ⟨B, 9, none⟩ = some (.int .u64 (f.prev : Int)) by rw [cell_of_row _ _ _ _ _ _ HX.out]; rfl)
    have q10 := cell_regrown (show V1.cell? ⟨B, 10, none⟩ = some (.int .u64 (f.num : Int)) by rw [cell_of_row _ _ _ _ _ _ HX.out]; rfl)
    obtain ⟨u0, m0⟩ := cat_run (numB 1 ++ (numB f.frm ++ (numB f.dst ++ numB f.id))) (partB (tp f.ratchet)) (by (try simp only [List.length_append]); have := HLEN.out; omega)
    obtain ⟨u1, m1⟩ := cat_run (numB 1 ++ (numB f.frm ++ (numB f.dst ++ (numB f.id ++ partB (tp f.ratchet))))) (numB f.prev) (by (try simp only [List.length_append]); have := HLEN.out; omega)
    obtain ⟨u2, m2⟩ := cat_run (numB 1 ++ (numB f.frm ++ (numB f.dst ++ (numB f.id ++ (partB (tp f.ratchet) ++ numB f.prev))))) (numB f.num) (by (try simp only [List.length_append]); have := HLEN.out; omega)
    refine wp_region_quiet_below (by kernel_rfl) (by kernel_rfl) ?_
    iterate 14 (quiet_step (first | (go_at_call_of 70 (Value.string f.ratchet); exact Calls.regrown_of (HT3.out _)) | (go_at_call_of 69 (Value.int .u64 (f.prev : Int)); exact Calls.regrown_of (HN6.out _)) | (go_at_call_of 69 (Value.int .u64 (f.num : Int)); exact Calls.regrown_of (HN7.out _))))
    refine wpQuiet_nil ?_
    intro _ hw'
    obtain ⟨⟨dq, osq⟩, hw''⟩ := hw'
    subst hw''
    have hrg := below_regrown V1 dq osq
    have HX' := Lib.hid ((hrg.block B (Array.getElem?_eq_some_iff.1 HX.out).1).trans HX.out)
    have HB' := Lib.hid (HB.out.trans (hrg.mono HB.out.size))
    clear z0 hrg HX HB q8 q9 q10 u0 m0 u1 m1 u2 m2
    have HX := HX'
    have HB := HB'
    clear HX' HB'
    generalize grow (redrawn V1 dq) osq = V3 at HX HB ⊢
    go_wp2_with fail
    go_ret
    refine ⟨?_, HB.out⟩
    have e : headF f = numB 1 ++ (numB f.frm ++ (numB f.dst ++ (numB f.id ++ (partB (tp f.ratchet) ++ (numB f.prev ++ numB f.num))))) := by unfold headF headP; rw [HKD.out]; simp [packL, partB, np, tp]
    rw [e]; rfl
  · have HKD := Lib.hid hk
    have hk0 : ∀ W : World, Calls Tryd.prog 69 #[.int .u64 2] W fun e w' => e = .returned (.string (strL (numB 2))) ∧ Below W.heap.size W w' := fun W => rNumber_any 2 (by omega) W
    have HK0 := Lib.hid hk0
    have hw0 : IntKind.u64.wrap 2 = 2 := rfl
    rw [hk] at hB0 hx ⊢
    rw [eB] at hx
    have HB := Lib.hid hB0; have HX := Lib.hid hx
    clear hB0 hx hk0 hk
    go_enter Tryd.func52, Tryd.ntmps52
    go_upto_region 1 with fail
    clear eB
    generalize World.alloc w _ = V at HB HX ⊢
    have q0 := cell_regrown (show V.cell? ⟨B, 0, none⟩ = some (.int .i64 2) by rw [cell_of_row _ _ _ _ _ _ HX.out]; rfl)
    have q1 := cell_regrown (show V.cell? ⟨B, 1, none⟩ = some (.int .u64 (f.frm : Int)) by rw [cell_of_row _ _ _ _ _ _ HX.out]; rfl)
    have q2 := cell_regrown (show V.cell? ⟨B, 2, none⟩ = some (.int .u64 (f.dst : Int)) by rw [cell_of_row _ _ _ _ _ _ HX.out]; rfl)
    have q3 := cell_regrown (show V.cell? ⟨B, 3, none⟩ = some (.int .u64 (f.id : Int)) by rw [cell_of_row _ _ _ _ _ _ HX.out]; rfl)
    obtain ⟨u0, m0⟩ := cat_run (numB 2) (numB f.frm) (by (try simp only [List.length_append]); have := HLEN.out; omega)
    obtain ⟨u1, m1⟩ := cat_run (numB 2 ++ numB f.frm) (numB f.dst) (by (try simp only [List.length_append]); have := HLEN.out; omega)
    obtain ⟨u2, m2⟩ := cat_run (numB 2 ++ (numB f.frm ++ numB f.dst)) (numB f.id) (by (try simp only [List.length_append]); have := HLEN.out; omega)
    refine wp_region_quiet_below (by kernel_rfl) (by kernel_rfl) ?_
    iterate 17 (quiet_step (first | (go_at_call_of 69 (Value.int .u64 2); exact Calls.regrown_of (HK0.out _)) | (go_at_call_of 69 (Value.int .u64 (f.frm : Int)); exact Calls.regrown_of (HN1.out _)) | (go_at_call_of 69 (Value.int .u64 (f.dst : Int)); exact Calls.regrown_of (HN2.out _)) | (go_at_call_of 69 (Value.int .u64 (f.id : Int)); exact Calls.regrown_of (HN3.out _))))
    refine wpQuiet_nil ?_
    intro _ hw'
    obtain ⟨⟨dq, osq⟩, hw''⟩ := hw'
    subst hw''
    have hrg := below_regrown V dq osq
    have HX' := Lib.hid ((hrg.block B (Array.getElem?_eq_some_iff.1 HX.out).1).trans HX.out)
    have HB' := Lib.hid (HB.out.trans (hrg.mono HB.out.size))
    clear hrg HX HB q0 q1 q2 q3 u0 m0 u1 m1 u2 m2
    have HX := HX'
    have HB := HB'
    clear HX' HB'
    generalize grow (redrawn V dq) osq = V1 at HX HB ⊢
    have z0 : V1.cell? ⟨B, 0, none⟩ = some (.int .i64 2) := by rw [cell_of_row _ _ _ _ _ _ HX.out]; rfl
    go_wp2_with fail
    go_ret
    refine ⟨?_, HB.out⟩
    have e : headF f = numB 2 ++ (numB f.frm ++ (numB f.dst ++ numB f.id)) := by unfold headF headP; rw [HKD.out]; simp [packL, partB, np]
    rw [e]; rfl
end Go.Proofs.YtdnjieffbgmagaaDoor
