/- The texts Ref, Refb, Refc, Refd, Refe, Reff, one behind the other. -/
import Derived.Test.YthjlhcmdpeinpaaGreatDoorRows
import Derived.WalkKit
import Derived.ProofKit
import Derived.Handy
import Derived.Lib.Hide
import Derived.Laws.OwnMore
import Derived.Deep.AppendLies
import Derived.PlainAid
import Derived.Deep.RegionLaw
import Derived.Test.YthjlhcmdpeinpaaGreatDoorGg1
import Derived.Deep.QuietTactic
import Derived.BigQuiet
import Derived.Deep.Onto
/- The contracts of the reference's functions over digits: prime. -/
namespace Go.Proofs.YthjlhcmdpeinpaaGreatDoor
set_option maxRecDepth 100000
open Go.RowKit
/-- a slice of ints of the call's own that reads as l -/
def Ints (w : World) (base : Nat) (v : Value) (l : List Int) : Prop := w.ownsRow base 3 1 v l.length (l.map (Value.int .i64))
def lenOf : Value → Nat
  | .slice _ n _ => n
  | _ => 0

theorem infoInt : (Tryz.prog.info? 3).map (fun i => (i.zero, i.size, i.bytes)) = some (some (.int .i64 0), 1, 8) := by kernel_rfl

theorem Ints.lit (w : World) (base : Nat) (hb : base ≤ w.heap.size) (x : Int) : Ints (w.alloc (.cells #[.int .i64 x] 3)) base (.slice (some ⟨w.heap.size, 0, none⟩) 1 1) [x] :=
  World.ownsRow_lit w #[.int .i64 x] 1 hb (by decide) rfl

theorem Ints.alloc {w : World} {base : Nat} {v : Value} {l : List Int} (h : Ints w base v l) (o : Obj) : Ints (w.alloc o) base v l := World.ownsRow.alloc h o

/-- one int put behind a slice of the call's own -/
theorem append_int {ops : Array Oper} {rest : List Oper} {o : Oper} {a : Act} {Q : Exit → Act → World → Prop} {w : World} (hgd : o.guard = none) (s x : Operand)
    (ho : o.op = .call { callee := .builtin .append, args := #[s, x], argTypes := #[110, 110] })
    (base : Nat) (v : Value) (l : List Int) (y : Int) (B : Nat) (hs : a.eval s = v) (hown : Ints w base v l) (hx : a.eval x = .slice (some ⟨B, 0, none⟩) 1 1)
    (hc : w.cell? ⟨B, 0, none⟩ = some (.int .i64 y)) (hl : l.length ≤ 1000) (hbase : base ≤ w.heap.size)
    (h : ∀ g cap w', Ints w' base (.slice (some ⟨g, 0, none⟩) (l.length + 1) cap) (l ++ [y]) → w.grownBy w' v.ownBlock → wpList Tryz.prog ops Q rest (a.put o.dst (.slice (some ⟨g, 0, none⟩) (l.length + 1) cap)) w') :
    wpList Tryz.prog ops Q (o :: rest) a w := by
  obtain ⟨i0, hi, hz0, hz1, hz2⟩ := info_parts infoInt
  refine wpList_append_own w hgd s x 110 ho base 3 i0 (.int .i64 0) 1 8 Tryz.underlying110 hi hz0 hz1 hz2 rfl (by decide) v l.length (l.map (Value.int .i64)) hs hown ⟨B, 0, none⟩ 1 1 [.int .i64 y] hx rfl ?_ ?_ (by unfold maxLen; omega) (by omega) hbase ?_
  · intro j u hu
    rcases j with _ | j
    · simp at hu; subst hu; simpa [Addr.add] using hc
    · simp at hu
  · intro u hu; simp at hu; subst hu; rfl
  · intro v' w' ho' hg _
    obtain ⟨g, cap, rfl, -, -⟩ := World.ownsRow.form ho' (by omega)
    exact h g cap w' (by unfold Ints; simpa using ho') hg

theorem Ints.below_grown {w wr w' : World} {n : Nat} {v : Value} {l : List Int} {o : Obj} (hI : Ints wr n v l) (hB : Below n w wr) (hn : n ≤ wr.heap.size) (hg : (wr.alloc o).grownBy w' v.ownBlock) : Below n w w' :=
  (hB.alloc hn o).grown hg (by simp; omega) fun k hk => (World.ownsRow.lt hI k hk).1

def primeDigits : List Int := [65517, 65535, 65535, 65535, 65535, 65535, 65535, 65535, 65535, 65535, 65535, 65535, 65535, 65535, 65535, 32767]
def PrimeRel (w : World) (v : Value) (wr : World) : Prop := ∃ (k g cap : Nat), k ≤ 14 ∧ v = .slice (some ⟨g, 0, none⟩) (k + 1) cap ∧ Ints wr w.heap.size v (65517 :: List.replicate k 65535) ∧ Below w.heap.size w wr

set_option maxHeartbeats 1000000 in
theorem refPrime_any (w : World) :
    Calls Tryz.prog 172 #[] w fun e w' => ∃ v, e = .returned v ∧ Ints w' w.heap.size v primeDigits ∧ Below w.heap.size w w' := by
  go_enter Tryz.func172, Tryz.ntmps172
  go_wp2_with fail
  go_loopw [1] (PrimeRel w) (fun v _ => 15 - lenOf v)
  case atStart => exact ⟨0, _, _, by omega, rfl, Ints.lit w _ (Nat.le_refl _) _, by go_grown⟩
  case round =>
    obtain ⟨k, g, cap, hk, rfl, hI, hB⟩ := hrel
    have hsz := hB.size
    by_cases hlt : k < 14
    · have h1 : ((k : Int) + 1 < 15) := by omega
      have h2 : decide ((k : Int) + 1 < 15) = true := by simp; omega
      go_wp2_with (at_builtin; refine append_int rfl _ _ rfl w.heap.size _ (65517 :: List.replicate k 65535) 65535 wr.heap.size rfl ?c0 rfl ?c1 ?c2 ?c3 ?_)
      case c0 => exact hI.alloc _
      case c1 => simp
      case c2 => simp; omega
      case c3 => simp; omega
      intro g' cap' w' hI' hg'
      have hB' := hI.below_grown hB hsz hg'
      clear hI hg' hB
      go_wp2_with fail
      refine ⟨⟨k + 1, g', cap', by omega, by simp, ?_, hB'⟩, by simp [lenOf]; omega⟩
      rw [List.replicate_succ']
      simpa using hI'
    · obtain rfl : k = 14 := by omega
      go_wp2_with (at_builtin; refine append_int rfl _ _ rfl w.heap.size _ (65517 :: List.replicate 14 65535) 32767 wr.heap.size rfl ?d0 rfl ?d1 ?d2 ?d3 ?_)
      case d0 => exact hI.alloc _
      case d1 => simp
      case d2 => simp
      case d3 => simp; omega
      intro g' cap' w' hI' hg'
      have hB' := hI.below_grown hB hsz hg'
      clear hI hg' hB
      go_wp2_with fail
      go_ret
      exact ⟨_, rfl, hI', hB'⟩
end Go.Proofs.YthjlhcmdpeinpaaGreatDoor

/- The contracts of the reference's functions over digits: Digits, Text. -/
namespace Go.Proofs.YthjlhcmdpeinpaaGreatDoor
set_option maxRecDepth 100000
open Go.RowKit Go.PlainAid
theorem Ints.empty (w : World) (base : Nat) (hb : base ≤ w.heap.size) : Ints (w.alloc (.cells #[] 3)) base (.slice (some ⟨w.heap.size, 0, none⟩) 0 0) [] :=
  World.ownsRow_lit w #[] 0 hb (by decide) rfl

theorem Ints.below_at {w W w' : World} {n : Nat} {v : Value} {l : List Int} (hI : Ints W n v l) (hB : Below n w W) (hn : n ≤ W.heap.size) (hg : W.grownBy w' v.ownBlock) : Below n w w' :=
  hB.grown hg hn fun k hk => (World.ownsRow.lt hI k hk).1
theorem Ints.drew {w : World} {base : Nat} {v : Value} {l : List Int} (h : Ints w base v l) : Ints w.drew base v l := h

/-- the same where the order is drawn -/
theorem step_append_int {ops : Array Oper} {o : Oper} {a : Act} {K : Act → World → Prop} {Q : Exit → Act → World → Prop} {E : Prop} {w : World} (hgd : o.guard = none) (s x : Operand)
    (ho : o.op = .call { callee := .builtin .append, args := #[s, x], argTypes := #[110, 110] })
    (base : Nat) (v : Value) (l : List Int) (y : Int) (B : Nat) (hs : a.eval s = v) (hown : Ints w base v l) (hx : a.eval x = .slice (some ⟨B, 0, none⟩) 1 1)
    (hc : w.cell? ⟨B, 0, none⟩ = some (.int .i64 y)) (hl : l.length ≤ 1000) (hbase : base ≤ w.heap.size)
    (h : ∀ g cap w', Ints w' base (.slice (some ⟨g, 0, none⟩) (l.length + 1) cap) (l ++ [y]) → w.grownBy w' v.ownBlock → K (a.put o.dst (.slice (some ⟨g, 0, none⟩) (l.length + 1) cap)) w') :
    if Region.wanted o (yielded ops a.tmps) = true then Oper.wp Tryz.prog o a w K Q else E := by
  obtain ⟨i0, hi, hz0, hz1, hz2⟩ := info_parts infoInt
  refine step_append_lies w hgd s x 110 ho base 3 i0 (.int .i64 0) 1 8 Tryz.underlying110 hi hz0 hz1 hz2 rfl (by decide) v l.length (l.map (Value.int .i64)) hs hown ⟨B, 0, none⟩ 1 1 [.int .i64 y] hx rfl ?_ ?_ (by omega) (by unfold maxLen; omega) (by omega) hbase _ rfl ?_
  · intro j u hu
    rcases j with _ | j
    · simp at hu; subst hu; simpa [Addr.add] using hc
    · simp at hu
  · intro u hu; simp at hu; subst hu; rfl
  · intro g cap w' ho' hg _ _
    exact h g cap w' (by unfold Ints; simpa using ho') hg

def dig (s : ByteArray) (i : Nat) : Int := bt s (2 * i) + 256 * bt s (2 * i + 1)
def digs (s : ByteArray) (k : Nat) : List Int := (List.range k).map (dig s)
theorem digs_succ (s : ByteArray) (k : Nat) : digs s (k + 1) = digs s k ++ [dig s k] := by simp [digs, List.range_succ]
theorem digs_length (s : ByteArray) (k : Nat) : (digs s k).length = k := by simp [digs]
def DigRel (w : World) (s : ByteArray) (v i : Value) (wr : World) : Prop := ∃ k g cap : Nat, k ≤ 16 ∧ i = .int .i64 k ∧ v = .slice (some ⟨g, 0, none⟩) k cap ∧ Ints wr w.heap.size v (digs s k) ∧ Below w.heap.size w wr

set_option maxHeartbeats 1000000 in
theorem ldigits_any (s : ByteArray) (hs : s.size = 32) (w : World) :
    Calls Tryz.prog 95 #[.string s] w fun e w' => ∃ v, e = .returned v ∧ Ints w' w.heap.size v (digs s 16) ∧ Below w.heap.size w w' := by
  have hb := get_bt s
  go_enter Tryz.func95, Tryz.ntmps95
  go_wp2_with fail
  go_loopw [3, 4] (DigRel w s) (fun _ i _ => 16 - (intOf i).toNat)
  case atStart => exact ⟨0, _, _, by omega, rfl, rfl, Ints.empty w _ (Nat.le_refl _), by go_grown⟩
  case round =>
    obtain ⟨k, g, cap, hk, rfl, rfl, hI, hB⟩ := hrel
    have hsz := hB.size
    by_cases hlt : k < 16
    · have h1 : (k : Int) < 16 := by omega
      have e1 : IntKind.i64.wrap (2 * (k : Int)) = 2 * (k : Int) := IntWalk.i64_in _ (by omega)
      have e2 : IntKind.i64.wrap (2 * (k : Int) + 1) = 2 * (k : Int) + 1 := IntWalk.i64_in _ (by omega)
      have e3 : (2 * (k : Int)).toNat = 2 * k := by omega
      have e4 : (2 * (k : Int) + 1).toNat = 2 * k + 1 := by omega
      have b1 := bt_nonneg s (2 * k); have b2 := bt_le s (2 * k); have b3 := bt_nonneg s (2 * k + 1); have b4 := bt_le s (2 * k + 1)
      have c1 : (0 : Int) ≤ 2 * (k : Int) := by omega
      have c2 : 2 * (k : Int) < (s.size : Int) := by omega
      have c3 : (0 : Int) ≤ 2 * (k : Int) + 1 := by omega
      have c4 : 2 * (k : Int) + 1 < (s.size : Int) := by omega
      have w1 : IntKind.i64.wrap (bt s (2 * k)) = bt s (2 * k) := IntWalk.i64_in _ (by omega)
      have w2 : IntKind.i64.wrap (bt s (2 * k + 1)) = bt s (2 * k + 1) := IntWalk.i64_in _ (by omega)
      have w3 : IntKind.i64.wrap (256 * bt s (2 * k + 1)) = 256 * bt s (2 * k + 1) := IntWalk.i64_in _ (by omega)
      have w4 : IntKind.i64.wrap (bt s (2 * k) + 256 * bt s (2 * k + 1)) = bt s (2 * k) + 256 * bt s (2 * k + 1) := IntWalk.i64_in _ (by omega)
      have HI := Lib.hid hI
      have HS := Lib.hid hs
      clear hI hs
      go_wp2_with fail
      go_region_law (first | (refine step_append_int rfl _ _ rfl w.heap.size _ (digs s k) (bt s (2 * k) + 256 * bt s (2 * k + 1)) wr.heap.size rfl ?_ rfl ?_ ?_ ?_ ?_; exact (HI.out.alloc _); simp; (rw [digs_length]; omega); (simp; omega); intro g' cap' w' hI' hg'))
      all_goals
        have hB' := (HI.out.alloc (.cells #[.int .i64 (bt s (2 * k) + 256 * bt s (2 * k + 1))] 3)).drew.below_at (hB.alloc hsz _).drew (by simp; omega) hg'
        clear hg' hB
        rw [digs_length] at hI'
        go_wp2_with fail
        refine ⟨⟨k + 1, g', cap', by omega, by simp, by simp [digs_length], ?_, hB'⟩, by simp [intOf]; omega⟩
        rw [digs_succ, digs_length]
        exact hI'
    · obtain rfl : k = 16 := by omega
      go_wp2_with fail
      go_ret
      exact ⟨_, rfl, hI, hB⟩
end Go.Proofs.YthjlhcmdpeinpaaGreatDoor

/- The contracts of the reference's functions over digits: Text. -/
namespace Go.Proofs.YthjlhcmdpeinpaaGreatDoor
set_option maxRecDepth 100000
open Go.RowKit
/-- a slice of ints that lies in memory and reads as l -/
def LIntsAt (w : World) (v : Value) (l : List Int) : Prop := ∃ g cap, v = .slice (some ⟨g, 0, none⟩) l.length cap ∧ g < w.heap.size ∧ ∀ j, j < l.length → w.cell? ⟨g, j, none⟩ = some (.int .i64 (l.getD j 0))
theorem Ints.at {w : World} {base : Nat} {v : Value} {l : List Int} (h : Ints w base v l) (hl : 0 < l.length) : LIntsAt w v l := by
  obtain ⟨g, cap, rfl, -, hg⟩ := World.ownsRow.form h hl
  refine ⟨g, cap, rfl, hg, fun j hj => ?_⟩
  have := World.ownsRow.cellAt h j (by omega)
  rw [this]
  simp [List.getD, hj]
theorem LIntsAt.below {n : Nat} {w w' : World} {v : Value} {l : List Int} (h : LIntsAt w v l) (hb : Below n w w') (hn : w.heap.size ≤ n) : LIntsAt w' v l := by
  obtain ⟨g, cap, rfl, hg, hc⟩ := h
  exact ⟨g, cap, rfl, Nat.lt_of_lt_of_le hg hb.size, fun j hj => by rw [hb.cell (p := ⟨g, j, none⟩) (by show g < n; omega)]; exact hc j hj⟩

/-- what digits of 16 bits tell -/
def valD : List Int → Int
  | [] => 0
  | d :: r => d + 65536 * valD r
def Small (l : List Int) : Prop := ∀ d ∈ l, 0 ≤ d ∧ d < 65536
def lflat : List Int → List Int
  | [] => []
  | d :: r => d % 256 :: d / 256 :: lflat r
theorem flat_append (a : List Int) : ∀ b, lflat (a ++ b) = lflat a ++ lflat b := by
  induction a with
  | nil => intro b; rfl
  | cons d r ih => intro b; simp [lflat, ih]
theorem flat_length (a : List Int) : (lflat a).length = 2 * a.length := by
  induction a with
  | nil => rfl
  | cons d r ih => simp [lflat, ih]; omega
theorem bytes_flat : ∀ l : List Int, Small l → bytesLE (2 * l.length) (valD l) = lflat l
  | [], _ => rfl
  | d :: r, h => by
    have hd := h d (List.mem_cons_self ..)
    have ih := bytes_flat r fun x hx => h x (List.mem_cons_of_mem _ hx)
    rw [List.length_cons, show 2 * (r.length + 1) = 2 * r.length + 1 + 1 by omega]
    simp only [bytesLE, valD, lflat]
    have e1 : (d + 65536 * valD r) % 256 = d % 256 := by omega
    have e2 : (d + 65536 * valD r) / 256 = d / 256 + 256 * valD r := by omega
    have e3 : (d / 256 + 256 * valD r) % 256 = d / 256 := by omega
    have e4 : (d / 256 + 256 * valD r) / 256 = valD r := by omega
    rw [e1, e2, e3, e4, ih]

def Byts (w : World) (base : Nat) (v : Value) (l : List Int) : Prop := w.ownsRow base 5 1 v l.length (l.map (Value.int .u8))
theorem infoByte : (Tryz.prog.info? 5).map (fun i => (i.zero, i.size, i.bytes)) = some (some (.int .u8 0), 1, 1) := by kernel_rfl
theorem Byts.empty (w : World) (base : Nat) (hb : base ≤ w.heap.size) : Byts (w.alloc (.cells #[] 5)) base (.slice (some ⟨w.heap.size, 0, none⟩) 0 0) [] :=
  World.ownsRow_lit w #[] 0 hb (by decide) rfl

theorem append_two {ops : Array Oper} {rest : List Oper} {o : Oper} {a : Act} {Q : Exit → Act → World → Prop} {w : World} (hgd : o.guard = none) (s x : Operand)
    (ho : o.op = .call { callee := .builtin .append, args := #[s, x], argTypes := #[94, 94] })
    (base : Nat) (v : Value) (l : List Int) (y z : Int) (B : Nat) (hs : a.eval s = v) (hown : Byts w base v l) (hx : a.eval x = .slice (some ⟨B, 0, none⟩) 2 2)
    (hc : w.cell? ⟨B, 0, none⟩ = some (.int .u8 y)) (hc' : w.cell? ⟨B, 1, none⟩ = some (.int .u8 z)) (hl : l.length ≤ 1000) (hbase : base ≤ w.heap.size)
    (h : ∀ g cap w', Byts w' base (.slice (some ⟨g, 0, none⟩) (l.length + 2) cap) (l ++ [y, z]) → w.grownBy w' v.ownBlock → wpList Tryz.prog ops Q rest (a.put o.dst (.slice (some ⟨g, 0, none⟩) (l.length + 2) cap)) w') :
    wpList Tryz.prog ops Q (o :: rest) a w := by
  obtain ⟨i0, hi, hz0, hz1, hz2⟩ := info_parts infoByte
  refine wpList_append_own w hgd s x 94 ho base 5 i0 (.int .u8 0) 1 1 Tryz.underlying94 hi hz0 hz1 hz2 rfl (by decide) v l.length (l.map (Value.int .u8)) hs hown ⟨B, 0, none⟩ 2 2 [.int .u8 y, .int .u8 z] hx rfl ?_ ?_ (by unfold maxLen; omega) (by omega) hbase ?_
  · intro j u hu
    rcases j with _ | _ | j
    · simp at hu; subst hu; simpa [Addr.add] using hc
    · simp at hu; subst hu; simpa [Addr.add] using hc'
    · simp at hu
  · intro u hu; simp at hu; rcases hu with rfl | rfl <;> rfl
  · intro v' w' ho' hg _
    obtain ⟨g, cap, rfl, -, -⟩ := World.ownsRow.form ho' (by omega)
    exact h g cap w' (by unfold Byts; simpa using ho') hg

def TextRel (w : World) (l : List Int) (v i : Value) (wr : World) : Prop := ∃ k g cap : Nat, k ≤ l.length ∧ i = .int .i64 k ∧ v = .slice (some ⟨g, 0, none⟩) (2 * k) cap ∧ Byts wr w.heap.size v (lflat (l.take k)) ∧ Below w.heap.size w wr

set_option maxHeartbeats 1000000 in
theorem text_any (v : Value) (l : List Int) (hl : l.length = 16) (hsm : Small l) (w : World) (hI : LIntsAt w v l) :
    Calls Tryz.prog 72 #[v] w fun e w' => e = .returned (.string (leStr (valD l))) ∧ Below w.heap.size w w' := by
  obtain ⟨b, cp, rfl, hb, hc⟩ := hI
  have HC := Lib.hid hc; have HL := Lib.hid hl; have HM := Lib.hid hsm
  clear hc hsm
  rw [hl]
  clear hl
  go_enter Tryz.func72, Tryz.ntmps72
  go_wp2_with fail
  go_loopw [3, 9] (TextRel w l) (fun _ i _ => 16 - (intOf i).toNat)
  case atStart => exact ⟨0, _, _, by omega, rfl, rfl, Byts.empty w _ (Nat.le_refl _), by go_grown⟩
  case round =>
    obtain ⟨k, g, cap, hk, rfl, rfl, hY, hB⟩ := hrel
    have hsz := hB.size
    rw [HL.out] at hk
    by_cases hlt : k < 16
    · have h1 : (k : Int) < 16 := by omega
      have hd := HM.out _ (List.getElem_mem (show k < l.length by rw [HL.out]; exact hlt))
      have hcell : wr.cell? ⟨b, k, none⟩ = some (.int .i64 (l[k]'(by rw [HL.out]; exact hlt))) := by
        rw [hB.cell (p := ⟨b, k, none⟩) hb]
        have := HC.out k (by rw [HL.out]; exact hlt)
        rw [this]; simp [List.getD, show k < l.length by rw [HL.out]; exact hlt]
      obtain ⟨d, hdd⟩ : ∃ d, d = l[k]'(by rw [HL.out]; exact hlt) := ⟨_, rfl⟩
      rw [← hdd] at hd hcell
      have HD := Lib.hid hdd
      clear hdd
      obtain ⟨d0, d1⟩ := hd
      have hlb : b < wr.heap.size := by omega
      have w1 : IntKind.u8.wrap (d % 256) = d % 256 := by rw [IntKind.wrap_u8]; omega
      have w2 : IntKind.u8.wrap (d / 256) = d / 256 := by rw [IntKind.wrap_u8]; omega
      have hfl : (lflat (l.take k)).length = 2 * k := by rw [flat_length, List.length_take, HL.out]; omega
      have HFL := Lib.hid hfl
      have HY := Lib.hid hY
      clear hfl hY
      go_wp2_with (at_builtin; refine append_two rfl _ _ rfl w.heap.size _ (lflat (l.take k)) (d % 256) (d / 256) wr.heap.size rfl ?c0 rfl ?c1 ?c2 ?c3 ?c4 ?_)
      case c0 => exact World.ownsRow.alloc HY.out _
      case c1 => simp
      case c2 => simp
      case c3 => rw [HFL.out]; omega
      case c4 => simp; omega
      intro g' cap' w' hY' hg'
      have hB' : Below w.heap.size w w' := (hB.alloc hsz _).grown hg' (by simp; omega) fun q hq => (World.ownsRow.lt HY.out q hq).1
      clear hg' hB
      have HY' := Lib.hid hY'
      clear hY'
      go_wp2_with fail
      refine ⟨⟨k + 1, g', cap', by rw [HL.out]; omega, by simp, by rw [HFL.out]; rfl, ?_, hB'⟩, by simp [intOf]; omega⟩
      have e : lflat (l.take (k + 1)) = lflat (l.take k) ++ [d % 256, d / 256] := by
        rw [List.take_succ_eq_append_getElem (by rw [HL.out]; exact hlt), flat_append, ← HD.out]; rfl
      rw [e]
      exact HY'.out
    · obtain rfl : k = 16 := by omega
      have et : l.take 16 = l := List.take_of_length_le (by rw [HL.out]; exact Nat.le_refl _)
      rw [et] at hY
      have hfl : (lflat l).length = 32 := by rw [flat_length, HL.out]
      have hcs : ∀ i, i < 32 → wr.cell? ⟨g, 0 + i, none⟩ = some (.int .u8 ((lflat l).getD i 0)) := fun i hi => by
        have hY2 : wr.ownsRow w.heap.size 5 1 (.slice (some ⟨g, 0, none⟩) 32 cap) 32 ((lflat l).map (Value.int .u8)) := by
          have := hY; unfold Byts at this; rw [hfl] at this; exact this
        have := World.ownsRow.cellAt hY2 i (by omega)
        rw [Nat.zero_add, this]
        simp [List.getD, show i < (lflat l).length by omega]
      have cv := run_convert_bytes_arg (P := Tryz.prog) wr 94 5 Tryz.underlying94 Tryz.underlying5 g 0 32 cap (lflat l) hfl hcs 9 Tryz.underlying9
      have ef : lflat l = bytesLE 32 (valD l) := by
        have := bytes_flat l HM.out; rw [HL.out] at this; exact this.symm
      rw [ef] at cv
      clear hcs hfl ef et hY
      go_wp2_with fail
      go_ret
      exact ⟨rfl, hB⟩
end Go.Proofs.YthjlhcmdpeinpaaGreatDoor

/- The contracts of the reference's functions over digits: carry. -/
namespace Go.Proofs.YthjlhcmdpeinpaaGreatDoor
set_option maxRecDepth 100000
open Go.RowKit
theorem valD_snoc (a : List Int) (d : Int) : valD (a ++ [d]) = valD a + d * 65536 ^ a.length := by
  induction a with
  | nil => simp [valD]
  | cons x r ih =>
    simp only [List.cons_append, valD, ih, List.length_cons, Int.pow_succ]
    grind
theorem small_snoc {a : List Int} {d : Int} (h : Small a) (h0 : 0 ≤ d) (h1 : d < 65536) : Small (a ++ [d]) := by
  intro x hx
  rcases List.mem_append.1 hx with hx | hx
  · exact h x hx
  · simp at hx; subst hx; exact ⟨h0, h1⟩

/-- what holds at the head of carry's loop: k digits are done -/
def CarryInv (l : List Int) (k : Nat) (out : List Int) (over : Int) : Prop := out.length = k ∧ Small out ∧ (0 ≤ over ∧ over ≤ 35184372088832) ∧ valD out + over * 65536 ^ k = valD (l.take k)
theorem carry_step {l : List Int} {k : Nat} {out : List Int} {over : Int} (hk : k < l.length) (h : CarryInv l k out over) (h0 : 0 ≤ l[k]) (h1 : l[k] ≤ 1152921504606846976) :
    CarryInv l (k + 1) (out ++ [(l[k] + over) % 65536]) ((l[k] + over) / 65536) := by
  obtain ⟨e1, e2, e3, e4⟩ := h
  refine ⟨by simp [e1], small_snoc e2 (by omega) (by omega), by omega, ?_⟩
  rw [List.take_succ_eq_append_getElem hk, valD_snoc, valD_snoc, List.length_take, Nat.min_eq_left (by omega), e1, ← e4, Int.pow_succ]
  have hq : l[k] + over = (l[k] + over) % 65536 + 65536 * ((l[k] + over) / 65536) := (Int.emod_add_mul_ediv _ _).symm
  generalize (l[k] + over) % 65536 = r at *
  generalize (l[k] + over) / 65536 = q at *
  generalize (65536 : Int) ^ k = p at *
  generalize l[k] = d at *
  generalize valD out = v at *
  have : over = r + 65536 * q - d := by omega
  rw [this]
  grind

def CarryRel (w : World) (l : List Int) (v o i : Value) (wr : World) : Prop := ∃ (k g cap : Nat) (out : List Int) (over : Int), k ≤ 16 ∧ i = .int .i64 k ∧ o = .int .i64 over ∧ v = .slice (some ⟨g, 0, none⟩) k cap ∧ CarryInv l k out over ∧ Ints wr (w.heap.size + 1) v out ∧
  Below (w.heap.size + 1) (w.alloc (.cells #[.slice none 0 0, .int .i64 0] 185)) wr

def CarryPost (l : List Int) (w : World) (e : Ending) (w' : World) : Prop := ∃ v out over, e = .returned (.agg #[v, .int .i64 over]) ∧ CarryInv l 16 out over ∧ Ints w' (w.heap.size + 1) v out ∧ Below w.heap.size w w'

set_option maxHeartbeats 1000000 in
theorem carry_any (v : Value) (l : List Int) (hl : l.length = 16) (hM : ∀ d ∈ l, 0 ≤ d ∧ d ≤ 1152921504606846976) (w : World) (hI : LIntsAt w v l) :
    Calls Tryz.prog 136 #[v] w (CarryPost l w) := by
  obtain ⟨b, cp, rfl, hb, hc⟩ := hI
  have HC := Lib.hid hc; have HL := Lib.hid hl; have HM := Lib.hid hM
  clear hc hM
  rw [hl]
  clear hl
  go_enter Tryz.func136, Tryz.ntmps136
  go_wp2_with fail
  go_loopw [3, 4, 10] (CarryRel w l) (fun _ _ i _ => 16 - (intOf i).toNat)
  case atStart =>
    refine ⟨0, _, _, [], 0, by omega, rfl, rfl, rfl, ⟨rfl, fun _ h => by simp at h, by omega, by simp [valD]⟩, ?_, by go_grown⟩
    have := Ints.empty (w.alloc (.cells #[.slice none 0 0, .int .i64 0] 185)) (w.heap.size + 1) (by simp)
    simpa using this
  case round =>
    obtain ⟨k, g, cap, out, over, hk, rfl, rfl, rfl, hinv, hI, hB⟩ := hrel
    have hsz := hB.size
    simp only [World.size_alloc] at hsz
    have HI := Lib.hid hI; have HV := Lib.hid hinv
    obtain ⟨o0, o1⟩ := hinv.2.2.1
    clear hI hinv
    by_cases hlt : k < 16
    · have h1 : (k : Int) < 16 := by omega
      have hlk : k < l.length := by rw [HL.out]; exact hlt
      have hd := HM.out _ (List.getElem_mem hlk)
      have hcell : wr.cell? ⟨b, k, none⟩ = some (.int .i64 l[k]) := by
        rw [hB.cell (p := ⟨b, k, none⟩) (show b < w.heap.size + 1 by omega), World.cell?_alloc_lt _ _ _ hb]
        have := HC.out k hlk
        rw [this]; simp [List.getD, hlk]
      have hst := carry_step hlk HV.out hd.1 hd.2
      have HST := Lib.hid hst
      clear hst
      generalize l[k] = d at *
      obtain ⟨d0, d1⟩ := hd
      have hlb : b < wr.heap.size := by omega
      have w1 : IntKind.i64.wrap (d + over) = d + over := IntWalk.i64_in _ (by omega)
      have w2 : (0 : Int) ≤ d + over := by omega
      have hol : out.length = k := HV.out.1
      have HOL := Lib.hid hol
      clear hol
      go_wp2_with (at_builtin; refine append_int rfl _ _ rfl (w.heap.size + 1) _ out ((d + over) % 65536) wr.heap.size rfl ?c0 rfl ?c1 ?c2 ?c3 ?_)
      case c0 => exact HI.out.alloc _
      case c1 => simp
      case c2 => rw [HOL.out]; omega
      case c3 => simp; omega
      intro g' cap' w' hI' hg'
      have hB' := HI.out.below_grown hB hsz hg'
      clear hg' hB
      have HI' := Lib.hid hI'
      clear hI'
      go_wp2_with fail
      refine ⟨⟨k + 1, g', cap', _, _, by omega, by simp, rfl, by rw [HOL.out], HST.out, HI'.out, hB'⟩, by simp [intOf]; omega⟩
    · obtain rfl : k = 16 := by omega
      have r0 : wr.cell? ⟨w.heap.size, 0, none⟩ = some (.slice none 0 0) := by rw [hB.cell (p := ⟨w.heap.size, 0, none⟩) (show w.heap.size < w.heap.size + 1 by omega)]; simp
      have r1 : wr.cell? ⟨w.heap.size, 1, none⟩ = some (.int .i64 0) := by rw [hB.cell (p := ⟨w.heap.size, 1, none⟩) (show w.heap.size < w.heap.size + 1 by omega)]; simp
      have f0 : wr.frozen? ⟨w.heap.size, 0, none⟩ = false := by rw [hB.frozen (p := ⟨w.heap.size, 0, none⟩) (show w.heap.size < w.heap.size + 1 by omega)]; simp
      have f1 : wr.frozen? ⟨w.heap.size, 1, none⟩ = false := by rw [hB.frozen (p := ⟨w.heap.size, 1, none⟩) (show w.heap.size < w.heap.size + 1 by omega)]; simp
      go_wp2_with fail
      refine bodyPost_ret (v := .agg #[.slice (some ⟨g, 0, none⟩) 16 cap, .int .i64 over]) (by simp [results, Tryz.results136, go_sem, r0, r1]) rfl ⟨_, out, over, rfl, HV.out, ?_, ?_⟩
      · exact ownsRow_setCell_below (ownsRow_setCell_below HI.out (by simp) _) (by simp) _
      · have hB0 : Below w.heap.size w wr := Below.trans (by go_grown) (hB.mono (by omega))
        exact (hB0.setCell (by simp) _).setCell (by simp) _
end Go.Proofs.YthjlhcmdpeinpaaGreatDoor

/- The contracts of the reference's functions over digits: less, least. -/
namespace Go.Proofs.YthjlhcmdpeinpaaGreatDoor
set_option maxRecDepth 100000
open Go.RowKit
theorem below_quiet {B : Nat} {a w : World} (h : Below B a w) (n : Nat) : Below B a (w.drewN n) := ⟨h.os, h.tape, h.output, h.size, h.block⟩
theorem valD_prime : valD primeDigits = Pr := by simp only [valD, primeDigits]; unfold Pr; omega
theorem prime_small_digits : Small primeDigits := by intro d hd; simp only [primeDigits, List.mem_cons, List.not_mem_nil, or_false] at hd; omega
theorem valD_range : ∀ l : List Int, Small l → 0 ≤ valD l ∧ valD l < 65536 ^ l.length
  | [], _ => by simp [valD]
  | d :: r, h => by
    have ih := valD_range r fun x hx => h x (List.mem_cons_of_mem _ hx)
    have hd := h d (List.mem_cons_self ..)
    simp only [valD, List.length_cons, Int.pow_succ]
    generalize (65536 : Int) ^ r.length = p at *
    omega
theorem small_take {l : List Int} (h : Small l) (k : Nat) : Small (l.take k) := fun d hd => h d (List.mem_of_mem_take hd)
theorem at_cell {w : World} {g : Nat} {l : List Int} (hc : ∀ j, j < l.length → w.cell? ⟨g, j, none⟩ = some (.int .i64 (l.getD j 0))) (k : Nat) (hk : k < l.length) : w.cell? ⟨g, k, none⟩ = some (.int .i64 l[k]) := by
  rw [hc k hk]; simp [List.getD, hk]

def LessInv (l : List Int) (k : Nat) (out : List Int) (borrow : Int) : Prop := out.length = k ∧ Small out ∧ (0 ≤ borrow ∧ borrow ≤ 1) ∧ valD out = valD (l.take k) - valD (primeDigits.take k) + borrow * 65536 ^ k
theorem less_step {l : List Int} {k : Nat} {out : List Int} {borrow : Int} (hk : k < l.length) (hp : k < primeDigits.length) (hs : Small l) (h : LessInv l k out borrow) :
    LessInv l (k + 1) (out ++ [(l[k] - primeDigits[k] - borrow + 65536) % 65536]) (1 - (l[k] - primeDigits[k] - borrow + 65536) / 65536) := by
  obtain ⟨e1, e2, e3, e4⟩ := h
  have hd := hs _ (List.getElem_mem hk)
  have hq := prime_small_digits _ (List.getElem_mem hp)
  refine ⟨by simp [e1], small_snoc e2 (by omega) (by omega), by omega, ?_⟩
  rw [List.take_succ_eq_append_getElem hk, List.take_succ_eq_append_getElem hp, valD_snoc, valD_snoc, valD_snoc, List.length_take, List.length_take, Nat.min_eq_left (by omega), Nat.min_eq_left (by omega), e1, e4, Int.pow_succ]
  have hq' : l[k] - primeDigits[k] - borrow + 65536 = (l[k] - primeDigits[k] - borrow + 65536) % 65536 + 65536 * ((l[k] - primeDigits[k] - borrow + 65536) / 65536) := (Int.emod_add_mul_ediv _ _).symm
  generalize (l[k] - primeDigits[k] - borrow + 65536) % 65536 = r at *
  generalize (l[k] - primeDigits[k] - borrow + 65536) / 65536 = q at *
  generalize (65536 : Int) ^ k = p at *
  generalize l[k] = d at *
  generalize primeDigits[k] = c at *
  have : borrow = d - c + 65536 - r - 65536 * q := by omega
  rw [this]
  grind

def LessRel (w : World) (l : List Int) (v o i : Value) (wr : World) : Prop := ∃ (k g cap : Nat) (out : List Int) (borrow : Int), k ≤ 16 ∧ i = .int .i64 k ∧ o = .int .i64 borrow ∧ v = .slice (some ⟨g, 0, none⟩) k cap ∧ LessInv l k out borrow ∧ Ints wr w.heap.size v out ∧ Below w.heap.size w wr
theorem prime_length : primeDigits.length = 16 := rfl

def LessPost (l : List Int) (w : World) (e : Ending) (w' : World) : Prop := ∃ v out borrow, e = .returned v ∧ LessInv l 16 out borrow ∧ Ints w' w.heap.size v out ∧ Below w.heap.size w w'

set_option maxHeartbeats 1000000 in
theorem less_any (v : Value) (l : List Int) (hl : l.length = 16) (hsm : Small l) (w : World) (hI : LIntsAt w v l) :
    Calls Tryz.prog 138 #[v] w (LessPost l w) := by
  obtain ⟨b, cp, rfl, hb, hc⟩ := hI
  have HC := Lib.hid hc; have HL := Lib.hid hl; have HM := Lib.hid hsm
  clear hc hsm
  rw [hl]
  clear hl
  go_enter Tryz.func138, Tryz.ntmps138
  go_wp2_with fail
  refine (refPrime_any _).mono ?_
  rintro e w1 ⟨pv, rfl, hP, hB1⟩
  obtain ⟨pb, pc, rfl, hpb, hpc⟩ := hP.at (by decide)
  have HP := Lib.hid hpc; have HB1 := Lib.hid hB1
  have hsz1 := hB1.size
  clear hpc hP hB1
  rw [prime_length]
  go_wp2_with fail
  go_loopw [4, 5, 6] (LessRel w1 l) (fun _ _ i _ => 16 - (intOf i).toNat)
  case atStart => exact ⟨0, _, _, [], 0, by omega, rfl, rfl, rfl, ⟨rfl, fun _ h => by simp at h, by omega, by simp [valD]⟩, Ints.empty w1 _ (Nat.le_refl _), by go_grown⟩
  case round =>
    obtain ⟨k, g, cap, out, borrow, hk, rfl, rfl, rfl, hinv, hI, hB⟩ := hrel
    have hsz := hB.size
    have HI := Lib.hid hI; have HV := Lib.hid hinv
    obtain ⟨o0, o1⟩ := hinv.2.2.1
    clear hI hinv
    by_cases hlt : k < 16
    · have h1 : (k : Int) < 16 := by omega
      have hlk : k < l.length := by rw [HL.out]; exact hlt
      have hpk : k < primeDigits.length := by rw [prime_length]; exact hlt
      have hd := HM.out _ (List.getElem_mem hlk)
      have hq := prime_small_digits _ (List.getElem_mem hpk)
      have hcell : wr.cell? ⟨b, k, none⟩ = some (.int .i64 l[k]) := by
        rw [hB.cell (p := ⟨b, k, none⟩) (show b < w1.heap.size by omega), HB1.out.cell (p := ⟨b, k, none⟩) hb]
        exact at_cell HC.out k hlk
      have hpcell : wr.cell? ⟨pb, k, none⟩ = some (.int .i64 primeDigits[k]) := by
        rw [hB.cell (p := ⟨pb, k, none⟩) hpb]
        exact at_cell HP.out k hpk
      have hst := less_step hlk hpk HM.out HV.out
      rw [show (l[k] - primeDigits[k] - borrow + 65536) % 65536 = (l[k] - primeDigits[k] - borrow) % 65536 from Int.add_emod_right ..] at hst
      have HST := Lib.hid hst
      clear hst
      generalize l[k] = d at *
      generalize primeDigits[k] = c at *
      obtain ⟨d0, d1⟩ := hd
      obtain ⟨q0, q1⟩ := hq
      have hlb : b < wr.heap.size := by omega
      have hlpb : pb < wr.heap.size := by omega
      have w1' : IntKind.i64.wrap (d - c) = d - c := IntWalk.i64_in _ (by omega)
      have w2' : IntKind.i64.wrap (d - c - borrow) = d - c - borrow := IntWalk.i64_in _ (by omega)
      have w3' : IntKind.i64.wrap (d - c - borrow + 65536) = d - c - borrow + 65536 := IntWalk.i64_in _ (by omega)
      have w4' : (0 : Int) ≤ d - c - borrow + 65536 := by omega
      have w5' : IntKind.i64.wrap (1 - (d - c - borrow + 65536) / 65536) = 1 - (d - c - borrow + 65536) / 65536 := IntWalk.i64_in _ (by omega)
      have hol : out.length = k := HV.out.1
      have HOL := Lib.hid hol
      clear hol
      go_wp2_with fail
      go_quiet (fail)
      go_wp2_with (at_builtin; refine append_int rfl _ _ rfl w1.heap.size _ out ((d - c - borrow) % 65536) wr.heap.size rfl ?c0 rfl ?c1 ?c2 ?c3 ?_)
      case c0 => exact Ints.alloc (w := wr.drewN _) HI.out _
      case c1 => exact World.cell?_alloc_new (wr.drewN _) _ _ 0
      case c2 => rw [HOL.out]; omega
      case c3 => simp; omega
      intro g' cap' w' hI' hg'
      have hB' := Ints.below_grown (wr := wr.drewN _) HI.out (below_quiet hB _) hsz hg'
      clear hg' hB
      have HI' := Lib.hid hI'
      clear hI'
      go_wp2_with fail
      refine ⟨⟨k + 1, g', cap', _, _, by omega, by simp, rfl, by rw [HOL.out], HST.out, HI'.out, hB'⟩, by simp [intOf]; omega⟩
    · obtain rfl : k = 16 := by omega
      go_wp2_with fail
      go_ret
      exact ⟨_, out, borrow, rfl, HV.out, World.ownsRow.mono HI.out hsz1, HB1.out.trans (hB.mono hsz1)⟩
end Go.Proofs.YthjlhcmdpeinpaaGreatDoor

/- The contracts of the reference's functions over digits: least. -/
namespace Go.Proofs.YthjlhcmdpeinpaaGreatDoor
set_option maxRecDepth 100000
open Go.RowKit
theorem valD_append (a : List Int) : ∀ b, valD (a ++ b) = valD a + 65536 ^ a.length * valD b := by
  induction a with
  | nil => intro b; simp [valD]
  | cons x r ih =>
    intro b
    simp only [List.cons_append, valD, ih, List.length_cons, Int.pow_succ]
    grind
theorem valD_at (l : List Int) (j : Nat) (hj : j < l.length) : valD l = valD (l.take j) + 65536 ^ j * (l[j] + 65536 * valD (l.drop (j + 1))) := by
  have e : l = l.take j ++ (l[j] :: l.drop (j + 1)) := by rw [← List.drop_eq_getElem_cons hj, List.take_append_drop]
  have := congrArg valD e
  rw [valD_append, List.length_take, Nat.min_eq_left (by omega)] at this
  exact this
theorem lex_cmp {l : List Int} (hs : Small l) (j : Nat) (hj : j < l.length) (hp : j < primeDigits.length) (hd : l.drop (j + 1) = primeDigits.drop (j + 1)) (hne : l[j] ≠ primeDigits[j]) :
    decide (Pr ≤ valD l) = decide (primeDigits[j] < l[j]) := by
  have e1 := valD_at l j hj
  have e2 := valD_at primeDigits j hp
  rw [valD_prime] at e2
  rw [hd] at e1
  have r1 := valD_range (l.take j) (small_take hs j)
  have r2 := valD_range (primeDigits.take j) (small_take prime_small_digits j)
  rw [List.length_take, Nat.min_eq_left (by omega)] at r1 r2
  rw [e1, e2]
  generalize valD (l.take j) = a at *
  generalize valD (primeDigits.take j) = b at *
  generalize valD (primeDigits.drop (j + 1)) = t at *
  generalize l[j] = x at *
  generalize primeDigits[j] = y at *
  have hp0 : (0 : Int) < 65536 ^ j := Int.pow_pos (by omega)
  generalize (65536 : Int) ^ j = p at *
  clear e1 e2 hd
  rw [Int.mul_add, Int.mul_add]
  generalize p * (65536 * t) = z at *
  by_cases h : y < x
  · have h1 : p * y + p ≤ p * x := by
      have := Int.mul_le_mul_of_nonneg_left (show y + 1 ≤ x by omega) (Int.le_of_lt hp0)
      rw [Int.mul_add, Int.mul_one] at this
      exact this
    rw [decide_eq_true h, decide_eq_true (by omega)]
  · have h1 : p * x + p ≤ p * y := by
      have := Int.mul_le_mul_of_nonneg_left (show x + 1 ≤ y by omega) (Int.le_of_lt hp0)
      rw [Int.mul_add, Int.mul_one] at this
      exact this
    rw [decide_eq_false h, decide_eq_false (by omega)]

def LeastRel (w : World) (l : List Int) (v : Value) (wr : World) : Prop := ∃ i : Int, (-1 ≤ i ∧ i ≤ 15) ∧ v = .int .i64 i ∧ l.drop (i + 1).toNat = primeDigits.drop (i + 1).toNat ∧ Below w.heap.size w wr

set_option maxHeartbeats 1000000 in
theorem least_any (v : Value) (l : List Int) (hl : l.length = 16) (hsm : Small l) (w : World) (hI : LIntsAt w v l) :
    Calls Tryz.prog 137 #[v] w fun e w' => e = .returned (.bool (decide (Pr ≤ valD l))) ∧ Below w.heap.size w w' := by
  obtain ⟨b, cp, rfl, hb, hc⟩ := hI
  have HC := Lib.hid hc; have HL := Lib.hid hl; have HM := Lib.hid hsm
  clear hc hsm
  rw [hl]
  clear hl
  obtain ⟨r, hr⟩ : ∃ r, r = decide (Pr ≤ valD l) := ⟨_, rfl⟩
  rw [← hr]
  have HR := Lib.hid hr
  clear hr
  go_enter Tryz.func137, Tryz.ntmps137
  go_wp2_with fail
  refine (refPrime_any _).mono ?_
  rintro e w1 ⟨pv, rfl, hP, hB1⟩
  obtain ⟨pb, pc, rfl, hpb, hpc⟩ := hP.at (by decide)
  have HP := Lib.hid hpc; have HB1 := Lib.hid hB1
  have hsz1 := hB1.size
  clear hpc hP hB1
  rw [prime_length]
  go_wp2_with fail
  go_loopw [4] (LeastRel w1 l) (fun i _ => (intOf i + 1).toNat)
  case atStart => exact ⟨15, by omega, rfl, by rw [show ((15 : Int) + 1).toNat = 16 from rfl, List.drop_of_length_le (by rw [HL.out]; exact Nat.le_refl _)]; rfl, by go_grown⟩
  case round =>
    obtain ⟨i, hi, rfl, hdr, hB⟩ := hrel
    have HD := Lib.hid hdr
    have hsz := hB.size
    clear hdr
    obtain ⟨i0, i1⟩ := hi
    by_cases h0 : 0 ≤ i
    · obtain ⟨j, rfl⟩ := Int.eq_ofNat_of_zero_le h0
      have hj : j < 16 := by omega
      have hlj : j < l.length := by rw [HL.out]; exact hj
      have hpj : j < primeDigits.length := by rw [prime_length]; exact hj
      have hd := HM.out _ (List.getElem_mem hlj)
      have hcell : wr.cell? ⟨b, j, none⟩ = some (.int .i64 l[j]) := by
        rw [hB.cell (p := ⟨b, j, none⟩) (show b < w1.heap.size by omega), HB1.out.cell (p := ⟨b, j, none⟩) hb]
        exact at_cell HC.out j hlj
      have hpcell : wr.cell? ⟨pb, j, none⟩ = some (.int .i64 primeDigits[j]) := by
        rw [hB.cell (p := ⟨pb, j, none⟩) hpb]
        exact at_cell HP.out j hpj
      have hlb : b < wr.heap.size := by omega
      have hlpb : pb < wr.heap.size := by omega
      have h16 : (j : Int) < 16 := by omega
      have hdd : l.drop (j + 1) = primeDigits.drop (j + 1) := by have := HD.out; rwa [show ((j : Int) + 1).toNat = j + 1 by omega] at this
      by_cases hne : l[j] = primeDigits[j]
      · have hb1 : (l[j] != primeDigits[j]) = false := by rw [bne_eq_false_iff_eq]; exact hne
        have hb2 : (l[j] == primeDigits[j]) = true := by rw [beq_iff_eq]; exact hne
        have HN : Hid (l.drop j = primeDigits.drop j) := by
          show l.drop j = primeDigits.drop j
          rw [List.drop_eq_getElem_cons hlj, List.drop_eq_getElem_cons hpj, hne, hdd]
        clear hne hdd
        generalize l[j] = x at *
        generalize primeDigits[j] = y at *
        go_wp2_with fail
        go_quiet (fail)
        go_wp2_with fail
        refine ⟨⟨(j : Int) - 1, by omega, rfl, ?_, below_quiet hB _⟩, by simp [intOf]⟩
        rw [show ((j : Int) - 1 + 1).toNat = j by omega]
        exact HN.out
      · have hlex := lex_cmp HM.out j hlj hpj hdd hne
        rw [← HR.out] at hlex
        have hb1 : (l[j] != primeDigits[j]) = true := by rw [bne_iff_ne]; exact hne
        have hb2 : (l[j] == primeDigits[j]) = false := by rw [beq_eq_false_iff_ne]; exact hne
        have HX := Lib.hid hlex
        clear hlex hdd hne
        generalize l[j] = x at *
        generalize primeDigits[j] = y at *
        go_wp2_with fail
        go_quiet (fail)
        go_wp2_with fail
        go_quiet (fail)
        go_wp2_with fail
        go_ret
        refine ⟨?_, HB1.out.trans ((below_quiet (below_quiet hB _) _).mono hsz1)⟩
        rw [HX.out]
        rfl
    · obtain rfl : i = -1 := by omega
      go_wp2_with fail
      go_ret
      have e : l = primeDigits := by have := HD.out; simpa using this
      have hr : r = true := by rw [HR.out, e, valD_prime]; simp
      rw [hr]
      exact ⟨rfl, HB1.out.trans (hB.mono hsz1)⟩
end Go.Proofs.YthjlhcmdpeinpaaGreatDoor
