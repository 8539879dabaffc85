/- The contracts of the reference's functions over digits: Text. -/
import Derived.Test.YtccjhlipcgpkmaaDoorRefb
import Derived.Test.YtccjhlipcgpkmaaDoorBytes
namespace Go.Proofs.YtccjhlipcgpkmaaDoor
open Go.RowKit

/-- a slice of ints that lies in memory and reads as l -/
def IntsAt (w : World) (v : Value) (l : List Int) : Prop := ∃ g cap, v = .slice (some ⟨g, 0, none⟩) l.length cap ∧ g < w.heap.size ∧ ∀ j, j < l.length → w.cell? ⟨g, j, none⟩ = some (.int .i64 (l.getD j 0))
theorem Ints.at {w : World} {base : Nat} {v : Value} {l : List Int} (h : Ints w base v l) (hl : 0 < l.length) : IntsAt w v l := by
  obtain ⟨g, cap, rfl, -, hg⟩ := World.ownsRow.form h hl
  refine ⟨g, cap, rfl, hg, fun j hj => ?_⟩
  have := World.ownsRow.cellAt h j (by omega)
  rw [this]
  simp [List.getD, hj]
theorem IntsAt.below {n : Nat} {w w' : World} {v : Value} {l : List Int} (h : IntsAt w v l) (hb : Below n w w') (hn : w.heap.size ≤ n) : IntsAt w' v l := by
  obtain ⟨g, cap, rfl, hg, hc⟩ := h
  exact ⟨g, cap, rfl, Nat.lt_of_lt_of_le hg hb.size, fun j hj => by rw [hb.cell (p := ⟨g, j, none⟩) (by show g < n; omega)]; exact hc j hj⟩

/-- what digits of 16 bits tell -/
def valD : List Int → Int
  | [] => 0
  | d :: r => d + 65536 * valD r
def Small (l : List Int) : Prop := ∀ d ∈ l, 0 ≤ d ∧ d < 65536
def flat : List Int → List Int
  | [] => []
  | d :: r => d % 256 :: d / 256 :: flat r
theorem flat_append (a : List Int) : ∀ b, flat (a ++ b) = flat a ++ flat b := by
  induction a with
  | nil => intro b; rfl
  | cons d r ih => intro b; simp [flat, ih]
theorem flat_length (a : List Int) : (flat a).length = 2 * a.length := by
  induction a with
  | nil => rfl
  | cons d r ih => simp [flat, ih]; omega
theorem bytes_flat : ∀ l : List Int, Small l → bytesLE (2 * l.length) (valD l) = flat l
  | [], _ => rfl
  | d :: r, h => by
    have hd := h d (List.mem_cons_self ..)
    have ih := bytes_flat r fun x hx => h x (List.mem_cons_of_mem _ hx)
    rw [List.length_cons, show 2 * (r.length + 1) = 2 * r.length + 1 + 1 by omega]
    simp only [bytesLE, valD, flat]
    have e1 : (d + 65536 * valD r) % 256 = d % 256 := by omega
    have e2 : (d + 65536 * valD r) / 256 = d / 256 + 256 * valD r := by omega
    have e3 : (d / 256 + 256 * valD r) % 256 = d / 256 := by omega
    have e4 : (d / 256 + 256 * valD r) / 256 = valD r := by omega
    rw [e1, e2, e3, e4, ih]

def Byts (w : World) (base : Nat) (v : Value) (l : List Int) : Prop := w.ownsRow base 5 1 v l.length (l.map (Value.int .u8))
theorem infoByte : (Tryd.prog.info? 5).map (fun i => (i.zero, i.size, i.bytes)) = some (some (.int .u8 0), 1, 1) := by kernel_rfl
theorem Byts.empty (w : World) (base : Nat) (hb : base ≤ w.heap.size) : Byts (w.alloc (.cells #[] 5)) base (.slice (some ⟨w.heap.size, 0, none⟩) 0 0) [] :=
  World.ownsRow_lit w #[] 0 hb (by decide) rfl

theorem append_two {ops : Array Oper} {rest : List Oper} {o : Oper} {a : Act} {Q : Exit → Act → World → Prop} {w : World} (hgd : o.guard = none) (s x : Operand)
    (ho : o.op = .call { callee := .builtin .append, args := #[s, x], argTypes := #[43, 43] })
    (base : Nat) (v : Value) (l : List Int) (y z : Int) (B : Nat) (hs : a.eval s = v) (hown : Byts w base v l) (hx : a.eval x = .slice (some ⟨B, 0, none⟩) 2 2)
    (hc : w.cell? ⟨B, 0, none⟩ = some (.int .u8 y)) (hc' : w.cell? ⟨B, 1, none⟩ = some (.int .u8 z)) (hl : l.length ≤ 1000) (hbase : base ≤ w.heap.size)
    (h : ∀ g cap w', Byts w' base (.slice (some ⟨g, 0, none⟩) (l.length + 2) cap) (l ++ [y, z]) → w.grownBy w' v.ownBlock → wpList Tryd.prog ops Q rest (a.put o.dst (.slice (some ⟨g, 0, none⟩) (l.length + 2) cap)) w') :
    wpList Tryd.prog ops Q (o :: rest) a w := by
  obtain ⟨i0, hi, hz0, hz1, hz2⟩ := info_parts infoByte
  refine wpList_append_own w hgd s x 43 ho base 5 i0 (.int .u8 0) 1 1 Tryd.underlying43 hi hz0 hz1 hz2 rfl (by decide) v l.length (l.map (Value.int .u8)) hs hown ⟨B, 0, none⟩ 2 2 [.int .u8 y, .int .u8 z] hx rfl ?_ ?_ (by unfold maxLen; omega) (by omega) hbase ?_
  · intro j u hu
    rcases j with _ | _ | j
    · simp at hu; subst hu; simpa [Addr.add] using hc
    · simp at hu; subst hu; simpa [Addr.add] using hc'
    · simp at hu
  · intro u hu; simp at hu; rcases hu with rfl | rfl <;> rfl
  · intro v' w' ho' hg _
    obtain ⟨g, cap, rfl, -, -⟩ := World.ownsRow.form ho' (by omega)
    exact h g cap w' (by unfold Byts; simpa using ho') hg

def TextRel (w : World) (l : List Int) (v i : Value) (wr : World) : Prop := ∃ k g cap : Nat, k ≤ l.length ∧ i = .int .i64 k ∧ v = .slice (some ⟨g, 0, none⟩) (2 * k) cap ∧ Byts wr w.heap.size v (flat (l.take k)) ∧ Below w.heap.size w wr

set_option maxHeartbeats 1000000 in
theorem text_any (v : Value) (l : List Int) (hl : l.length = 16) (hsm : Small l) (w : World) (hI : IntsAt w v l) :
    Calls Tryd.prog 14 #[v] w fun e w' => e = .returned (.string (leStr (valD l))) ∧ Below w.heap.size w w' := by
  obtain ⟨b, cp, rfl, hb, hc⟩ := hI
  have HC := Lib.hid hc; have HL := Lib.hid hl; have HM := Lib.hid hsm
  clear hc hsm
  rw [hl]
  clear hl
  go_enter Tryd.func14, Tryd.ntmps14
  go_wp2_with fail
  go_loopw [3, 9] (TextRel w l) (fun _ i _ => 16 - (intOf i).toNat)
  case atStart => exact ⟨0, _, _, by omega, rfl, rfl, Byts.empty w _ (Nat.le_refl _), by go_grown⟩
  case round =>
    obtain ⟨k, g, cap, hk, rfl, rfl, hY, hB⟩ := hrel
    have hsz := hB.size
    rw [HL.out] at hk
    by_cases hlt : k < 16
    · have h1 : (k : Int) < 16 := by omega
      have hd := HM.out _ (List.getElem_mem (show k < l.length by rw [HL.out]; exact hlt))
      have hcell : wr.cell? ⟨b, k, none⟩ = some (.int .i64 (l[k]'(by rw [HL.out]; exact hlt))) := by
        rw [hB.cell (p := ⟨b, k, none⟩) hb]
        have := HC.out k (by rw [HL.out]; exact hlt)
        rw [this]; simp [List.getD, show k < l.length by rw [HL.out]; exact hlt]
      obtain ⟨d, hdd⟩ : ∃ d, d = l[k]'(by rw [HL.out]; exact hlt) := ⟨_, rfl⟩
      rw [← hdd] at hd hcell
      have HD := Lib.hid hdd
      clear hdd
      obtain ⟨d0, d1⟩ := hd
      have hlb : b < wr.heap.size := by omega
      have w1 : IntKind.u8.wrap (d % 256) = d % 256 := by rw [IntKind.wrap_u8]; omega
      have w2 : IntKind.u8.wrap (d / 256) = d / 256 := by rw [IntKind.wrap_u8]; omega
      have hfl : (flat (l.take k)).length = 2 * k := by rw [flat_length, List.length_take, HL.out]; omega
      have HFL := Lib.hid hfl
      have HY := Lib.hid hY
      clear hfl hY
      go_wp2_with (at_builtin; refine append_two rfl _ _ rfl w.heap.size _ (flat (l.take k)) (d % 256) (d / 256) wr.heap.size rfl ?c0 rfl ?c1 ?c2 ?c3 ?c4 ?_)
      case c0 => exact World.ownsRow.alloc HY.out _
      case c1 => simp
      case c2 => simp
      case c3 => rw [HFL.out]; omega
      case c4 => simp; omega
      intro g' cap' w' hY' hg'
      have hB' : Below w.heap.size w w' := (hB.alloc hsz _).grown hg' (by simp; omega) fun q hq => (World.ownsRow.lt HY.out q hq).1
      clear hg' hB
      have HY' := Lib.hid hY'
      clear hY'
      go_wp2_with fail
      refine ⟨⟨k + 1, g', cap', by rw [HL.out]; omega, by simp, by rw [HFL.out]; rfl, ?_, hB'⟩, by simp [intOf]; omega⟩
      have e : flat (l.take (k + 1)) = flat (l.take k) ++ [d % 256, d / 256] := by
        rw [List.take_succ_eq_append_getElem (by rw [HL.out]; exact hlt), flat_append, ← HD.out]; rfl
      rw [e]
      exact HY'.out
    · obtain rfl : k = 16 := by omega
      have et : l.take 16 = l := List.take_of_length_le (by rw [HL.out]; exact Nat.le_refl _)
      rw [et] at hY
      have hfl : (flat l).length = 32 := by rw [flat_length, HL.out]
      have hcs : ∀ i, i < 32 → wr.cell? ⟨g, 0 + i, none⟩ = some (.int .u8 ((flat l).getD i 0)) := fun i hi => by
        have hY2 : wr.ownsRow w.heap.size 5 1 (.slice (some ⟨g, 0, none⟩) 32 cap) 32 ((flat l).map (Value.int .u8)) := by
          have := hY; unfold Byts at this; rw [hfl] at this; exact this
        have := World.ownsRow.cellAt hY2 i (by omega)
        rw [Nat.zero_add, this]
        simp [List.getD, show i < (flat l).length by omega]
      have cv := run_convert_bytes_arg (P := Tryd.prog) wr 43 5 Tryd.underlying43 Tryd.underlying5 g 0 32 cap (flat l) hfl hcs 9 Tryd.underlying9
      have ef : flat l = bytesLE 32 (valD l) := by
        have := bytes_flat l HM.out; rw [HL.out] at this; exact this.symm
      rw [ef] at cv
      clear hcs hfl ef et hY
      go_wp2_with fail
      go_ret
      exact ⟨rfl, hB⟩
end Go.Proofs.YtccjhlipcgpkmaaDoor
