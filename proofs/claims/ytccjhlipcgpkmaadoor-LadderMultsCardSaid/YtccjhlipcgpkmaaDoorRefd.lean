/- The contracts of the reference's functions over digits: carry. -/
import Derived.Test.YtccjhlipcgpkmaaDoorRefc
namespace Go.Proofs.YtccjhlipcgpkmaaDoor
open Go.RowKit

theorem valD_snoc (a : List Int) (d : Int) : valD (a ++ [d]) = valD a + d * 65536 ^ a.length := by
  induction a with
  | nil => simp [valD]
  | cons x r ih =>
    simp only [List.cons_append, valD, ih, List.length_cons, Int.pow_succ]
    grind
theorem small_snoc {a : List Int} {d : Int} (h : Small a) (h0 : 0 ≤ d) (h1 : d < 65536) : Small (a ++ [d]) := by
  intro x hx
  rcases List.mem_append.1 hx with hx | hx
  · exact h x hx
  · simp at hx; subst hx; exact ⟨h0, h1⟩

/-- what holds at the head of carry's loop: k digits are done -/
def CarryInv (l : List Int) (k : Nat) (out : List Int) (over : Int) : Prop := out.length = k ∧ Small out ∧ (0 ≤ over ∧ over ≤ 35184372088832) ∧ valD out + over * 65536 ^ k = valD (l.take k)
theorem carry_step {l : List Int} {k : Nat} {out : List Int} {over : Int} (hk : k < l.length) (h : CarryInv l k out over) (h0 : 0 ≤ l[k]) (h1 : l[k] ≤ 1152921504606846976) :
    CarryInv l (k + 1) (out ++ [(l[k] + over) % 65536]) ((l[k] + over) / 65536) := by
  obtain ⟨e1, e2, e3, e4⟩ := h
  refine ⟨by simp [e1], small_snoc e2 (by omega) (by omega), by omega, ?_⟩
  rw [List.take_succ_eq_append_getElem hk, valD_snoc, valD_snoc, List.length_take, Nat.min_eq_left (by omega), e1, ← e4, Int.pow_succ]
  have hq : l[k] + over = (l[k] + over) % 65536 + 65536 * ((l[k] + over) / 65536) := (Int.emod_add_mul_ediv _ _).symm
  generalize (l[k] + over) % 65536 = r at *
  generalize (l[k] + over) / 65536 = q at *
  generalize (65536 : Int) ^ k = p at *
  generalize l[k] = d at *
  generalize valD out = v at *
  have : over = r + 65536 * q - d := by omega
  rw [this]
  grind

def CarryRel (w : World) (l : List Int) (v o i : Value) (wr : World) : Prop := ∃ (k g cap : Nat) (out : List Int) (over : Int), k ≤ 16 ∧ i = .int .i64 k ∧ o = .int .i64 over ∧ v = .slice (some ⟨g, 0, none⟩) k cap ∧ CarryInv l k out over ∧ Ints wr (w.heap.size + 1) v out ∧
  Below (w.heap.size + 1) (w.alloc (.cells #[.slice none 0 0, .int .i64 0] 54)) wr

def CarryPost (l : List Int) (w : World) (e : Ending) (w' : World) : Prop := ∃ v out over, e = .returned (.agg #[v, .int .i64 over]) ∧ CarryInv l 16 out over ∧ Ints w' (w.heap.size + 1) v out ∧ Below w.heap.size w w'

set_option maxHeartbeats 1000000 in
theorem carry_any (v : Value) (l : List Int) (hl : l.length = 16) (hM : ∀ d ∈ l, 0 ≤ d ∧ d ≤ 1152921504606846976) (w : World) (hI : IntsAt w v l) :
    Calls Tryd.prog 40 #[v] w (CarryPost l w) := by
  obtain ⟨b, cp, rfl, hb, hc⟩ := hI
  have HC := Lib.hid hc; have HL := Lib.hid hl; have HM := Lib.hid hM
  clear hc hM
  rw [hl]
  clear hl
  go_enter Tryd.func40, Tryd.ntmps40
  go_wp2_with fail
  go_loopw [3, 4, 10] (CarryRel w l) (fun _ _ i _ => 16 - (intOf i).toNat)
  case atStart =>
    refine ⟨0, _, _, [], 0, by omega, rfl, rfl, rfl, ⟨rfl, fun _ h => by simp at h, by omega, by simp [valD]⟩, ?_, by go_grown⟩
    have := Ints.empty (w.alloc (.cells #[.slice none 0 0, .int .i64 0] 54)) (w.heap.size + 1) (by simp)
    simpa using this
  case round =>
    obtain ⟨k, g, cap, out, over, hk, rfl, rfl, rfl, hinv, hI, hB⟩ := hrel
    have hsz := hB.size
    simp only [World.size_alloc] at hsz
    have HI := Lib.hid hI; have HV := Lib.hid hinv
    obtain ⟨o0, o1⟩ := hinv.2.2.1
    clear hI hinv
    by_cases hlt : k < 16
    · have h1 : (k : Int) < 16 := by omega
      have hlk : k < l.length := by rw [HL.out]; exact hlt
      have hd := HM.out _ (List.getElem_mem hlk)
      have hcell : wr.cell? ⟨b, k, none⟩ = some (.int .i64 l[k]) := by
        rw [hB.cell (p := ⟨b, k, none⟩) (show b < w.heap.size + 1 by omega), World.cell?_alloc_lt _ _ _ hb]
        have := HC.out k hlk
        rw [this]; simp [List.getD, hlk]
      have hst := carry_step hlk HV.out hd.1 hd.2
      have HST := Lib.hid hst
      clear hst
      generalize l[k] = d at *
      obtain ⟨d0, d1⟩ := hd
      have hlb : b < wr.heap.size := by omega
      have w1 : IntKind.i64.wrap (d + over) = d + over := IntWalk.i64_in _ (by omega)
      have w2 : (0 : Int) ≤ d + over := by omega
      have hol : out.length = k := HV.out.1
      have HOL := Lib.hid hol
      clear hol
      go_wp2_with (at_builtin; refine append_int rfl _ _ rfl (w.heap.size + 1) _ out ((d + over) % 65536) wr.heap.size rfl ?c0 rfl ?c1 ?c2 ?c3 ?_)
      case c0 => exact HI.out.alloc _
      case c1 => simp
      case c2 => rw [HOL.out]; omega
      case c3 => simp; omega
      intro g' cap' w' hI' hg'
      have hB' := HI.out.below_grown hB hsz hg'
      clear hg' hB
      have HI' := Lib.hid hI'
      clear hI'
      go_wp2_with fail
      refine ⟨⟨k + 1, g', cap', _, _, by omega, by simp, rfl, by rw [HOL.out], HST.out, HI'.out, hB'⟩, by simp [intOf]; omega⟩
    · obtain rfl : k = 16 := by omega
      have r0 : wr.cell? ⟨w.heap.size, 0, none⟩ = some (.slice none 0 0) := by rw [hB.cell (p := ⟨w.heap.size, 0, none⟩) (show w.heap.size < w.heap.size + 1 by omega)]; simp
      have r1 : wr.cell? ⟨w.heap.size, 1, none⟩ = some (.int .i64 0) := by rw [hB.cell (p := ⟨w.heap.size, 1, none⟩) (show w.heap.size < w.heap.size + 1 by omega)]; simp
      have f0 : wr.frozen? ⟨w.heap.size, 0, none⟩ = false := by rw [hB.frozen (p := ⟨w.heap.size, 0, none⟩) (show w.heap.size < w.heap.size + 1 by omega)]; simp
      have f1 : wr.frozen? ⟨w.heap.size, 1, none⟩ = false := by rw [hB.frozen (p := ⟨w.heap.size, 1, none⟩) (show w.heap.size < w.heap.size + 1 by omega)]; simp
      go_wp2_with fail
      refine bodyPost_ret (v := .agg #[.slice (some ⟨g, 0, none⟩) 16 cap, .int .i64 over]) (by simp [results, Tryd.results40, go_sem, r0, r1]) rfl ⟨_, out, over, rfl, HV.out, ?_, ?_⟩
      · exact ownsRow_setCell_below (ownsRow_setCell_below HI.out (by simp) _) (by simp) _
      · have hB0 : Below w.heap.size w wr := Below.trans (by go_grown) (hB.mono (by omega))
        exact (hB0.setCell (by simp) _).setCell (by simp) _
end Go.Proofs.YtccjhlipcgpkmaaDoor
