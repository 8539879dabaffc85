/- The contracts of the reference's functions over digits: less, least. -/
import Derived.Test.YtccjhlipcgpkmaaDoorRefd
import Derived.Test.YtccjhlipcgpkmaaDoorNum
import Derived.Deep.QuietTactic
import Derived.BigQuiet
import Derived.Deep.Onto
namespace Go.Proofs.YtccjhlipcgpkmaaDoor
open Go.RowKit

theorem below_quiet {B : Nat} {a w : World} (h : Below B a w) (n : Nat) : Below B a (w.drewN n) := ⟨h.os, h.tape, h.output, h.size, h.block⟩
theorem valD_prime : valD primeDigits = Pr := by simp only [valD, primeDigits]; unfold Pr; omega
theorem prime_small_digits : Small primeDigits := by intro d hd; simp only [primeDigits, List.mem_cons, List.not_mem_nil, or_false] at hd; omega
theorem valD_range : ∀ l : List Int, Small l → 0 ≤ valD l ∧ valD l < 65536 ^ l.length
  | [], _ => by simp [valD]
  | d :: r, h => by
    have ih := valD_range r fun x hx => h x (List.mem_cons_of_mem _ hx)
    have hd := h d (List.mem_cons_self ..)
    simp only [valD, List.length_cons, Int.pow_succ]
    generalize (65536 : Int) ^ r.length = p at *
    omega
theorem small_take {l : List Int} (h : Small l) (k : Nat) : Small (l.take k) := fun d hd => h d (List.mem_of_mem_take hd)
theorem at_cell {w : World} {g : Nat} {l : List Int} (hc : ∀ j, j < l.length → w.cell? ⟨g, j, none⟩ = some (.int .i64 (l.getD j 0))) (k : Nat) (hk : k < l.length) : w.cell? ⟨g, k, none⟩ = some (.int .i64 l[k]) := by
  rw [hc k hk]; simp [List.getD, hk]

def LessInv (l : List Int) (k : Nat) (out : List Int) (borrow : Int) : Prop := out.length = k ∧ Small out ∧ (0 ≤ borrow ∧ borrow ≤ 1) ∧ valD out = valD (l.take k) - valD (primeDigits.take k) + borrow * 65536 ^ k
theorem less_step {l : List Int} {k : Nat} {out : List Int} {borrow : Int} (hk : k < l.length) (hp : k < primeDigits.length) (hs : Small l) (h : LessInv l k out borrow) :
    LessInv l (k + 1) (out ++ [(l[k] - primeDigits[k] - borrow + 65536) % 65536]) (1 - (l[k] - primeDigits[k] - borrow + 65536) / 65536) := by
  obtain ⟨e1, e2, e3, e4⟩ := h
  have hd := hs _ (List.getElem_mem hk)
  have hq := prime_small_digits _ (List.getElem_mem hp)
  refine ⟨by simp [e1], small_snoc e2 (by omega) (by omega), by omega, ?_⟩
  rw [List.take_succ_eq_append_getElem hk, List.take_succ_eq_append_getElem hp, valD_snoc, valD_snoc, valD_snoc, List.length_take, List.length_take, Nat.min_eq_left (by omega), Nat.min_eq_left (by omega), e1, e4, Int.pow_succ]
  have hq' : l[k] - primeDigits[k] - borrow + 65536 = (l[k] - primeDigits[k] - borrow + 65536) % 65536 + 65536 * ((l[k] - primeDigits[k] - borrow + 65536) / 65536) := (Int.emod_add_mul_ediv _ _).symm
  generalize (l[k] - primeDigits[k] - borrow + 65536) % 65536 = r at *
  generalize (l[k] - primeDigits[k] - borrow + 65536) / 65536 = q at *
  generalize (65536 : Int) ^ k = p at *
  generalize l[k] = d at *
  generalize primeDigits[k] = c at *
  have : borrow = d - c + 65536 - r - 65536 * q := by omega
  rw [this]
  grind

def LessRel (w : World) (l : List Int) (v o i : Value) (wr : World) : Prop := ∃ (k g cap : Nat) (out : List Int) (borrow : Int), k ≤ 16 ∧ i = .int .i64 k ∧ o = .int .i64 borrow ∧ v = .slice (some ⟨g, 0, none⟩) k cap ∧ LessInv l k out borrow ∧ Ints wr w.heap.size v out ∧ Below w.heap.size w wr
theorem prime_length : primeDigits.length = 16 := rfl

def LessPost (l : List Int) (w : World) (e : Ending) (w' : World) : Prop := ∃ v out borrow, e = .returned v ∧ LessInv l 16 out borrow ∧ Ints w' w.heap.size v out ∧ Below w.heap.size w w'

set_option maxHeartbeats 1000000 in
theorem less_any (v : Value) (l : List Int) (hl : l.length = 16) (hsm : Small l) (w : World) (hI : IntsAt w v l) :
    Calls Tryd.prog 42 #[v] w (LessPost l w) := by
  obtain ⟨b, cp, rfl, hb, hc⟩ := hI
  have HC := Lib.hid hc; have HL := Lib.hid hl; have HM := Lib.hid hsm
  clear hc hsm
  rw [hl]
  clear hl
  go_enter Tryd.func42, Tryd.ntmps42
  go_wp2_with fail
  refine (refPrime_any _).mono ?_
  rintro e w1 ⟨pv, rfl, hP, hB1⟩
  obtain ⟨pb, pc, rfl, hpb, hpc⟩ := hP.at (by decide)
  have HP := Lib.hid hpc; have HB1 := Lib.hid hB1
  have hsz1 := hB1.size
  clear hpc hP hB1
  rw [prime_length]
  go_wp2_with fail
  go_loopw [4, 5, 6] (LessRel w1 l) (fun _ _ i _ => 16 - (intOf i).toNat)
  case atStart => exact ⟨0, _, _, [], 0, by omega, rfl, rfl, rfl, ⟨rfl, fun _ h => by simp at h, by omega, by simp [valD]⟩, Ints.empty w1 _ (Nat.le_refl _), by go_grown⟩
  case round =>
    obtain ⟨k, g, cap, out, borrow, hk, rfl, rfl, rfl, hinv, hI, hB⟩ := hrel
    have hsz := hB.size
    have HI := Lib.hid hI; have HV := Lib.hid hinv
    obtain ⟨o0, o1⟩ := hinv.2.2.1
    clear hI hinv
    by_cases hlt : k < 16
    · have h1 : (k : Int) < 16 := by omega
      have hlk : k < l.length := by rw [HL.out]; exact hlt
      have hpk : k < primeDigits.length := by rw [prime_length]; exact hlt
      have hd := HM.out _ (List.getElem_mem hlk)
      have hq := prime_small_digits _ (List.getElem_mem hpk)
      have hcell : wr.cell? ⟨b, k, none⟩ = some (.int .i64 l[k]) := by
        rw [hB.cell (p := ⟨b, k, none⟩) (show b < w1.heap.size by omega), HB1.out.cell (p := ⟨b, k, none⟩) hb]
        exact at_cell HC.out k hlk
      have hpcell : wr.cell? ⟨pb, k, none⟩ = some (.int .i64 primeDigits[k]) := by
        rw [hB.cell (p := ⟨pb, k, none⟩) hpb]
        exact at_cell HP.out k hpk
      have hst := less_step hlk hpk HM.out HV.out
      rw [show (l[k] - primeDigits[k] - borrow + 65536) % 65536 = (l[k] - primeDigits[k] - borrow) % 65536 from Int.add_emod_right ..] at hst
      have HST := Lib.hid hst
      clear hst
      generalize l[k] = d at *
      generalize primeDigits[k] = c at *
      obtain ⟨d0, d1⟩ := hd
      obtain ⟨q0, q1⟩ := hq
      have hlb : b < wr.heap.size := by omega
      have hlpb : pb < wr.heap.size := by omega
      have w1' : IntKind.i64.wrap (d - c) = d - c := IntWalk.i64_in _ (by omega)
      have w2' : IntKind.i64.wrap (d - c - borrow) = d - c - borrow := IntWalk.i64_in _ (by omega)
      have w3' : IntKind.i64.wrap (d - c - borrow + 65536) = d - c - borrow + 65536 := IntWalk.i64_in _ (by omega)
      have w4' : (0 : Int) ≤ d - c - borrow + 65536 := by omega
      have w5' : IntKind.i64.wrap (1 - (d - c - borrow + 65536) / 65536) = 1 - (d - c - borrow + 65536) / 65536 := IntWalk.i64_in _ (by omega)
      have hol : out.length = k := HV.out.1
      have HOL := Lib.hid hol
      clear hol
      go_wp2_with fail
      go_quiet (fail)
      go_wp2_with (at_builtin; refine append_int rfl _ _ rfl w1.heap.size _ out ((d - c - borrow) % 65536) wr.heap.size rfl ?c0 rfl ?c1 ?c2 ?c3 ?_)
      case c0 => exact Ints.alloc (w := wr.drewN _) HI.out _
      case c1 => exact World.cell?_alloc_new (wr.drewN _) _ _ 0
      case c2 => rw [HOL.out]; omega
      case c3 => simp; omega
      intro g' cap' w' hI' hg'
      have hB' := Ints.below_grown (wr := wr.drewN _) HI.out (below_quiet hB _) hsz hg'
      clear hg' hB
      have HI' := Lib.hid hI'
      clear hI'
      go_wp2_with fail
      refine ⟨⟨k + 1, g', cap', _, _, by omega, by simp, rfl, by rw [HOL.out], HST.out, HI'.out, hB'⟩, by simp [intOf]; omega⟩
    · obtain rfl : k = 16 := by omega
      go_wp2_with fail
      go_ret
      exact ⟨_, out, borrow, rfl, HV.out, World.ownsRow.mono HI.out hsz1, HB1.out.trans (hB.mono hsz1)⟩
end Go.Proofs.YtccjhlipcgpkmaaDoor
