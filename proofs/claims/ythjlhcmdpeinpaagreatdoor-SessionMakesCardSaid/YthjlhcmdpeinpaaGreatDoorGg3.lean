/- The texts Refg, Refh, Refm, one behind the other. -/
import Derived.Test.YthjlhcmdpeinpaaGreatDoorGg2
import Derived.Deep.LoopGhost
import Derived.OneCell
/- The contracts of the reference's functions over digits: Left. -/
namespace Go.Proofs.YthjlhcmdpeinpaaGreatDoor
set_option maxRecDepth 100000
open Go.RowKit
/-- 2^256 -/
theorem w16 : (65536 : Int) ^ 16 = W256 := by unfold W256; decide +kernel
def Tot (out : List Int) (over : Int) : Int := valD out + over * W256
structure LeftAt (w : World) (C : Nat) (X : Int) (g cap : Nat) (out : List Int) (over : Int) (wr : World) : Prop where
  len : out.length = 16
  sm : Small out
  ov : 0 ≤ over ∧ over ≤ 35184372088832
  tot : Tot out over % Pr = X % Pr
  own : Ints wr w.heap.size (.slice (some ⟨g, 0, none⟩) 16 cap) out
  ne : g ≠ C
  c0 : wr.cell? ⟨C, 0, none⟩ = some (.slice (some ⟨g, 0, none⟩) 16 cap)
  c1 : wr.cell? ⟨C, 1, none⟩ = some (.int .i64 over)
  f0 : wr.frozen? ⟨C, 0, none⟩ = false
  f1 : wr.frozen? ⟨C, 1, none⟩ = false
  b : Below w.heap.size w wr
  lo : w.heap.size ≤ C
def LeftRel (w : World) (C : Nat) (X : Int) (k : Nat) (wr : World) : Prop := ∃ (g cap : Nat) (out : List Int) (over : Int), k = (Tot out over).toNat ∧ LeftAt w C X g cap out over wr

theorem tot_step {x : Int} {t out2 : List Int} {over over2 X : Int} (ho : 0 < over) (h : Tot (x :: t) over % Pr = X % Pr) (e : valD out2 + over2 * W256 = valD ((x + 38 * over) :: t)) (hx : 0 ≤ valD (x :: t)) :
    Tot out2 over2 % Pr = X % Pr ∧ (Tot out2 over2).toNat < (Tot (x :: t) over).toNat := by
  have e1 : Tot out2 over2 = valD (x :: t) + 38 * over := by unfold Tot; rw [e]; simp only [valD]; omega
  have e2 : Tot (x :: t) over = Tot out2 over2 + Pr * (2 * over) := by rw [e1]; unfold Tot W256 Pr; omega
  constructor
  · rw [← h, e2, Int.add_mul_emod_self_left]
  · have : 0 < Pr * (2 * over) := by unfold Pr; omega
    have h2 : 0 ≤ Tot out2 over2 := by rw [e1]; omega
    rw [e2]; omega

def LeftRel2 (w : World) (X : Int) (k : Nat) (v : Value) (wr : World) : Prop := ∃ (out : List Int) (g cap : Nat), k = (valD out).toNat ∧ v = .slice (some ⟨g, 0, none⟩) 16 cap ∧ out.length = 16 ∧ Small out ∧ valD out % Pr = X % Pr ∧ Ints wr w.heap.size v out ∧ Below w.heap.size w wr
theorem less_done {l out : List Int} {borrow : Int} (hl : l.length = 16) (hs : Small l) (hge : Pr ≤ valD l) (h : LessInv l 16 out borrow) : valD out % Pr = valD l % Pr ∧ (valD out).toNat < (valD l).toNat := by
  obtain ⟨e1, e2, e3, e4⟩ := h
  have r1 := valD_range out e2
  have r2 := valD_range l hs
  rw [e1, w16] at r1
  rw [hl, w16] at r2
  rw [List.take_of_length_le (by omega), List.take_of_length_le (show primeDigits.length ≤ 16 from Nat.le_refl _), valD_prime, w16] at e4
  have hb : borrow = 0 := by
    have : 0 < Pr := by unfold Pr; omega
    unfold W256 at *
    omega
  subst hb
  have e5 : valD l = valD out + Pr * 1 := by omega
  constructor
  · rw [e5, Int.add_mul_emod_self_left]
  · have : 0 < Pr := by unfold Pr; omega
    omega
theorem Ints.stays {w w' : World} {base g cap : Nat} {n : Nat} {l : List Int} (h : Ints w base (.slice (some ⟨g, 0, none⟩) n cap) l) (hb : Below w.heap.size w w') : Ints w' base (.slice (some ⟨g, 0, none⟩) n cap) l := by
  obtain ⟨h1, h2⟩ := h
  refine ⟨h1, ?_⟩
  rcases h2 with h2 | ⟨g', cap', cur, hv, hg, hh, r⟩
  · exact Or.inl h2
  · refine Or.inr ⟨g', cap', cur, hv, hg, ?_, r⟩
    rw [hb.block g' (by
      rcases Nat.lt_or_ge g' w.heap.size with h | h
      · exact h
      · rw [Array.getElem?_eq_none h] at hh; cases hh)]
    exact hh

theorem stored_head {wr : World} {base g cap : Nat} {x : Int} {t : List Int} (hl : (x :: t).length = 16) (h : Ints wr base (.slice (some ⟨g, 0, none⟩) 16 cap) (x :: t)) (y : Int) :
    Ints (wr.setCell ⟨g, 0, none⟩ (.int .i64 y)) base (.slice (some ⟨g, 0, none⟩) 16 cap) (y :: t) := by
  unfold Ints at *
  have hl' : (y :: t).length = 16 := by simpa using hl
  rw [hl] at h
  rw [hl']
  have := (World.ownsRow.stored h 0 (.int .i64 y)).1
  simpa using this

set_option maxHeartbeats 1000000 in
theorem left_ref_any (v : Value) (l : List Int) (hl : l.length = 16) (hM : ∀ d ∈ l, 0 ≤ d ∧ d ≤ 1152921504606846976) (w : World) (hI : LIntsAt w v l) :
    Calls Tryz.prog 94 #[v] w fun e w' => ∃ v' out, e = .returned v' ∧ out.length = 16 ∧ Small out ∧ valD out = valD l % Pr ∧ Ints w' w.heap.size v' out ∧ Below w.heap.size w w' := by
  have HL := Lib.hid hl
  have hcar := carry_any v l hl hM w hI
  obtain ⟨b, cp, rfl, hb, -⟩ := hI
  rw [hl] at hcar ⊢
  clear hl hM
  go_enter Tryz.func94, Tryz.ntmps94
  go_wp2_with fail
  refine hcar.mono ?_
  clear hcar
  rintro e w1 ⟨v1, out, over, rfl, hinv, hI1, hB1⟩
  have hlen : out.length = 16 := hinv.1
  obtain ⟨g, cap, rfl, hg0, hg⟩ := World.ownsRow.form hI1 (by omega)
  have hsz1 := hB1.size
  have h0 : LeftAt w w1.heap.size (valD l) g cap out over (w1.alloc (.cells #[.slice (some ⟨g, 0, none⟩) 16 cap, .int .i64 over] 185)) := by
    refine ⟨hlen, hinv.2.1, hinv.2.2.1, ?_, ?_, by omega, by simp, by simp, by simp, by simp, hB1.alloc hsz1 _, hsz1⟩
    · have := hinv.2.2.2
      rw [List.take_of_length_le (by rw [HL.out]; exact Nat.le_refl _), w16] at this
      unfold Tot; rw [this]
    · have := (World.ownsRow.mono (Ints.alloc hI1 (.cells #[.slice (some ⟨g, 0, none⟩) 16 cap, .int .i64 over] 185)) (show w.heap.size ≤ w.heap.size + 1 by omega))
      rw [hlen] at this
      unfold Ints
      rw [hlen]
      exact this
  rw [hlen]
  clear hinv hI1 hB1
  go_wp2_with fail
  generalize World.alloc w1 _ = W at h0 ⊢
  have HT := Lib.hid h0
  clear h0
  go_loopg [4] (Tot out over).toNat (fun k _ wr => LeftRel w w1.heap.size (valD l) k wr)
  case atStart => exact ⟨g, cap, out, over, rfl, HT.out⟩
  case round =>
    clear HT
    obtain ⟨g, cap, out, over, rfl, h⟩ := hrel
    have HH := Lib.hid h
    have c0 := h.c0; have c1 := h.c1
    have o0 := h.ov.1; have o1 := h.ov.2
    have hsz := h.b.size
    clear h
    by_cases hov : 0 < over
    · obtain ⟨x, t, rfl⟩ : ∃ x t, out = x :: t := by
        cases out with
        | nil => have := HH.out.len; simp at this
        | cons x t => exact ⟨x, t, rfl⟩
      have hx := HH.out.sm x (List.mem_cons_self ..)
      obtain ⟨x0, x1⟩ := hx
      have hcell : wr.cell? ⟨g, 0, none⟩ = some (.int .i64 x) := by
        have h1 := HH.out.own
        unfold Ints at h1
        rw [HH.out.len] at h1
        have := World.ownsRow.cellAt h1 0 (by omega)
        rw [this]; rfl
      have hfz : wr.frozen? ⟨g, 0, none⟩ = false := by
        have h1 := HH.out.own
        unfold Ints at h1
        rw [HH.out.len] at h1
        exact World.ownsRow.frozenAt h1 0
      have w1' : IntKind.i64.wrap (38 * over) = 38 * over := IntWalk.i64_in _ (by omega)
      have w2' : IntKind.i64.wrap (x + 38 * over) = x + 38 * over := IntWalk.i64_in _ (by omega)
      have hne : (⟨g, 0, none⟩ : Addr) ≠ ⟨w1.heap.size, 0, none⟩ := by intro e; cases e; exact HH.out.ne rfl
      have hne1 : (⟨g, 0, none⟩ : Addr) ≠ ⟨w1.heap.size, 1, none⟩ := by intro e; cases e
      have c0' : (wr.setCell ⟨g, 0, none⟩ (.int .i64 (x + 38 * over))).cell? ⟨w1.heap.size, 0, none⟩ = some (.slice (some ⟨g, 0, none⟩) 16 cap) := by rw [World.cell?_setCell_other _ _ _ _ hne]; exact c0
      go_wp2_with fail
      go_region
      all_goals go_wp2_with fail
      have hl2 : ((x + 38 * over) :: t).length = 16 := by have := HH.out.len; simpa using this
      have hI2 : Ints ((wr.setCell ⟨g, 0, none⟩ (.int .i64 (x + 38 * over))).drew) w.heap.size (.slice (some ⟨g, 0, none⟩) 16 cap) ((x + 38 * over) :: t) := (stored_head HH.out.len HH.out.own (x + 38 * over)).drew
      have hA2 := hI2.at (by rw [hl2]; omega)
      have hcar := carry_any _ _ hl2 (fun d hd => by
        rcases List.mem_cons.1 hd with rfl | hd
        · omega
        · have := HH.out.sm d (List.mem_cons_of_mem _ hd); omega) _ hA2
      refine hcar.mono ?_
      rintro e w2 ⟨v2, out2, over2, rfl, hinv2, hI2', hB2⟩
      clear hcar hA2
      have hlen2 : out2.length = 16 := hinv2.1
      obtain ⟨g2, cap2, rfl, hg20, hg2⟩ := World.ownsRow.form hI2' (by omega)
      have hCl : w1.heap.size < wr.heap.size := World.block_lt_of_cell? wr _ c0
      have hsize2 : ((wr.setCell ⟨g, 0, none⟩ (.int .i64 (x + 38 * over))).drew).heap.size = wr.heap.size := by simp
      rw [hsize2] at hB2 hg20 hI2'
      have z0 : w2.cell? ⟨w1.heap.size, 0, none⟩ = some (.slice (some ⟨g, 0, none⟩) 16 cap) := by rw [hB2.cell (p := ⟨w1.heap.size, 0, none⟩) hCl]; exact c0'
      have z1 : w2.cell? ⟨w1.heap.size, 1, none⟩ = some (.int .i64 over) := by
        rw [hB2.cell (p := ⟨w1.heap.size, 1, none⟩) hCl, World.cell?_drew, World.cell?_setCell_other _ _ _ _ hne1]; exact c1
      have y0 : w2.frozen? ⟨w1.heap.size, 0, none⟩ = false := by rw [hB2.frozen (p := ⟨w1.heap.size, 0, none⟩) hCl]; simpa using HH.out.f0
      have y1 : w2.frozen? ⟨w1.heap.size, 1, none⟩ = false := by rw [hB2.frozen (p := ⟨w1.heap.size, 1, none⟩) hCl]; simpa using HH.out.f1
      have hBw : Below w.heap.size w w2 := (HH.out.b.setCell (p := ⟨g, 0, none⟩) (World.ownsRow.lt HH.out.own g rfl).1 (.int .i64 (x + 38 * over))).drew.trans (hB2.mono hsz)
      have hts := tot_step (X := valD l) hov HH.out.tot (by have := hinv2.2.2.2; rwa [List.take_of_length_le (by rw [hl2]; exact Nat.le_refl _), w16] at this) (valD_range _ HH.out.sm).1
      have HTS := Lib.hid hts; have HV2 := Lib.hid hinv2; have HI2 := Lib.hid hI2'
      have hlo := HH.out.lo
      clear hts hinv2 hI2' hI2 c0' hcell hfz
      rw [hlen2]
      go_wp2_with fail
      go_roundg (Tot out2 over2).toNat
      case measure => exact HTS.out.2
      case rel =>
        refine ⟨g2, cap2, out2, over2, rfl, ?_⟩
        refine ⟨hlen2, HV2.out.2.1, HV2.out.2.2.1, HTS.out.1, ?_, by omega, ?_, ?_, by simpa using y0, by simpa using y1, (hBw.setCell hlo _).setCell hlo _, hlo⟩
        · have h5 : Ints w2 w.heap.size (.slice (some ⟨g2, 0, none⟩) 16 cap2) out2 := by
            have := World.ownsRow.mono HI2.out (show w.heap.size ≤ wr.heap.size + 1 by omega)
            unfold Ints; rw [hlen2] at this ⊢; exact this
          exact ownsRow_setCell_other (ownsRow_setCell_other h5 (by simp [Value.ownBlock]; omega) _) (by simp [Value.ownBlock]; omega) _
        · rw [World.cell?_setCell_other _ _ _ _ (by simp), World.cell?_setCell_same _ _ _ z0]
        · have : (w2.setCell ⟨w1.heap.size, 0, none⟩ (.slice (some ⟨g2, 0, none⟩) 16 cap2)).cell? ⟨w1.heap.size, 1, none⟩ = some (.int .i64 over) := by rw [World.cell?_setCell_other _ _ _ _ (by simp)]; exact z1
          rw [World.cell?_setCell_same _ _ _ this]
    · obtain rfl : over = 0 := by omega
      have hrel0 : LeftRel2 w (valD l) (valD out).toNat (.slice (some ⟨g, 0, none⟩) 16 cap) wr := ⟨out, g, cap, rfl, rfl, HH.out.len, HH.out.sm, by have := HH.out.tot; unfold Tot at this; simpa using this, HH.out.own, HH.out.b⟩
      have HR0 := Lib.hid hrel0
      clear hrel0
      go_wp2_with fail
      go_loopg [5] (valD out).toNat (fun k v wr => LeftRel2 w (valD l) k v wr)
      case atStart => exact HR0.out
      case round =>
        clear HR0 HH c0 c1
        obtain ⟨out, g, cap, rfl, rfl, hlen, hsm, hval, hI, hB⟩ := hrel
        have hsz := hB.size
        have hA := hI.at (by omega)
        have hle := least_any _ _ hlen hsm wr hA
        have HLE := Lib.hid hle; have HA := Lib.hid hA; have HI := Lib.hid hI; have HV := Lib.hid hval; have HLN := Lib.hid hlen
        clear hle hA hI hval hlen
        by_cases hge : Pr ≤ valD out
        · go_wp2_with fail
          refine HLE.out.mono ?_
          rintro e w2 ⟨rfl, hb2⟩
          rw [decide_eq_true hge]
          have HG := Lib.hid hge
          clear hge
          have hless := less_any _ _ HLN.out hsm w2 (HA.out.below hb2 (Nat.le_refl _))
          have HLS := Lib.hid hless
          clear hless
          go_wp2_with fail
          refine HLS.out.mono ?_
          rintro e w3 ⟨v3, out3, borrow, rfl, hinv, hI3, hb3⟩
          have hlt := less_done HLN.out hsm HG.out hinv
          have hlen3 := hinv.1
          obtain ⟨g3, cap3, rfl, -, -⟩ := World.ownsRow.form hI3 (by omega)
          have hB3 : Below w.heap.size w w3 := (hB.trans (hb2.mono hsz)).trans (hb3.mono (Nat.le_trans hsz hb2.size))
          have HI3 : Hid (Ints w3 w.heap.size (.slice (some ⟨g3, 0, none⟩) 16 cap3) out3) := by
            have := World.ownsRow.mono hI3 (Nat.le_trans hsz hb2.size)
            show Ints _ _ _ _
            unfold Ints; rw [hlen3] at this ⊢; exact this
          have HLT := Lib.hid hlt; have HIV := Lib.hid hinv
          rw [hlen3]
          clear hlt hinv hI3 hb2 hb3
          go_wp2_with fail
          go_roundg (valD out3).toNat
          case measure => exact HLT.out.2
          case rel => exact ⟨out3, g3, cap3, rfl, rfl, HIV.out.1, HIV.out.2.1, HLT.out.1.trans HV.out, HI3.out, hB3⟩
        · go_wp2_with fail
          refine HLE.out.mono ?_
          rintro e w2 ⟨rfl, hb2⟩
          rw [decide_eq_false (show ¬ Pr ≤ valD out by omega)]
          have HG := Lib.hid hge
          clear hge
          go_wp2_with fail
          go_ret
          refine ⟨_, out, rfl, HLN.out, hsm, ?_, ?_, hB.trans (hb2.mono hsz)⟩
          · rw [← HV.out]
            have := (valD_range out hsm).1
            exact (Int.emod_eq_of_lt this (by have := HG.out; omega)).symm
          · have := HI.out
            exact this.stays hb2
end Go.Proofs.YthjlhcmdpeinpaaGreatDoor

/- The contracts of the reference's functions over digits: Add. -/
namespace Go.Proofs.YthjlhcmdpeinpaaGreatDoor
set_option maxRecDepth 100000
open Go.RowKit
theorem valD_zip : ∀ a b : List Int, a.length = b.length → valD (List.zipWith (· + ·) a b) = valD a + valD b
  | [], [], _ => by simp [valD]
  | x :: a, y :: b, h => by
    have ih := valD_zip a b (by simpa using h)
    simp only [List.zipWith_cons_cons, valD, ih]
    omega
theorem zip_take (a b : List Int) (k : Nat) (ha : k < a.length) (hb : k < b.length) : (List.zipWith (· + ·) a b).take (k + 1) = (List.zipWith (· + ·) a b).take k ++ [a[k] + b[k]] := by
  rw [List.take_succ_eq_append_getElem (by simp; omega), List.getElem_zipWith]

def AddRel (w : World) (a b : List Int) (v i : Value) (wr : World) : Prop := ∃ k g cap : Nat, k ≤ 16 ∧ i = .int .i64 k ∧ v = .slice (some ⟨g, 0, none⟩) k cap ∧ Ints wr w.heap.size v ((List.zipWith (· + ·) a b).take k) ∧ Below w.heap.size w wr
def RefPost (x : Int) (w : World) (e : Ending) (w' : World) : Prop := ∃ v out, e = .returned v ∧ out.length = 16 ∧ Small out ∧ valD out = x ∧ Ints w' w.heap.size v out ∧ Below w.heap.size w w'

set_option maxHeartbeats 1000000 in
theorem refAdd_any (va vb : Value) (a b : List Int) (hla : a.length = 16) (hlb : b.length = 16) (hsa : Small a) (hsb : Small b) (w : World) (hA : LIntsAt w va a) (hB : LIntsAt w vb b) :
    Calls Tryz.prog 139 #[va, vb] w (RefPost ((valD a + valD b) % Pr) w) := by
  obtain ⟨ga, ca, rfl, hga, hca⟩ := hA
  obtain ⟨gb, cb, rfl, hgb, hcb⟩ := hB
  have HCA := Lib.hid hca; have HCB := Lib.hid hcb; have HLA := Lib.hid hla; have HLB := Lib.hid hlb; have HSA := Lib.hid hsa; have HSB := Lib.hid hsb
  clear hca hcb hsa hsb
  rw [hla, hlb]
  clear hla hlb
  have hzl : (List.zipWith (· + ·) a b).length = 16 := by rw [List.length_zipWith, HLA.out, HLB.out]; rfl
  have HZL := Lib.hid hzl
  clear hzl
  go_enter Tryz.func139, Tryz.ntmps139
  go_wp2_with fail
  go_loopw [5, 10] (AddRel w a b) (fun _ i _ => 16 - (intOf i).toNat)
  case atStart => exact ⟨0, _, _, by omega, rfl, rfl, Ints.empty w _ (Nat.le_refl _), by go_grown⟩
  case round =>
    obtain ⟨k, g, cap, hk, rfl, rfl, hI, hBl⟩ := hrel
    have hsz := hBl.size
    by_cases hlt : k < 16
    · have h1 : (k : Int) < 16 := by omega
      have hka : k < a.length := by rw [HLA.out]; exact hlt
      have hkb : k < b.length := by rw [HLB.out]; exact hlt
      have hda := HSA.out _ (List.getElem_mem hka)
      have hdb := HSB.out _ (List.getElem_mem hkb)
      have hcell : wr.cell? ⟨ga, k, none⟩ = some (.int .i64 a[k]) := by
        rw [hBl.cell (p := ⟨ga, k, none⟩) hga]; exact at_cell HCA.out k hka
      have hcell' : wr.cell? ⟨gb, k, none⟩ = some (.int .i64 b[k]) := by
        rw [hBl.cell (p := ⟨gb, k, none⟩) hgb]; exact at_cell HCB.out k hkb
      have hz := zip_take a b k hka hkb
      have HZ := Lib.hid hz
      have HI := Lib.hid hI
      clear hz hI
      have htl : ((List.zipWith (· + ·) a b).take k).length = k := by rw [List.length_take, HZL.out]; omega
      have HTL := Lib.hid htl
      clear htl
      obtain ⟨L, hL⟩ : ∃ L, L = (List.zipWith (· + ·) a b).take k := ⟨_, rfl⟩
      rw [← hL] at HI HTL HZ
      clear hL
      generalize a[k] = x at *
      generalize b[k] = y at *
      obtain ⟨x0, x1⟩ := hda
      obtain ⟨y0, y1⟩ := hdb
      have hl1 : ga < wr.heap.size := by omega
      have hl2 : gb < wr.heap.size := by omega
      have w1 : IntKind.i64.wrap (x + y) = x + y := IntWalk.i64_in _ (by omega)
      go_wp2_with fail
      go_region_law (first | (refine step_append_int rfl _ _ rfl w.heap.size _ L (x + y) wr.heap.size rfl ?_ rfl ?_ ?_ ?_ ?_; exact (HI.out.alloc _); simp; (rw [HTL.out]; omega); (simp; omega); intro g' cap' w' hI' hg'))
      all_goals
        have hB' := (HI.out.alloc (.cells #[.int .i64 (x + y)] 3)).drew.below_at (hBl.alloc hsz _).drew (by simp; omega) hg'
        clear hg' hBl
        have HI' := Lib.hid hI'
        clear hI'
        go_wp2_with fail
        refine ⟨⟨k + 1, g', cap', by omega, by simp, by rw [HTL.out], ?_, hB'⟩, by simp [intOf]; omega⟩
        rw [HZ.out]
        exact HI'.out
    · obtain rfl : k = 16 := by omega
      have et : (List.zipWith (· + ·) a b).take 16 = List.zipWith (· + ·) a b := List.take_of_length_le (by rw [HZL.out]; exact Nat.le_refl _)
      rw [et] at hI
      have hleft := left_ref_any _ _ HZL.out (fun d hd => by
        obtain ⟨i, hi, rfl⟩ := List.getElem_of_mem hd
        have hi' : i < 16 := by rw [← HZL.out]; exact hi
        rw [List.getElem_zipWith]
        have h1 := HSA.out _ (List.getElem_mem (show i < a.length by rw [HLA.out]; exact hi'))
        have h2 := HSB.out _ (List.getElem_mem (show i < b.length by rw [HLB.out]; exact hi'))
        omega) wr (hI.at (by rw [HZL.out]; omega))
      have hval : valD (List.zipWith (· + ·) a b) = valD a + valD b := valD_zip a b (by rw [HLA.out, HLB.out])
      rw [hval] at hleft
      have HLF := Lib.hid hleft
      clear hleft hval et hI
      go_wp2_with fail
      refine HLF.out.mono ?_
      rintro e w2 ⟨v2, out, rfl, l2, s2, e2, i2, b2⟩
      go_wp2_with fail
      go_ret
      exact ⟨v2, out, rfl, l2, s2, e2, World.ownsRow.mono i2 hsz, hBl.trans (b2.mono hsz)⟩
end Go.Proofs.YthjlhcmdpeinpaaGreatDoor

/- Plain mathematics of the reference's product of digits. -/
namespace Go.Proofs.YthjlhcmdpeinpaaGreatDoor
set_option maxRecDepth 100000
open Go.RowKit
def sumNR (f : Nat → Int) : Nat → Int
  | 0 => 0
  | n + 1 => sumNR f n + f n
theorem sumN_mul (c : Int) (f : Nat → Int) : ∀ n, c * sumNR f n = sumNR (fun i => c * f i) n
  | 0 => by simp [sumNR]
  | n + 1 => by simp only [sumNR]; rw [Int.mul_add, sumN_mul c f n]
theorem sumN_add (f g : Nat → Int) : ∀ n, sumNR f n + sumNR g n = sumNR (fun i => f i + g i) n
  | 0 => by simp [sumNR]
  | n + 1 => by simp only [sumNR]; rw [← sumN_add f g n]; omega
theorem sumN_zero : ∀ n, sumNR (fun _ => 0) n = 0
  | 0 => rfl
  | n + 1 => by simp [sumNR, sumN_zero n]
theorem sumN_swap (c : Nat → Nat → Int) (n : Nat) : ∀ m, sumNR (fun i => sumNR (fun j => c i j) m) n = sumNR (fun j => sumNR (fun i => c i j) n) m
  | 0 => by simp only [sumNR]; exact sumN_zero n
  | m + 1 => by simp only [sumNR]; rw [← sumN_swap c n m, sumN_add]
theorem sumN_congr {f g : Nat → Int} : ∀ n, (∀ i, i < n → f i = g i) → sumNR f n = sumNR g n
  | 0, _ => rfl
  | n + 1, h => by simp only [sumNR]; rw [sumN_congr n fun i hi => h i (by omega), h n (by omega)]

/-- what digit j of the first number puts to digit i of the product -/
def mulTerm (a b : Nat → Int) (i j : Nat) : Int := if j ≤ i then a j * b (i - j) else 38 * a j * b (16 + i - j)
def mulDig (a b : Nat → Int) (i : Nat) : Int := sumNR (mulTerm a b i) 16
def valF (b : Nat → Int) : Int := sumNR (fun k => 65536 ^ k * b k) 16
def hiPart (b : Nat → Int) (j : Nat) : Int := sumNR (fun k => if 16 ≤ k + j then 65536 ^ (k + j - 16) * b k else 0) 16
theorem mulRow0 (a b : Nat → Int) : sumNR (fun i => 65536 ^ i * mulTerm a b i 0) 16 = a 0 * (65536 ^ 0 * valF b - 2 * Pr * hiPart b 0) := by
  simp only [sumNR, mulTerm, valF, hiPart, Pr, Nat.reduceLeDiff, Nat.reduceSub, Nat.reduceAdd, Nat.zero_le, Nat.le_refl, if_true, if_false, Nat.sub_zero, Nat.sub_self, Nat.add_zero, Nat.le_zero_eq, Nat.add_one_ne_zero]
  generalize a 0 = x
  generalize b 0 = b0; generalize b 1 = b1; generalize b 2 = b2; generalize b 3 = b3; generalize b 4 = b4; generalize b 5 = b5; generalize b 6 = b6; generalize b 7 = b7
  generalize b 8 = b8; generalize b 9 = b9; generalize b 10 = b10; generalize b 11 = b11; generalize b 12 = b12; generalize b 13 = b13; generalize b 14 = b14; generalize b 15 = b15
  grind
theorem mulRow1 (a b : Nat → Int) : sumNR (fun i => 65536 ^ i * mulTerm a b i 1) 16 = a 1 * (65536 ^ 1 * valF b - 2 * Pr * hiPart b 1) := by
  simp only [sumNR, mulTerm, valF, hiPart, Pr, Nat.reduceLeDiff, Nat.reduceSub, Nat.reduceAdd, Nat.le_refl, if_true, if_false, Nat.sub_self, Nat.add_zero, Nat.zero_add, Nat.le_zero_eq, Nat.add_one_ne_zero]
  generalize a 1 = x
  generalize b 0 = b0; generalize b 1 = b1; generalize b 2 = b2; generalize b 3 = b3; generalize b 4 = b4; generalize b 5 = b5; generalize b 6 = b6; generalize b 7 = b7
  generalize b 8 = b8; generalize b 9 = b9; generalize b 10 = b10; generalize b 11 = b11; generalize b 12 = b12; generalize b 13 = b13; generalize b 14 = b14; generalize b 15 = b15
  grind
theorem mulRow2 (a b : Nat → Int) : sumNR (fun i => 65536 ^ i * mulTerm a b i 2) 16 = a 2 * (65536 ^ 2 * valF b - 2 * Pr * hiPart b 2) := by
  simp only [sumNR, mulTerm, valF, hiPart, Pr, Nat.reduceLeDiff, Nat.reduceSub, Nat.reduceAdd, Nat.le_refl, if_true, if_false, Nat.sub_self, Nat.add_zero, Nat.zero_add, Nat.le_zero_eq, Nat.add_one_ne_zero]
  generalize a 2 = x
  generalize b 0 = b0; generalize b 1 = b1; generalize b 2 = b2; generalize b 3 = b3; generalize b 4 = b4; generalize b 5 = b5; generalize b 6 = b6; generalize b 7 = b7
  generalize b 8 = b8; generalize b 9 = b9; generalize b 10 = b10; generalize b 11 = b11; generalize b 12 = b12; generalize b 13 = b13; generalize b 14 = b14; generalize b 15 = b15
  grind
theorem mulRow3 (a b : Nat → Int) : sumNR (fun i => 65536 ^ i * mulTerm a b i 3) 16 = a 3 * (65536 ^ 3 * valF b - 2 * Pr * hiPart b 3) := by
  simp only [sumNR, mulTerm, valF, hiPart, Pr, Nat.reduceLeDiff, Nat.reduceSub, Nat.reduceAdd, Nat.le_refl, if_true, if_false, Nat.sub_self, Nat.add_zero, Nat.zero_add, Nat.le_zero_eq, Nat.add_one_ne_zero]
  generalize a 3 = x
  generalize b 0 = b0; generalize b 1 = b1; generalize b 2 = b2; generalize b 3 = b3; generalize b 4 = b4; generalize b 5 = b5; generalize b 6 = b6; generalize b 7 = b7
  generalize b 8 = b8; generalize b 9 = b9; generalize b 10 = b10; generalize b 11 = b11; generalize b 12 = b12; generalize b 13 = b13; generalize b 14 = b14; generalize b 15 = b15
  grind
theorem mulRow4 (a b : Nat → Int) : sumNR (fun i => 65536 ^ i * mulTerm a b i 4) 16 = a 4 * (65536 ^ 4 * valF b - 2 * Pr * hiPart b 4) := by
  simp only [sumNR, mulTerm, valF, hiPart, Pr, Nat.reduceLeDiff, Nat.reduceSub, Nat.reduceAdd, Nat.le_refl, if_true, if_false, Nat.sub_self, Nat.add_zero, Nat.zero_add, Nat.le_zero_eq, Nat.add_one_ne_zero]
  generalize a 4 = x
  generalize b 0 = b0; generalize b 1 = b1; generalize b 2 = b2; generalize b 3 = b3; generalize b 4 = b4; generalize b 5 = b5; generalize b 6 = b6; generalize b 7 = b7
  generalize b 8 = b8; generalize b 9 = b9; generalize b 10 = b10; generalize b 11 = b11; generalize b 12 = b12; generalize b 13 = b13; generalize b 14 = b14; generalize b 15 = b15
  grind
theorem mulRow5 (a b : Nat → Int) : sumNR (fun i => 65536 ^ i * mulTerm a b i 5) 16 = a 5 * (65536 ^ 5 * valF b - 2 * Pr * hiPart b 5) := by
  simp only [sumNR, mulTerm, valF, hiPart, Pr, Nat.reduceLeDiff, Nat.reduceSub, Nat.reduceAdd, Nat.le_refl, if_true, if_false, Nat.sub_self, Nat.add_zero, Nat.zero_add, Nat.le_zero_eq, Nat.add_one_ne_zero]
  generalize a 5 = x
  generalize b 0 = b0; generalize b 1 = b1; generalize b 2 = b2; generalize b 3 = b3; generalize b 4 = b4; generalize b 5 = b5; generalize b 6 = b6; generalize b 7 = b7
  generalize b 8 = b8; generalize b 9 = b9; generalize b 10 = b10; generalize b 11 = b11; generalize b 12 = b12; generalize b 13 = b13; generalize b 14 = b14; generalize b 15 = b15
  grind
theorem mulRow6 (a b : Nat → Int) : sumNR (fun i => 65536 ^ i * mulTerm a b i 6) 16 = a 6 * (65536 ^ 6 * valF b - 2 * Pr * hiPart b 6) := by
  simp only [sumNR, mulTerm, valF, hiPart, Pr, Nat.reduceLeDiff, Nat.reduceSub, Nat.reduceAdd, Nat.le_refl, if_true, if_false, Nat.sub_self, Nat.add_zero, Nat.zero_add, Nat.le_zero_eq, Nat.add_one_ne_zero]
  generalize a 6 = x
  generalize b 0 = b0; generalize b 1 = b1; generalize b 2 = b2; generalize b 3 = b3; generalize b 4 = b4; generalize b 5 = b5; generalize b 6 = b6; generalize b 7 = b7
  generalize b 8 = b8; generalize b 9 = b9; generalize b 10 = b10; generalize b 11 = b11; generalize b 12 = b12; generalize b 13 = b13; generalize b 14 = b14; generalize b 15 = b15
  grind
theorem mulRow7 (a b : Nat → Int) : sumNR (fun i => 65536 ^ i * mulTerm a b i 7) 16 = a 7 * (65536 ^ 7 * valF b - 2 * Pr * hiPart b 7) := by
  simp only [sumNR, mulTerm, valF, hiPart, Pr, Nat.reduceLeDiff, Nat.reduceSub, Nat.reduceAdd, Nat.le_refl, if_true, if_false, Nat.sub_self, Nat.add_zero, Nat.zero_add, Nat.le_zero_eq, Nat.add_one_ne_zero]
  generalize a 7 = x
  generalize b 0 = b0; generalize b 1 = b1; generalize b 2 = b2; generalize b 3 = b3; generalize b 4 = b4; generalize b 5 = b5; generalize b 6 = b6; generalize b 7 = b7
  generalize b 8 = b8; generalize b 9 = b9; generalize b 10 = b10; generalize b 11 = b11; generalize b 12 = b12; generalize b 13 = b13; generalize b 14 = b14; generalize b 15 = b15
  grind
theorem mulRow8 (a b : Nat → Int) : sumNR (fun i => 65536 ^ i * mulTerm a b i 8) 16 = a 8 * (65536 ^ 8 * valF b - 2 * Pr * hiPart b 8) := by
  simp only [sumNR, mulTerm, valF, hiPart, Pr, Nat.reduceLeDiff, Nat.reduceSub, Nat.reduceAdd, Nat.le_refl, if_true, if_false, Nat.sub_self, Nat.add_zero, Nat.zero_add, Nat.le_zero_eq, Nat.add_one_ne_zero]
  generalize a 8 = x
  generalize b 0 = b0; generalize b 1 = b1; generalize b 2 = b2; generalize b 3 = b3; generalize b 4 = b4; generalize b 5 = b5; generalize b 6 = b6; generalize b 7 = b7
  generalize b 8 = b8; generalize b 9 = b9; generalize b 10 = b10; generalize b 11 = b11; generalize b 12 = b12; generalize b 13 = b13; generalize b 14 = b14; generalize b 15 = b15
  grind
theorem mulRow9 (a b : Nat → Int) : sumNR (fun i => 65536 ^ i * mulTerm a b i 9) 16 = a 9 * (65536 ^ 9 * valF b - 2 * Pr * hiPart b 9) := by
  simp only [sumNR, mulTerm, valF, hiPart, Pr, Nat.reduceLeDiff, Nat.reduceSub, Nat.reduceAdd, Nat.le_refl, if_true, if_false, Nat.sub_self, Nat.add_zero, Nat.zero_add, Nat.le_zero_eq, Nat.add_one_ne_zero]
  generalize a 9 = x
  generalize b 0 = b0; generalize b 1 = b1; generalize b 2 = b2; generalize b 3 = b3; generalize b 4 = b4; generalize b 5 = b5; generalize b 6 = b6; generalize b 7 = b7
  generalize b 8 = b8; generalize b 9 = b9; generalize b 10 = b10; generalize b 11 = b11; generalize b 12 = b12; generalize b 13 = b13; generalize b 14 = b14; generalize b 15 = b15
  grind
theorem mulRow10 (a b : Nat → Int) : sumNR (fun i => 65536 ^ i * mulTerm a b i 10) 16 = a 10 * (65536 ^ 10 * valF b - 2 * Pr * hiPart b 10) := by
  simp only [sumNR, mulTerm, valF, hiPart, Pr, Nat.reduceLeDiff, Nat.reduceSub, Nat.reduceAdd, Nat.le_refl, if_true, if_false, Nat.sub_self, Nat.add_zero, Nat.zero_add, Nat.le_zero_eq, Nat.add_one_ne_zero]
  generalize a 10 = x
  generalize b 0 = b0; generalize b 1 = b1; generalize b 2 = b2; generalize b 3 = b3; generalize b 4 = b4; generalize b 5 = b5; generalize b 6 = b6; generalize b 7 = b7
  generalize b 8 = b8; generalize b 9 = b9; generalize b 10 = b10; generalize b 11 = b11; generalize b 12 = b12; generalize b 13 = b13; generalize b 14 = b14; generalize b 15 = b15
  grind
theorem mulRow11 (a b : Nat → Int) : sumNR (fun i => 65536 ^ i * mulTerm a b i 11) 16 = a 11 * (65536 ^ 11 * valF b - 2 * Pr * hiPart b 11) := by
  simp only [sumNR, mulTerm, valF, hiPart, Pr, Nat.reduceLeDiff, Nat.reduceSub, Nat.reduceAdd, Nat.le_refl, if_true, if_false, Nat.sub_self, Nat.add_zero, Nat.zero_add, Nat.le_zero_eq, Nat.add_one_ne_zero]
  generalize a 11 = x
  generalize b 0 = b0; generalize b 1 = b1; generalize b 2 = b2; generalize b 3 = b3; generalize b 4 = b4; generalize b 5 = b5; generalize b 6 = b6; generalize b 7 = b7
  generalize b 8 = b8; generalize b 9 = b9; generalize b 10 = b10; generalize b 11 = b11; generalize b 12 = b12; generalize b 13 = b13; generalize b 14 = b14; generalize b 15 = b15
  grind
theorem mulRow12 (a b : Nat → Int) : sumNR (fun i => 65536 ^ i * mulTerm a b i 12) 16 = a 12 * (65536 ^ 12 * valF b - 2 * Pr * hiPart b 12) := by
  simp only [sumNR, mulTerm, valF, hiPart, Pr, Nat.reduceLeDiff, Nat.reduceSub, Nat.reduceAdd, Nat.le_refl, if_true, if_false, Nat.sub_self, Nat.add_zero, Nat.zero_add, Nat.le_zero_eq, Nat.add_one_ne_zero]
  generalize a 12 = x
  generalize b 0 = b0; generalize b 1 = b1; generalize b 2 = b2; generalize b 3 = b3; generalize b 4 = b4; generalize b 5 = b5; generalize b 6 = b6; generalize b 7 = b7
  generalize b 8 = b8; generalize b 9 = b9; generalize b 10 = b10; generalize b 11 = b11; generalize b 12 = b12; generalize b 13 = b13; generalize b 14 = b14; generalize b 15 = b15
  grind
theorem mulRow13 (a b : Nat → Int) : sumNR (fun i => 65536 ^ i * mulTerm a b i 13) 16 = a 13 * (65536 ^ 13 * valF b - 2 * Pr * hiPart b 13) := by
  simp only [sumNR, mulTerm, valF, hiPart, Pr, Nat.reduceLeDiff, Nat.reduceSub, Nat.reduceAdd, Nat.le_refl, if_true, if_false, Nat.sub_self, Nat.add_zero, Nat.zero_add, Nat.le_zero_eq, Nat.add_one_ne_zero]
  generalize a 13 = x
  generalize b 0 = b0; generalize b 1 = b1; generalize b 2 = b2; generalize b 3 = b3; generalize b 4 = b4; generalize b 5 = b5; generalize b 6 = b6; generalize b 7 = b7
  generalize b 8 = b8; generalize b 9 = b9; generalize b 10 = b10; generalize b 11 = b11; generalize b 12 = b12; generalize b 13 = b13; generalize b 14 = b14; generalize b 15 = b15
  grind
theorem mulRow14 (a b : Nat → Int) : sumNR (fun i => 65536 ^ i * mulTerm a b i 14) 16 = a 14 * (65536 ^ 14 * valF b - 2 * Pr * hiPart b 14) := by
  simp only [sumNR, mulTerm, valF, hiPart, Pr, Nat.reduceLeDiff, Nat.reduceSub, Nat.reduceAdd, Nat.le_refl, if_true, if_false, Nat.sub_self, Nat.add_zero, Nat.zero_add, Nat.le_zero_eq, Nat.add_one_ne_zero]
  generalize a 14 = x
  generalize b 0 = b0; generalize b 1 = b1; generalize b 2 = b2; generalize b 3 = b3; generalize b 4 = b4; generalize b 5 = b5; generalize b 6 = b6; generalize b 7 = b7
  generalize b 8 = b8; generalize b 9 = b9; generalize b 10 = b10; generalize b 11 = b11; generalize b 12 = b12; generalize b 13 = b13; generalize b 14 = b14; generalize b 15 = b15
  grind
theorem mulRow15 (a b : Nat → Int) : sumNR (fun i => 65536 ^ i * mulTerm a b i 15) 16 = a 15 * (65536 ^ 15 * valF b - 2 * Pr * hiPart b 15) := by
  simp only [sumNR, mulTerm, valF, hiPart, Pr, Nat.reduceLeDiff, Nat.reduceSub, Nat.reduceAdd, Nat.le_refl, if_true, if_false, Nat.sub_self, Nat.add_zero, Nat.zero_add, Nat.le_zero_eq, Nat.add_one_ne_zero]
  generalize a 15 = x
  generalize b 0 = b0; generalize b 1 = b1; generalize b 2 = b2; generalize b 3 = b3; generalize b 4 = b4; generalize b 5 = b5; generalize b 6 = b6; generalize b 7 = b7
  generalize b 8 = b8; generalize b 9 = b9; generalize b 10 = b10; generalize b 11 = b11; generalize b 12 = b12; generalize b 13 = b13; generalize b 14 = b14; generalize b 15 = b15
  grind
theorem mulRow (a b : Nat → Int) (j : Nat) (hj : j < 16) : sumNR (fun i => 65536 ^ i * mulTerm a b i j) 16 = a j * (65536 ^ j * valF b - 2 * Pr * hiPart b j) := by
  have : j = 0 ∨ j = 1 ∨ j = 2 ∨ j = 3 ∨ j = 4 ∨ j = 5 ∨ j = 6 ∨ j = 7 ∨ j = 8 ∨ j = 9 ∨ j = 10 ∨ j = 11 ∨ j = 12 ∨ j = 13 ∨ j = 14 ∨ j = 15 := by omega
  rcases this with rfl | rfl | rfl | rfl | rfl | rfl | rfl | rfl | rfl | rfl | rfl | rfl | rfl | rfl | rfl | rfl
  · exact mulRow0 a b
  · exact mulRow1 a b
  · exact mulRow2 a b
  · exact mulRow3 a b
  · exact mulRow4 a b
  · exact mulRow5 a b
  · exact mulRow6 a b
  · exact mulRow7 a b
  · exact mulRow8 a b
  · exact mulRow9 a b
  · exact mulRow10 a b
  · exact mulRow11 a b
  · exact mulRow12 a b
  · exact mulRow13 a b
  · exact mulRow14 a b
  · exact mulRow15 a b
theorem sum_split (a h : Nat → Int) (V M : Int) : ∀ n, sumNR (fun j => a j * (65536 ^ j * V - M * h j)) n = sumNR (fun j => 65536 ^ j * a j) n * V - M * sumNR (fun j => a j * h j) n
  | 0 => by simp [sumNR]
  | n + 1 => by
    simp only [sumNR]
    rw [sum_split a h V M n]
    generalize sumNR (fun j => 65536 ^ j * a j) n = p
    generalize sumNR (fun j => a j * h j) n = q
    generalize (65536 : Int) ^ n = r
    grind
theorem mul_total (a b : Nat → Int) : sumNR (fun i => 65536 ^ i * mulDig a b i) 16 = valF a * valF b - 2 * Pr * sumNR (fun j => a j * hiPart b j) 16 := by
  have e1 : sumNR (fun i => 65536 ^ i * mulDig a b i) 16 = sumNR (fun i => sumNR (fun j => 65536 ^ i * mulTerm a b i j) 16) 16 :=
    sumN_congr 16 fun i _ => by unfold mulDig; exact sumN_mul _ _ _
  rw [e1, sumN_swap, sumN_congr 16 (mulRow a b), sum_split]
  rfl
theorem valD_range_map (f : Nat → Int) : ∀ n, valD ((List.range n).map f) = sumNR (fun i => 65536 ^ i * f i) n
  | 0 => rfl
  | n + 1 => by
    rw [List.range_succ, List.map_append, List.map_cons, List.map_nil, valD_snoc, valD_range_map f n, List.length_map, List.length_range]
    simp only [sumNR]
    rw [Int.mul_comm]
theorem list_map (a : List Int) (h : a.length = 16) : a = (List.range 16).map fun j => a.getD j 0 := by
  apply List.ext_getElem
  · simp [h]
  · intro i h1 h2
    simp [List.getD, h1]
theorem valD_F (a : List Int) (h : a.length = 16) : valD a = valF fun j => a.getD j 0 := by
  have := valD_range_map (fun j => a.getD j 0) 16
  rw [← list_map a h] at this
  exact this
theorem mul_mod (a b : List Int) (ha : a.length = 16) (hb : b.length = 16) :
    valD ((List.range 16).map (mulDig (fun j => a.getD j 0) (fun j => b.getD j 0))) % Pr = (valD a * valD b) % Pr := by
  rw [valD_range_map, mul_total, valD_F a ha, valD_F b hb]
  generalize valF (fun j => a.getD j 0) * valF (fun j => b.getD j 0) = x
  generalize sumNR _ 16 = y
  have : x = (x - 2 * Pr * y) + Pr * (2 * y) := by grind
  rw [this, Int.add_mul_emod_self_left]
  congr 1
  grind
theorem mulTerm_bound (a b : Nat → Int) (ha : ∀ j, 0 ≤ a j ∧ a j < 65536) (hb : ∀ j, 0 ≤ b j ∧ b j < 65536) (i j : Nat) : 0 ≤ mulTerm a b i j ∧ mulTerm a b i j ≤ 163203776550 := by
  unfold mulTerm
  have key : ∀ x y : Int, 0 ≤ x → x < 65536 → 0 ≤ y → y < 65536 → 0 ≤ x * y ∧ x * y ≤ 4294836225 := fun x y h1 h2 h3 h4 => by
    refine ⟨Int.mul_nonneg h1 h3, ?_⟩
    have := Int.mul_le_mul (show x ≤ 65535 by omega) (show y ≤ 65535 by omega) h3 (by omega : (0 : Int) ≤ 65535)
    simpa using this
  split
  · have := key _ _ (ha j).1 (ha j).2 (hb (i - j)).1 (hb (i - j)).2
    omega
  · have := key _ _ (ha j).1 (ha j).2 (hb (16 + i - j)).1 (hb (16 + i - j)).2
    rw [Int.mul_assoc]
    omega
theorem sumN_bound (f : Nat → Int) (M : Int) (h : ∀ j, 0 ≤ f j ∧ f j ≤ M) : ∀ n : Nat, 0 ≤ sumNR f n ∧ sumNR f n ≤ (n : Int) * M
  | 0 => by simp [sumNR]
  | n + 1 => by
    have ih := sumN_bound f M h n
    have := h n
    simp only [sumNR]
    have e : ((n + 1 : Nat) : Int) * M = (n : Int) * M + M := by rw [Int.natCast_add, Int.add_mul]; simp
    rw [e]
    omega
end Go.Proofs.YthjlhcmdpeinpaaGreatDoor
