/- The texts Ya, Yc, Yd, one behind the other. -/
import Derived.Test.YtdnjieffbgmagaaDoorBg16
import Derived.Test.YtdnjieffbgmagaaDoorRows
import Derived.Test.YtdnjieffbgmagaaDoorQl
import Derived.Test.YtdnjieffbgmagaaDoorBg13
import Derived.BigQuiet
import Derived.Deep.QuietTactic
import Derived.Deep.RegionHeld3
import Derived.Deep.RegionWith
import Derived.Handy
import Derived.Laws.BytesArg
import Derived.Lib.ConvBytes
import Derived.Lib.Hide
import Derived.Lib.Mul64
import Derived.LoopIn
import Derived.LoopNIn
import Derived.OwnWalkIn
import Derived.PlainAid
import Derived.ProofKit
import Derived.RangeFuncBound
import Derived.RangeFuncCalls
import Derived.RangeFuncFrom
import Derived.RangeFuncLeaves
import Derived.RangeFuncNested
import Derived.Shelf.Abstract
import Derived.Shelf.RegionOpen
import Derived.Shelf.Spec.BitsCarry
import Derived.TacticsInMore
import Derived.WalkKit
import Derived.Test.YtdnjieffbgmagaaDoorBg18
/- Sessions in plain mathematics: what may be, one that begins, a text sealed; a session's cells. -/
namespace Go.Proofs.YtdnjieffbgmagaaDoor
open Go.RowKit
set_option maxRecDepth 100000
/-- a session -/
structure Se where
  own : ByteArray
  peer : ByteArray
  root : ByteArray
  send : ByteArray
  recv : ByteArray
  sent : Nat
  got : Nat
  prev : Nat
  kept : List Kk
  used : List ByteArray
deriving DecidableEq
def se0 : Se := ⟨⟨#[]⟩, ⟨#[]⟩, ⟨#[]⟩, ⟨#[]⟩, ⟨#[]⟩, 0, 0, 0, [], []⟩
/-- 32 bytes, or none -/
def openT (x : ByteArray) : Prop := x.size = 0 ∨ x.size = 32
instance (x : ByteArray) : Decidable (openT x) := inferInstanceAs (Decidable (_ ∨ _))
/-- all have 32 bytes -/
def allKeys (l : List ByteArray) : Prop := ∀ i, i < l.length → (l.getD i ⟨#[]⟩).size = 32
instance (l : List ByteArray) : Decidable (allKeys l) := by unfold allKeys; exact inferInstance
/-- may a session be? -/
def rightS (s : Se) : Prop :=
  (s.own.size = 32 ∧ s.root.size = 32 ∧ openT s.peer ∧ openT s.send ∧ openT s.recv ∧ s.used.length ≤ 40) ∧ allKeys s.used ∧
  (s.peer.size = 0 ↔ (s.send.size = 0 ∧ s.recv.size = 0)) ∧ rightK s.kept ∧ s.sent < 4294967296 ∧ s.got < 4294967296 ∧ s.prev < 4294967296
instance (s : Se) : Decidable (rightS s) := by unfold rightS; exact inferInstance
/-- a session's cells -/
def seL (s : Se) (a : Option Addr) (c : Nat) (b : Option Addr) (d : Nat) : List Value := [.string s.own, .string s.peer, .string s.root, .string s.send, .string s.recv, .int .u64 (s.sent : Int), .int .u64 (s.got : Int), .int .u64 (s.prev : Int), .slice a s.kept.length c, .slice b s.used.length d]
def seV (s : Se) (a : Option Addr) (c : Nat) (b : Option Addr) (d : Nat) : Value := .agg (seL s a c b d).toArray
/-- a session's table and tags lie in memory -/
structure SeAt (w : World) (s : Se) (a : Option Addr) (b : Option Addr) : Prop where
  kept : KSl w a s.kept
  used : SSl w b s.used
theorem SeAt.on {w w' : World} {s : Se} {a b : Option Addr} (h : SeAt w s a b) (hb : Below w.heap.size w w') : SeAt w' s a b := ⟨h.kept.on hb, h.used.on hb⟩

end Go.Proofs.YtdnjieffbgmagaaDoor

/- The package session's areKeys and Right; the reference's Right. -/
namespace Go.Proofs.YtdnjieffbgmagaaDoor
open Go.RowKit Go.Sort
set_option maxRecDepth 100000
theorem keys_stepY {l : List ByteArray} {k : Nat} (h : ∀ j, j < k → (l.getD j ⟨#[]⟩).size = 32) (hk : (l.getD k ⟨#[]⟩).size = 32) : ∀ j, j < k + 1 → (l.getD j ⟨#[]⟩).size = 32 := fun j hj => by
  by_cases e : j = k
  · subst e; exact hk
  · exact h j (by omega)
theorem keys_stop {l : List ByteArray} {k : Nat} (hl : k < l.length) (hk : ¬ (l.getD k ⟨#[]⟩).size = 32) : decide (allKeys l) = false := by
  rw [decide_eq_false_iff_not]; exact fun h => hk (h k hl)
def KeysRelY (w : World) (l : List ByteArray) (i : Value) (wr : World) : Prop := ∃ k : Nat, k ≤ l.length ∧ i = .int .i64 (k : Int) ∧ (∀ j, j < k → (l.getD j ⟨#[]⟩).size = 32) ∧ w = wr
set_option maxHeartbeats 1000000 in
theorem areKeysY_any (a : Option Addr) (c : Nat) (l : List ByteArray) (hl : l.length ≤ 1000) (w : World) (hp : SSl w a l) :
    Calls Tryd.prog 39 #[.slice a l.length c] w fun e w' => e = .returned (.bool (decide (allKeys l))) ∧ w = w' := by
  have HP := Lib.hid hp; have HL := Lib.hid hl
  clear hp hl
  go_enter Tryd.func39, Tryd.ntmps39
  go_wp2_with fail
  go_loopw [7] (KeysRelY w l) (fun i _ => l.length - (intOf i).toNat)
  case atStart => exact ⟨0, Nat.zero_le _, rfl, fun j hj => absurd hj (Nat.not_lt_zero j), rfl⟩
  case round =>
    obtain ⟨k, hk, rfl, hall, rfl⟩ := hrel
    by_cases hlt : k < l.length
    · have h1 : (k : Int) < (l.length : Int) := by omega
      have h1k : (k : Int) < 1000 := by have := HL.out; omega
      obtain ⟨b, off, rfl, hbl, hc⟩ := HP.out (by omega)
      have hcell := hc k hlt
      have hst := keys_stepY hall
      have hstop := keys_stop hlt
      obtain ⟨x, ex⟩ : ∃ x, l.getD k ⟨#[]⟩ = x := ⟨_, rfl⟩
      rw [ex] at hcell hst hstop
      have hkey := isKeyY_any x w
      by_cases hx : x.size = 32
      · rw [decide_eq_true hx] at hkey
        have HST := Lib.hid (hst hx); have HK := Lib.hid hkey
        clear hc hst hstop ex hall hx hkey
        go_wp2_with fail
        refine HK.out.mono ?_
        rintro e w1 ⟨rfl, rfl⟩
        clear HK
        go_wp2_with fail
        exact ⟨⟨k + 1, by omega, by simp, HST.out, rfl⟩, by simp [intOf]; omega⟩
      · rw [decide_eq_false hx] at hkey
        have HST := Lib.hid (hstop hx); have HK := Lib.hid hkey
        clear hc hst hstop ex hall hx hkey
        go_wp2_with fail
        refine HK.out.mono ?_
        rintro e w1 ⟨rfl, rfl⟩
        clear HK
        go_wp2_with fail
        go_ret
        rw [HST.out]
        exact ⟨rfl, rfl⟩
    · obtain rfl : k = l.length := by omega
      have HA := Lib.hid (decide_eq_true (show allKeys l from hall))
      have hn : ¬ (l.length : Int) < (l.length : Int) := by omega
      clear hall
      go_wp2_with fail
      go_ret
      rw [HA.out]
      exact ⟨rfl, rfl⟩
theorem seBox (w : World) (s : Se) (a : Option Addr) (c : Nat) (b : Option Addr) (d : Nat) (t : TypeId) : (w.alloc (.cells (seL s a c b d).toArray t)).heap[w.heap.size]? = some (.cells (seL s a c b d).toArray t) := heap_alloc_new _ _
/-- what the call asks, as bools -/
theorem right_bools {s : Se} {k0 k2 n1 n3 n4 p1 q3 q4 ka kr : Bool} (e0 : decide (s.own.size = 32) = k0) (e2 : decide (s.root.size = 32) = k2) (f1 : decide (s.peer.size = 0 ∨ s.peer.size = 32) = n1) (f3 : decide (s.send.size = 0 ∨ s.send.size = 32) = n3) (f4 : decide (s.recv.size = 0 ∨ s.recv.size = 32) = n4)
    (g1 : decide (s.peer.size = 0) = p1) (g3 : decide (s.send.size = 0) = q3) (g4 : decide (s.recv.size = 0) = q4) (ea : decide (allKeys s.used) = ka) (er : decide (rightK s.kept) = kr) :
    decide (rightS s) = (k0 && k2 && n1 && n3 && n4 && (p1 == (q3 && q4)) && decide (s.sent < 4294967296) && decide (s.got < 4294967296) && decide (s.prev < 4294967296) && decide (s.used.length ≤ 40) && ka && kr) := by
  subst e0 e2 f1 f3 f4 g1 g3 g4 ea er
  have hq : (decide (s.peer.size = 0) == (decide (s.send.size = 0) && decide (s.recv.size = 0))) = decide (s.peer.size = 0 ↔ (s.send.size = 0 ∧ s.recv.size = 0)) := by
    rw [Bool.eq_iff_iff, beq_iff_eq, decide_eq_true_eq, Bool.eq_iff_iff, Bool.and_eq_true, decide_eq_true_eq, decide_eq_true_eq, decide_eq_true_eq]
  rw [hq]
  simp only [← Bool.decide_and]
  apply decide_eq_decide.2
  unfold rightS openT
  constructor
  · rintro ⟨⟨h1, h2, h3, h4, h5, h6⟩, h7, h8, h9, h10, h11, h12⟩
    exact ⟨⟨⟨⟨⟨⟨⟨⟨⟨⟨⟨h1, h2⟩, h3⟩, h4⟩, h5⟩, h8⟩, h10⟩, h11⟩, h12⟩, h6⟩, h7⟩, h9⟩
  · rintro ⟨⟨⟨⟨⟨⟨⟨⟨⟨⟨⟨h1, h2⟩, h3⟩, h4⟩, h5⟩, h8⟩, h10⟩, h11⟩, h12⟩, h6⟩, h7⟩, h9⟩
    exact ⟨⟨h1, h2, h3, h4, h5, h6⟩, h7, h8, h9, h10, h11, h12⟩
set_option maxHeartbeats 8000000 in
theorem sRight_any (s : Se) (a : Option Addr) (c : Nat) (b : Option Addr) (d : Nat) (hk : s.kept.length ≤ 1000) (hkc : s.kept.length ≤ c) (hu : s.used.length ≤ 1000) (w : World) (h : SeAt w s a b) :
    Calls Tryd.prog 21 #[seV s a c b d] w fun e w' => e = .returned (.bool (decide (rightS s))) ∧ Below w.heap.size w w' := by
  have hB0 : Below w.heap.size w (w.alloc (.cells (seL s a c b d).toArray 26)) := (Below.refl _ _).alloc (Nat.le_refl _) _
  have hx := seBox w s a c b d 26
  have hR := Right_any a c s.kept hk hkc _ (h.kept.on hB0)
  have hA := areKeysY_any b d s.used hu _ (h.used.on hB0)
  have h0 := isKeyY_any s.own; have h2 := isKeyY_any s.root
  have h1 := isKeyOrNone_any s.peer; have h3 := isKeyOrNone_any s.send; have h4 := isKeyOrNone_any s.recv
  have s1 := str_nilY s.peer; have s3 := str_nilY s.send; have s4 := str_nilY s.recv
  obtain ⟨k0, e0⟩ : ∃ k, decide (s.own.size = 32) = k := ⟨_, rfl⟩
  obtain ⟨k2, e2⟩ : ∃ k, decide (s.root.size = 32) = k := ⟨_, rfl⟩
  obtain ⟨n1, f1⟩ : ∃ k, decide (s.peer.size = 0 ∨ s.peer.size = 32) = k := ⟨_, rfl⟩
  obtain ⟨n3, f3⟩ : ∃ k, decide (s.send.size = 0 ∨ s.send.size = 32) = k := ⟨_, rfl⟩
  obtain ⟨n4, f4⟩ : ∃ k, decide (s.recv.size = 0 ∨ s.recv.size = 32) = k := ⟨_, rfl⟩
  obtain ⟨p1, g1⟩ : ∃ k, decide (s.peer.size = 0) = k := ⟨_, rfl⟩
  obtain ⟨q3, g3⟩ : ∃ k, decide (s.send.size = 0) = k := ⟨_, rfl⟩
  obtain ⟨q4, g4⟩ : ∃ k, decide (s.recv.size = 0) = k := ⟨_, rfl⟩
  obtain ⟨ka, ea⟩ : ∃ k, decide (allKeys s.used) = k := ⟨_, rfl⟩
  obtain ⟨kr, er⟩ : ∃ k, decide (rightK s.kept) = k := ⟨_, rfl⟩
  rw [right_bools e0 e2 f1 f3 f4 g1 g3 g4 ea er]
  rw [e0] at h0; rw [e2] at h2; rw [f1] at h1; rw [f3] at h3; rw [f4] at h4; rw [g1] at s1; rw [g3] at s3; rw [g4] at s4; rw [ea] at hA; rw [er] at hR
  clear e0 e2 f1 f3 f4 g1 g3 g4 ea er
  obtain ⟨ow, pe, ro, se, re, st, gt, pv, kt, us⟩ := s
  unfold seV
  simp only [seL] at hB0 hx hR hA hk hkc hu h0 h1 h2 h3 h4 s1 s3 s4 ⊢
  have HB := Lib.hid hB0; have HX := Lib.hid hx; have HR := Lib.hid hR; have HA := Lib.hid hA; have HK0 := Lib.hid h0; have HK2 := Lib.hid h2; have HN1 := Lib.hid h1; have HN3 := Lib.hid h3; have HN4 := Lib.hid h4
  clear hB0 hx hR hA h hk hkc hu h0 h1 h2 h3 h4
  go_enter Tryd.func21, Tryd.ntmps21
  go_upto_region 1 with fail
  obtain ⟨B, eB⟩ : ∃ B, w.heap.size = B := ⟨_, rfl⟩
  rw [eB] at HX ⊢
  clear eB
  generalize World.alloc w _ = V at HB HX HR HA ⊢
  have d0 : V.cell? ⟨B, 0, none⟩ = some (.string ow) := by rw [cell_of_row _ _ _ _ _ _ HX.out]; rfl
  have d1 : V.cell? ⟨B, 1, none⟩ = some (.string pe) := by rw [cell_of_row _ _ _ _ _ _ HX.out]; rfl
  have d2 : V.cell? ⟨B, 2, none⟩ = some (.string ro) := by rw [cell_of_row _ _ _ _ _ _ HX.out]; rfl
  have d3 : V.cell? ⟨B, 3, none⟩ = some (.string se) := by rw [cell_of_row _ _ _ _ _ _ HX.out]; rfl
  have d4 : V.cell? ⟨B, 4, none⟩ = some (.string re) := by rw [cell_of_row _ _ _ _ _ _ HX.out]; rfl
  have d5 : V.cell? ⟨B, 5, none⟩ = some (.int .u64 (st : Int)) := by rw [cell_of_row _ _ _ _ _ _ HX.out]; rfl
  have d6 : V.cell? ⟨B, 6, none⟩ = some (.int .u64 (gt : Int)) := by rw [cell_of_row _ _ _ _ _ _ HX.out]; rfl
  have d7 : V.cell? ⟨B, 7, none⟩ = some (.int .u64 (pv : Int)) := by rw [cell_of_row _ _ _ _ _ _ HX.out]; rfl
  have d8 : V.cell? ⟨B, 8, none⟩ = some (.slice a kt.length c) := by rw [cell_of_row _ _ _ _ _ _ HX.out]; rfl
  have d9 : V.cell? ⟨B, 9, none⟩ = some (.slice b us.length d) := by rw [cell_of_row _ _ _ _ _ _ HX.out]; rfl
  clear HX
  by_cases hkk : k0 = true ∧ k2 = true ∧ n1 = true ∧ n3 = true ∧ n4 = true
  case neg =>
    have HKK := Lib.hid hkk
    clear hkk
    go_wp2_with (first | (go_at_call_of 37 (Value.string ow); refine (HK0.out _).mono ?_; rintro e w1 ⟨rfl, rfl⟩) | (go_at_call_of 37 (Value.string ro); refine (HK2.out _).mono ?_; rintro e w1 ⟨rfl, rfl⟩) | (go_at_call_of 38 (Value.string pe); refine (HN1.out _).mono ?_; rintro e w1 ⟨rfl, rfl⟩) | (go_at_call_of 38 (Value.string se); refine (HN3.out _).mono ?_; rintro e w1 ⟨rfl, rfl⟩))
    all_goals try
      obtain rfl : n4 = false := by
        have := HKK.out
        cases n4
        · rfl
        · simp_all
      clear HKK
      refine (HN4.out _).mono ?_
      rintro e w1 ⟨rfl, rfl⟩
      clear s1 s3 s4
      go_wp2_with fail
    all_goals
      clear d0 d1 d2 d3 d4 d5 d6 d7 d8 d9
      try clear s1 s3 s4
      go_ret
      refine ⟨ret_bool ?_, HB.out⟩
      simp_all
  case pos =>
    obtain ⟨rfl, rfl, rfl, rfl, rfl⟩ := hkk
    by_cases hE : (p1 == (q3 && q4)) = true
    case neg =>
      have HY := Lib.hid hE
      cases p1 <;> cases q3 <;> cases q4
      all_goals first | (exfalso; exact hE rfl) | clear hE
      all_goals
        go_wp2_with (first | (go_at_call_of 37 (Value.string ow); refine (HK0.out _).mono ?_; rintro e w1 ⟨rfl, rfl⟩) | (go_at_call_of 37 (Value.string ro); refine (HK2.out _).mono ?_; rintro e w1 ⟨rfl, rfl⟩) | (go_at_call_of 38 (Value.string pe); refine (HN1.out _).mono ?_; rintro e w1 ⟨rfl, rfl⟩) | (go_at_call_of 38 (Value.string se); refine (HN3.out _).mono ?_; rintro e w1 ⟨rfl, rfl⟩) | (go_at_call_of 38 (Value.string re); refine (HN4.out _).mono ?_; rintro e w1 ⟨rfl, rfl⟩))
        go_ret
        exact ⟨ret_bool (by simp), HB.out⟩
    case pos =>
      by_cases x1 : (st : Int) < 4294967296
      · by_cases x2 : (gt : Int) < 4294967296
        · by_cases x3 : (pv : Int) < 4294967296
          · by_cases x4 : (us.length : Int) ≤ 40
            · have y1 : decide (st < 4294967296) = true := decide_eq_true (by omega)
              have y2 : decide (gt < 4294967296) = true := decide_eq_true (by omega)
              have y3 : decide (pv < 4294967296) = true := decide_eq_true (by omega)
              have y4 : decide (us.length ≤ 40) = true := decide_eq_true (by omega)
              have HY := Lib.hid (And.intro y1 (And.intro y2 (And.intro y3 y4)))
              clear y1 y2 y3 y4
              cases p1 <;> cases q3 <;> cases q4
              all_goals first | (exfalso; revert hE; decide) | clear hE
              all_goals
                go_wp2_with (first | (go_at_call_of 37 (Value.string ow); refine (HK0.out _).mono ?_; rintro e w1 ⟨rfl, rfl⟩) | (go_at_call_of 37 (Value.string ro); refine (HK2.out _).mono ?_; rintro e w1 ⟨rfl, rfl⟩) | (go_at_call_of 38 (Value.string pe); refine (HN1.out _).mono ?_; rintro e w1 ⟨rfl, rfl⟩) | (go_at_call_of 38 (Value.string se); refine (HN3.out _).mono ?_; rintro e w1 ⟨rfl, rfl⟩) | (go_at_call_of 38 (Value.string re); refine (HN4.out _).mono ?_; rintro e w1 ⟨rfl, rfl⟩))
                refine HA.out.mono ?_
                rintro e w1 ⟨rfl, rfl⟩
                clear d0 d1 d2 d3 d4 d5 d6 d7 s1 s3 s4 x1 x2 x3 x4
                cases ka
                · go_wp2_with fail
                  go_ret
                  exact ⟨ret_bool (by simp), HB.out⟩
                · go_wp2_with fail
                  refine HR.out.mono ?_
                  rintro e w1 ⟨rfl, hb⟩
                  have HB1 := Lib.hid hb
                  clear hb
                  go_wp2_with fail
                  go_ret
                  refine ⟨ret_bool ?_, HB.out.trans (HB1.out.mono HB.out.size)⟩
                  rw [HY.out.1, HY.out.2.1, HY.out.2.2.1, HY.out.2.2.2]
                  simp
            · have y4 : decide (us.length ≤ 40) = false := decide_eq_false (by omega)
              have HY := Lib.hid y4
              clear y4
              replace x4 := decide_eq_false x4
              cases p1 <;> cases q3 <;> cases q4
              all_goals first | (exfalso; revert hE; decide) | clear hE
              all_goals
                go_wp2_with (first | (go_at_call_of 37 (Value.string ow); refine (HK0.out _).mono ?_; rintro e w1 ⟨rfl, rfl⟩) | (go_at_call_of 37 (Value.string ro); refine (HK2.out _).mono ?_; rintro e w1 ⟨rfl, rfl⟩) | (go_at_call_of 38 (Value.string pe); refine (HN1.out _).mono ?_; rintro e w1 ⟨rfl, rfl⟩) | (go_at_call_of 38 (Value.string se); refine (HN3.out _).mono ?_; rintro e w1 ⟨rfl, rfl⟩) | (go_at_call_of 38 (Value.string re); refine (HN4.out _).mono ?_; rintro e w1 ⟨rfl, rfl⟩))
                go_ret
                exact ⟨ret_bool (by rw [HY.out]; simp), HB.out⟩
          · have y3 : decide (pv < 4294967296) = false := decide_eq_false (by omega)
            have HY := Lib.hid y3
            clear y3
            replace x3 := decide_eq_false x3
            cases p1 <;> cases q3 <;> cases q4
            all_goals first | (exfalso; revert hE; decide) | clear hE
            all_goals
              go_wp2_with (first | (go_at_call_of 37 (Value.string ow); refine (HK0.out _).mono ?_; rintro e w1 ⟨rfl, rfl⟩) | (go_at_call_of 37 (Value.string ro); refine (HK2.out _).mono ?_; rintro e w1 ⟨rfl, rfl⟩) | (go_at_call_of 38 (Value.string pe); refine (HN1.out _).mono ?_; rintro e w1 ⟨rfl, rfl⟩) | (go_at_call_of 38 (Value.string se); refine (HN3.out _).mono ?_; rintro e w1 ⟨rfl, rfl⟩) | (go_at_call_of 38 (Value.string re); refine (HN4.out _).mono ?_; rintro e w1 ⟨rfl, rfl⟩))
              go_ret
              exact ⟨ret_bool (by rw [HY.out]; simp), HB.out⟩
        · have y2 : decide (gt < 4294967296) = false := decide_eq_false (by omega)
          have HY := Lib.hid y2
          clear y2
          replace x2 := decide_eq_false x2
          cases p1 <;> cases q3 <;> cases q4
          all_goals first | (exfalso; revert hE; decide) | clear hE
          all_goals
            go_wp2_with (first | (go_at_call_of 37 (Value.string ow); refine (HK0.out _).mono ?_; rintro e w1 ⟨rfl, rfl⟩) | (go_at_call_of 37 (Value.string ro); refine (HK2.out _).mono ?_; rintro e w1 ⟨rfl, rfl⟩) | (go_at_call_of 38 (Value.string pe); refine (HN1.out _).mono ?_; rintro e w1 ⟨rfl, rfl⟩) | (go_at_call_of 38 (Value.string se); refine (HN3.out _).mono ?_; rintro e w1 ⟨rfl, rfl⟩) | (go_at_call_of 38 (Value.string re); refine (HN4.out _).mono ?_; rintro e w1 ⟨rfl, rfl⟩))
            go_ret
            exact ⟨ret_bool (by rw [HY.out]; simp), HB.out⟩
      · have y1 : decide (st < 4294967296) = false := decide_eq_false (by omega)
        have HY := Lib.hid y1
        clear y1
        replace x1 := decide_eq_false x1
        cases p1 <;> cases q3 <;> cases q4
        all_goals first | (exfalso; revert hE; decide) | clear hE
        all_goals
          go_wp2_with (first | (go_at_call_of 37 (Value.string ow); refine (HK0.out _).mono ?_; rintro e w1 ⟨rfl, rfl⟩) | (go_at_call_of 37 (Value.string ro); refine (HK2.out _).mono ?_; rintro e w1 ⟨rfl, rfl⟩) | (go_at_call_of 38 (Value.string pe); refine (HN1.out _).mono ?_; rintro e w1 ⟨rfl, rfl⟩) | (go_at_call_of 38 (Value.string se); refine (HN3.out _).mono ?_; rintro e w1 ⟨rfl, rfl⟩) | (go_at_call_of 38 (Value.string re); refine (HN4.out _).mono ?_; rintro e w1 ⟨rfl, rfl⟩))
          go_ret
          exact ⟨ret_bool (by rw [HY.out]; simp), HB.out⟩
end Go.Proofs.YtdnjieffbgmagaaDoor

/- The reference's Right: whether a session may be. -/
namespace Go.Proofs.YtdnjieffbgmagaaDoor
open Go.RowKit Go.Sort
set_option maxRecDepth 100000
theorem not_key {x : ByteArray} {k : Bool} (h : decide (x.size = 32) = k) : ((x.size : Int) != 32) = !k := by
  subst h
  by_cases e : x.size = 32
  · rw [decide_eq_true e, e]; rfl
  · rw [decide_eq_false e, bne, Bool.not_false, Bool.not_eq_true', beq_eq_false_iff_ne]; omega
set_option maxHeartbeats 8000000 in
theorem rRight_any (s : Se) (a : Option Addr) (c : Nat) (b : Option Addr) (d : Nat) (hk : s.kept.length ≤ 1000) (hkc : s.kept.length ≤ c) (hu : s.used.length ≤ 1000) (w : World) (h : SeAt w s a b) :
    Calls Tryd.prog 11 #[seV s a c b d] w fun e w' => e = .returned (.bool (decide (rightS s))) ∧ Below w.heap.size w w' := by
  have hB0 : Below w.heap.size w (w.alloc (.cells (seL s a c b d).toArray 26)) := (Below.refl _ _).alloc (Nat.le_refl _) _
  have hx := seBox w s a c b d 26
  have hR := rightR_any a c s.kept hk hkc _ (h.kept.on hB0)
  have hU := h.used.on hB0
  have h1 := openY_any s.peer; have h3 := openY_any s.send; have h4 := openY_any s.recv
  have s1 := str_nilY s.peer; have s3 := str_nilY s.send; have s4 := str_nilY s.recv
  obtain ⟨k0, e0⟩ : ∃ k, decide (s.own.size = 32) = k := ⟨_, rfl⟩
  obtain ⟨k2, e2⟩ : ∃ k, decide (s.root.size = 32) = k := ⟨_, rfl⟩
  obtain ⟨n1, f1⟩ : ∃ k, decide (s.peer.size = 0 ∨ s.peer.size = 32) = k := ⟨_, rfl⟩
  obtain ⟨n3, f3⟩ : ∃ k, decide (s.send.size = 0 ∨ s.send.size = 32) = k := ⟨_, rfl⟩
  obtain ⟨n4, f4⟩ : ∃ k, decide (s.recv.size = 0 ∨ s.recv.size = 32) = k := ⟨_, rfl⟩
  obtain ⟨p1, g1⟩ : ∃ k, decide (s.peer.size = 0) = k := ⟨_, rfl⟩
  obtain ⟨q3, g3⟩ : ∃ k, decide (s.send.size = 0) = k := ⟨_, rfl⟩
  obtain ⟨q4, g4⟩ : ∃ k, decide (s.recv.size = 0) = k := ⟨_, rfl⟩
  obtain ⟨ka, ea⟩ : ∃ k, decide (allKeys s.used) = k := ⟨_, rfl⟩
  obtain ⟨kr, er⟩ : ∃ k, decide (rightK s.kept) = k := ⟨_, rfl⟩
  rw [right_bools e0 e2 f1 f3 f4 g1 g3 g4 ea er]
  rw [f1] at h1; rw [f3] at h3; rw [f4] at h4; rw [g1] at s1; rw [g3] at s3; rw [g4] at s4; rw [er] at hR
  have m0 := not_key e0; have m2 := not_key e2
  have HA := Lib.hid ea
  clear e0 e2 f1 f3 f4 g1 g3 g4 ea er
  obtain ⟨ow, pe, ro, se, re, st, gt, pv, kt, us⟩ := s
  unfold seV
  simp only [seL] at hB0 hx hR hU hk hkc hu h1 h3 h4 s1 s3 s4 m0 m2 HA ⊢
  have HB := Lib.hid hB0; have HX := Lib.hid hx; have HR := Lib.hid hR; have HU := Lib.hid hU; have HN1 := Lib.hid h1; have HN3 := Lib.hid h3; have HN4 := Lib.hid h4; have HL := Lib.hid hu
  clear hB0 hx hR hU h hk hkc hu h1 h3 h4
  go_enter Tryd.func11, Tryd.ntmps11
  go_upto_region 1 with fail
  obtain ⟨B, eB⟩ : ∃ B, w.heap.size = B := ⟨_, rfl⟩
  rw [eB] at HX ⊢
  clear eB
  generalize World.alloc w _ = V at HB HX HR HU ⊢
  have d0 : V.cell? ⟨B, 0, none⟩ = some (.string ow) := by rw [cell_of_row _ _ _ _ _ _ HX.out]; rfl
  have d1 : V.cell? ⟨B, 1, none⟩ = some (.string pe) := by rw [cell_of_row _ _ _ _ _ _ HX.out]; rfl
  have d2 : V.cell? ⟨B, 2, none⟩ = some (.string ro) := by rw [cell_of_row _ _ _ _ _ _ HX.out]; rfl
  have d3 : V.cell? ⟨B, 3, none⟩ = some (.string se) := by rw [cell_of_row _ _ _ _ _ _ HX.out]; rfl
  have d4 : V.cell? ⟨B, 4, none⟩ = some (.string re) := by rw [cell_of_row _ _ _ _ _ _ HX.out]; rfl
  have d5 : V.cell? ⟨B, 5, none⟩ = some (.int .u64 (st : Int)) := by rw [cell_of_row _ _ _ _ _ _ HX.out]; rfl
  have d6 : V.cell? ⟨B, 6, none⟩ = some (.int .u64 (gt : Int)) := by rw [cell_of_row _ _ _ _ _ _ HX.out]; rfl
  have d7 : V.cell? ⟨B, 7, none⟩ = some (.int .u64 (pv : Int)) := by rw [cell_of_row _ _ _ _ _ _ HX.out]; rfl
  have d8 : V.cell? ⟨B, 8, none⟩ = some (.slice a kt.length c) := by rw [cell_of_row _ _ _ _ _ _ HX.out]; rfl
  have d9 : V.cell? ⟨B, 9, none⟩ = some (.slice b us.length d) := by rw [cell_of_row _ _ _ _ _ _ HX.out]; rfl
  by_cases hkk : k0 = true ∧ k2 = true ∧ n1 = true ∧ n3 = true ∧ n4 = true
  case neg =>
    have HKK := Lib.hid hkk
    clear hkk s1 s3 s4 HA
    go_wp2_with (first | (go_at_call_of 26 (Value.string pe); refine (HN1.out _).mono ?_; rintro e w1 ⟨rfl, rfl⟩) | (go_at_call_of 26 (Value.string se); refine (HN3.out _).mono ?_; rintro e w1 ⟨rfl, rfl⟩))
    all_goals try
      obtain rfl : n4 = false := by
        have := HKK.out
        cases n4
        · rfl
        · simp_all
      clear HKK
      refine (HN4.out _).mono ?_
      rintro e w1 ⟨rfl, rfl⟩
      go_wp2_with fail
    all_goals
      clear d0 d1 d2 d3 d4 d5 d6 d7 d8 d9
      go_ret
      refine ⟨ret_bool ?_, HB.out⟩
      simp_all
  case pos =>
    obtain ⟨rfl, rfl, rfl, rfl, rfl⟩ := hkk
    rw [Bool.not_true] at m0 m2
    by_cases x4 : us.length ≤ 40
    case neg =>
      have x5 : (40 : Int) < (us.length : Int) := by omega
      have HY := Lib.hid (decide_eq_false x4)
      clear x4 s1 s3 s4
      go_wp2_with (first | (go_at_call_of 26 (Value.string pe); refine (HN1.out _).mono ?_; rintro e w1 ⟨rfl, rfl⟩) | (go_at_call_of 26 (Value.string se); refine (HN3.out _).mono ?_; rintro e w1 ⟨rfl, rfl⟩) | (go_at_call_of 26 (Value.string re); refine (HN4.out _).mono ?_; rintro e w1 ⟨rfl, rfl⟩))
      go_ret
      exact ⟨ret_bool (by rw [HY.out]; simp), HB.out⟩
    case pos =>
      have x5 : decide ((40 : Int) < (us.length : Int)) = false := decide_eq_false (by omega)
      have HY := Lib.hid (decide_eq_true x4)
      clear x4
      go_wp2_with (first | (go_at_call_of 26 (Value.string pe); refine (HN1.out _).mono ?_; rintro e w1 ⟨rfl, rfl⟩) | (go_at_call_of 26 (Value.string se); refine (HN3.out _).mono ?_; rintro e w1 ⟨rfl, rfl⟩) | (go_at_call_of 26 (Value.string re); refine (HN4.out _).mono ?_; rintro e w1 ⟨rfl, rfl⟩))
      clear d0 d2 m0 m2 x5
      go_loopw [42] (KeysRelY V us) (fun i _ => us.length - (intOf i).toNat)
      case atStart => exact ⟨0, Nat.zero_le _, rfl, fun j hj => absurd hj (Nat.not_lt_zero j), rfl⟩
      case round =>
        obtain ⟨k, hk, rfl, hall, rfl⟩ := hrel
        by_cases hlt : k < us.length
        · have h1 : (k : Int) < (us.length : Int) := by omega
          have h1k : (k : Int) < 1000 := by have := HL.out; omega
          obtain ⟨g, off, rfl, hbl, hc⟩ := HU.out (by omega)
          have hcell := hc k hlt
          have hst := keys_stepY hall
          have hstop := keys_stop hlt
          obtain ⟨x, ex⟩ : ∃ x, us.getD k ⟨#[]⟩ = x := ⟨_, rfl⟩
          rw [ex] at hcell hst hstop
          by_cases hx : x.size = 32
          · have hne : ((x.size : Int) != 32) = false := by rw [hx]; rfl
            have HST := Lib.hid (hst hx)
            clear hc hst hstop ex hall hx
            go_wp2_with fail
            exact ⟨⟨k + 1, by omega, by simp, HST.out, rfl⟩, by simp [intOf]; omega⟩
          · have hne : ((x.size : Int) != 32) = true := by rw [bne, Bool.not_eq_true', beq_eq_false_iff_ne]; omega
            have HST := Lib.hid (HA.out.symm.trans (hstop hx))
            clear hc hst hstop ex hall hx HA
            go_wp2_with fail
            go_ret
            exact ⟨ret_bool (by rw [HST.out]; simp), HB.out⟩
        · obtain rfl : k = us.length := by omega
          have hn : ¬ (us.length : Int) < (us.length : Int) := by omega
          obtain rfl : ka = true := by rw [← HA.out]; exact decide_eq_true (show allKeys us from hall)
          clear hall HA hlt hk HU HN1 HN3 HN4
          by_cases hE : (p1 == (q3 && q4)) = true
          case neg =>
            cases p1 <;> cases q3 <;> cases q4
            all_goals first | (exfalso; exact hE rfl) | clear hE
            all_goals
              go_wp2_with fail
              go_ret
              exact ⟨ret_bool (by simp), HB.out⟩
          case pos =>
            have HE := Lib.hid hE
            cases p1 <;> cases q3 <;> cases q4
            all_goals first | (exfalso; revert hE; decide) | clear hE
            all_goals
              clear HE
              go_wp2_with fail
              refine HR.out.mono ?_
              rintro e w1 ⟨rfl, hb⟩
              have hx1 := (hb.block B (Array.getElem?_eq_some_iff.1 HX.out).1).trans HX.out
              have u5 : w1.cell? ⟨B, 5, none⟩ = some (.int .u64 (st : Int)) := by rw [cell_of_row _ _ _ _ _ _ hx1]; rfl
              have u6 : w1.cell? ⟨B, 6, none⟩ = some (.int .u64 (gt : Int)) := by rw [cell_of_row _ _ _ _ _ _ hx1]; rfl
              have u7 : w1.cell? ⟨B, 7, none⟩ = some (.int .u64 (pv : Int)) := by rw [cell_of_row _ _ _ _ _ _ hx1]; rfl
              have HB1 := Lib.hid (HB.out.trans (hb.mono HB.out.size))
              clear hb hx1 d1 d3 d4 d5 d6 d7 d8 d9 s1 s3 s4 hn
              cases kr
              · go_wp2_with fail
                go_ret
                exact ⟨ret_bool (by simp), HB1.out⟩
              by_cases x1 : st < 4294967296
              case neg =>
                have y1 : decide ((st : Int) < 4294967296) = false := decide_eq_false (by omega)
                have HY1 := Lib.hid (decide_eq_false x1)
                clear x1
                go_wp2_with fail
                go_ret
                exact ⟨ret_bool (by rw [HY1.out]; simp), HB1.out⟩
              by_cases x2 : gt < 4294967296
              case neg =>
                have y1 : (st : Int) < 4294967296 := by omega
                have y2 : decide ((gt : Int) < 4294967296) = false := decide_eq_false (by omega)
                have HY1 := Lib.hid (decide_eq_false x2)
                clear x1 x2
                go_wp2_with fail
                go_ret
                exact ⟨ret_bool (by rw [HY1.out]; simp), HB1.out⟩
              have y1 : (st : Int) < 4294967296 := by omega
              have y2 : (gt : Int) < 4294967296 := by omega
              have y3 : decide ((pv : Int) < 4294967296) = decide (pv < 4294967296) := by rw [decide_eq_decide]; omega
              have HY1 := Lib.hid (And.intro (decide_eq_true x1) (decide_eq_true x2))
              obtain ⟨q, hq⟩ : ∃ q, decide (pv < 4294967296) = q := ⟨_, rfl⟩
              rw [hq] at y3
              have HQ := Lib.hid hq
              clear x1 x2 hq
              go_wp2_with fail
              go_ret
              exact ⟨ret_bool (by rw [HY1.out.1, HY1.out.2, HY.out, HQ.out]; simp), HB1.out⟩
end Go.Proofs.YtdnjieffbgmagaaDoor
