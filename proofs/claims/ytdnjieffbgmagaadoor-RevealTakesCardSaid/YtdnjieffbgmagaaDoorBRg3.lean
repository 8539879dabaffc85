/- The texts Yo, Yp, one behind the other. -/
import Derived.Test.YtdnjieffbgmagaaDoorBRg1
import Derived.Test.YtdnjieffbgmagaaDoorBg12
import Derived.Test.YtdnjieffbgmagaaDoorBg17
import Derived.Test.YtdnjieffbgmagaaDoorBRg2
import Derived.Test.YtdnjieffbgmagaaDoorBg15
import Derived.Deep.DeepHandedRow
import Derived.Stop.LaidErr
/- A session that came in: its fields, its table and its tags can be read. -/
namespace Go.Proofs.YtdnjieffbgmagaaDoor
open Go.RowKit Go.ChangeShapes Go.WideShapes Go.Deep
set_option maxRecDepth 100000
theorem cellsSession : Tryd.prog.cellsOf 26 = 10 := by kernel_rfl
theorem open_keptsT {H : Type} {enc : TypeId × Value → H} {W : World} {base : Nat} {spare : Nat → Bool} {held : Bool} {n1 : Nat} {v : Value} {y : DataW H × List MemPlace}
    (hf' : DataW.trod enc Tryd.prog W base spare held n1 23 [v] = some y) :
    ∃ (a : Option Addr) (c : Nat) (l : List Kk), v = .slice a l.length c ∧ l.length ≤ maxLen ∧ l.length ≤ c ∧ KSl W a l := by
  rcases open_slice Tryd.underlying23 hf' with ⟨hcs, -⟩ | ⟨a, len, cap, m, n, D, Pl, hcs, -, hlc, hcm, hmm, -, hi⟩
  · obtain rfl : v = .slice none 0 0 := by simpa using hcs
    exact ⟨none, 0, [], rfl, Nat.zero_le _, Nat.le_refl _, KSl.nil _ _⟩
  · obtain rfl : v = .slice (some a) len cap := by simpa using hcs
    have hle : len ≤ m := by rw [hmm]; split <;> omega
    have each : ∀ i, i < len → ∃ q : Kk, KkIn q ∧ W.cell? (a.add (i * 3)) = some (.string q.r) ∧ W.cell? ((a.add (i * 3)).add 1) = some (.int .u64 (q.n : Int)) ∧ W.cell? ((a.add (i * 3)).add 2) = some (.string q.k) := by
      intro i him
      obtain ⟨cs', hc, ht⟩ := hi i (by omega)
      rw [cellsKept] at hc
      obtain ⟨-, hlen, hat⟩ := World.cells?_some hc
      match cs', hlen with
      | [v0, v1, v2], _ =>
        obtain ⟨y0, y1, y2, k, -, -, h0, h1, h2⟩ := trod_struct3 Tryd.underlying56 ht
        simp only [cellsStrK, cellsU64K, List.drop_zero, List.drop_succ_cons, List.take_succ_cons, List.take_zero] at h0 h1 h2
        obtain ⟨b, e0, -, hb0⟩ := DataW.trod_string Tryd.underlying9 h0
        obtain ⟨z, e1, -, hz⟩ := DataW.trod_int Tryd.underlying22 h1
        obtain ⟨x, e2, -, hx⟩ := DataW.trod_string Tryd.underlying9 h2
        obtain rfl : v0 = .string b := by simpa using e0
        obtain rfl : v1 = .int .u64 z := by simpa using e1
        obtain rfl : v2 = .string x := by simpa using e2
        have hz' : 0 ≤ z ∧ z < 18446744073709551616 := by
          simp [Lit.wf] at hz
          have e : IntKind.u64.max = 18446744073709551615 := by rfl
          have e' : IntKind.u64.min = 0 := by rfl
          omega
        obtain ⟨q, rfl⟩ := Int.eq_ofNat_of_zero_le hz'.1
        have g0 := hat 0 (by omega)
        have g1 := hat 1 (by omega)
        have g2 := hat 2 (by omega)
        rw [show (a.add (i * 3)).add 0 = a.add (i * 3) from rfl] at g0
        exact ⟨⟨b, q, x⟩, ⟨hb0, by show q < _; omega, hx⟩, by simpa using g0, by simpa using g1, by simpa using g2⟩
    haveI : Inhabited Kk := ⟨k00⟩
    obtain ⟨F, hF⟩ := choose_lt each
    have hget : ∀ i, i < len → ((List.range len).map F).getD i k00 = F i := fun i hin => by simp [List.getD, hin]
    refine ⟨some a, cap, (List.range len).map F, by simp, by simp; omega, by simp; exact hlc, fun h0 => ?_⟩
    · simp only [List.length_map, List.length_range] at h0
      obtain ⟨-, g0, -, -⟩ := hF 0 h0
      rw [Nat.zero_mul, show a.add 0 = a from rfl] at g0
      obtain ⟨hap, hab⟩ := cell_plain g0
      refine ⟨a.block, a.off, by rw [← hap], hab, fun i hin => ?_⟩
      simp only [List.length_map, List.length_range] at hin
      rw [hget i hin]
      obtain ⟨-, g0, g1, g2⟩ := hF i hin
      have hadd : a.add (i * 3) = ⟨a.block, a.off + i * 3, none⟩ := by rw [hap]; exact Addr.add_mid _ _ _
      rw [hadd] at g0 g1 g2
      rw [Addr.add_mid] at g1 g2
      exact ⟨g0, g1, g2⟩
set_option maxHeartbeats 4000000 in
theorem open_session {H : Type} {enc : TypeId × Value → H} {W : World} {r : Reach} {b0 base : Nat} {spare : Nat → Bool} {held : Bool} {v : Value} {d : DataW H} {p : List MemPlace}
    (hval : Value.okWide Tryd.prog W r b0 26 v) (h : DataW.Trod enc Tryd.prog W base spare held 26 v d p) :
    ∃ (a : Option Addr) (c : Nat) (b : Option Addr) (d : Nat) (s : Se), v = seV s a c b d ∧ s.kept.length ≤ maxLen ∧ s.kept.length ≤ c ∧ s.used.length ≤ maxLen ∧ s.used.length ≤ d ∧ SeAt W s a b := by
  obtain ⟨cs, rfl, hsz⟩ := okWide_struct Tryd.underlying26 hval
  rw [cellsSession] at hsz
  obtain ⟨l⟩ := cs
  obtain ⟨fuel, hf⟩ := h
  clear hval
  match l, hsz with
  | [v0, v1, v2, v3, v4, v5, v6, v7, v8, v9], _ =>
    obtain ⟨n, Y, hfi⟩ := fields_of Tryd.underlying26 (by kernel_rfl) rfl hf
    have h0 : DataW.trod enc Tryd.prog W base spare held n 9 [v0] = some (Y 0) := hfi 0 _ rfl
    have h1 : DataW.trod enc Tryd.prog W base spare held n 9 [v1] = some (Y 1) := hfi 1 _ rfl
    have h2 : DataW.trod enc Tryd.prog W base spare held n 9 [v2] = some (Y 2) := hfi 2 _ rfl
    have h3 : DataW.trod enc Tryd.prog W base spare held n 9 [v3] = some (Y 3) := hfi 3 _ rfl
    have h4 : DataW.trod enc Tryd.prog W base spare held n 9 [v4] = some (Y 4) := hfi 4 _ rfl
    have h5 : DataW.trod enc Tryd.prog W base spare held n 22 [v5] = some (Y 5) := hfi 5 _ rfl
    have h6 : DataW.trod enc Tryd.prog W base spare held n 22 [v6] = some (Y 6) := hfi 6 _ rfl
    have h7 : DataW.trod enc Tryd.prog W base spare held n 22 [v7] = some (Y 7) := hfi 7 _ rfl
    have h8 : DataW.trod enc Tryd.prog W base spare held n 23 [v8] = some (Y 8) := hfi 8 _ rfl
    have h9 : DataW.trod enc Tryd.prog W base spare held n 24 [v9] = some (Y 9) := hfi 9 _ rfl
    clear hfi hf
    obtain ⟨s0, e0, -, -⟩ := DataW.trod_string Tryd.underlying9 h0
    obtain rfl : v0 = .string s0 := by simpa using e0
    obtain ⟨s1, e1, -, -⟩ := DataW.trod_string Tryd.underlying9 h1
    obtain rfl : v1 = .string s1 := by simpa using e1
    obtain ⟨s2, e2, -, -⟩ := DataW.trod_string Tryd.underlying9 h2
    obtain rfl : v2 = .string s2 := by simpa using e2
    obtain ⟨s3, e3, -, -⟩ := DataW.trod_string Tryd.underlying9 h3
    obtain rfl : v3 = .string s3 := by simpa using e3
    obtain ⟨s4, e4, -, -⟩ := DataW.trod_string Tryd.underlying9 h4
    obtain rfl : v4 = .string s4 := by simpa using e4
    obtain ⟨z5, e5, -, hz5⟩ := DataW.trod_int Tryd.underlying22 h5
    obtain rfl : v5 = .int .u64 z5 := by simpa using e5
    obtain ⟨n5, rfl, -⟩ := u64_of z5 hz5
    obtain ⟨z6, e6, -, hz6⟩ := DataW.trod_int Tryd.underlying22 h6
    obtain rfl : v6 = .int .u64 z6 := by simpa using e6
    obtain ⟨n6, rfl, -⟩ := u64_of z6 hz6
    obtain ⟨z7, e7, -, hz7⟩ := DataW.trod_int Tryd.underlying22 h7
    obtain rfl : v7 = .int .u64 z7 := by simpa using e7
    obtain ⟨n7, rfl, -⟩ := u64_of z7 hz7
    obtain ⟨a, c, ks, rfl, k1, k2, k3⟩ := open_keptsT h8
    obtain ⟨b, d, us, rfl, u1, u2, -, u4⟩ := open_keys h9
    exact ⟨a, c, b, d, ⟨s0, s1, s2, s3, s4, n5, n6, n7, ks, us⟩, rfl, k1, k2, u1, u2, k3, u4⟩
end Go.Proofs.YtdnjieffbgmagaaDoor

/- The package variables out of the given rows of sessions, and a world for the witness. -/
namespace Go.Proofs.YtdnjieffbgmagaaDoor
open Go.RowKit Go.ChangeShapes Go.WideShapes
set_option maxRecDepth 100000
theorem met_head {P : Program} {x : String × DataW Unit} {r : List (String × DataW Unit)} {w : World} (h : laidMet P (x :: r) w) : laidMet P [x] w := by
  obtain ⟨ps, ⟨g, t, cs, fuel, p, q, e1, e2, e3, e4, hr, rfl⟩, hnd, hrows⟩ := h
  refine ⟨_ ++ [], ⟨g, t, cs, fuel, p, [], e1, e2, e3, e4, rfl, rfl⟩, ?_, fun b off hp => hrows b off ?_⟩
  · rw [List.append_nil]; exact (List.nodup_append.1 hnd).1
  · rw [List.append_nil] at hp; exact List.mem_append_left _ hp
theorem gFirstY : Tryd.prog.globalNamed "demurral/digest.firstWords" = some 1 := by kernel_rfl
theorem gKeysY : Tryd.prog.globalNamed "demurral/digest.keys" = some 2 := by kernel_rfl
theorem tFirstY : (Tryd.prog.globals[1]?).map (·.type) = some 144 := by kernel_rfl
theorem tKeysY : (Tryd.prog.globals[2]?).map (·.type) = some 152 := by kernel_rfl
theorem cFirstY : Tryd.prog.cellsOf 144 = 8 := by kernel_rfl
theorem cKeysY : Tryd.prog.cellsOf 152 = 64 := by kernel_rfl
theorem one32 : Tryd.prog.cellsOf 92 = 1 := by kernel_rfl
theorem one64 : Tryd.prog.cellsOf 22 = 1 := by kernel_rfl
def primeInts : List Int := [18446744073709551597, 18446744073709551615, 18446744073709551615, 9223372036854775807]
def firstIntsY : List Int := firstS.l.map fun x => (x.toNat : Int)
def keysIntsY : List Int := keysL.map fun x => (x.toNat : Int)
theorem first_met {W : World} {r : List (String × DataW Unit)} (h : laidMet Tryd.prog (("demurral/digest.firstWords", Lib.tabData .u32 firstIntsY) :: r) W) : FirstAt W := by
  have T : Lib.TabIs Tryd.prog W "demurral/digest.firstWords" .u32 firstIntsY := Lib.tabIs_of_head (rest := r) gFirstY tFirstY Tryd.underlying144 Tryd.underlying92 one32 cFirstY h
  intro i hi
  have := T.cell gFirstY i hi
  rw [this]
  simp [firstIntsY, List.getD_eq_getElem?_getD, List.getElem?_eq_getElem (show i < firstS.l.length from hi)]
theorem keys_met {W : World} {r : List (String × DataW Unit)} (h : laidMet Tryd.prog (("demurral/digest.keys", Lib.tabData .u32 keysIntsY) :: r) W) : KeysAt W := by
  have T : Lib.TabIs Tryd.prog W "demurral/digest.keys" .u32 keysIntsY := Lib.tabIs_of_head (rest := r) gKeysY tKeysY Tryd.underlying152 Tryd.underlying92 one32 cKeysY h
  intro i hi
  have := T.cell gKeysY i hi
  rw [this]
  simp [keysIntsY, List.getD_eq_getElem?_getD, List.getElem?_eq_getElem (show i < keysL.length from hi)]
theorem fmt_met {W : World} {r : List (String × DataW Unit)} (h : laidMet Tryd.prog (("demurral/frame.formats", Rows.laid_demurral_frame_formats) :: r) W) : FmtAt W := fmt_of_laid (met_head h)
def pairP : String × DataW Unit := ("demurral/limb.prime", Lib.tabData .u64 primeInts)
def pairF : String × DataW Unit := ("demurral/digest.firstWords", Lib.tabData .u32 firstIntsY)
def pairK : String × DataW Unit := ("demurral/digest.keys", Lib.tabData .u32 keysIntsY)
def pairT : String × DataW Unit := ("demurral/frame.formats", Rows.laid_demurral_frame_formats)
end Go.Proofs.YtdnjieffbgmagaaDoor
