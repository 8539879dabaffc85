/- The texts Lnum, Lrow, Lclamp, Lstep, Lclimb, one behind the other. -/
import Derived.Test.YtnfhfibbaeiglaaGreatDoorPow
import Derived.Test.YtnfhfibbaeiglaaGreatDoorAg8
import Derived.Test.YtnfhfibbaeiglaaGreatDoorQl
import Derived.Lib.ConvBytes
import Derived.Deep.QuietTactic
/- The ladder's numbers: texts that tell numbers below the prime; what its methods tell of them. -/
namespace Go.Proofs.YtnfhfibbaeiglaaGreatDoor
set_option maxRecDepth 100000
open Go.RowKit Go.Sort
/-- a number that is left -/
def Rd (x : Int) : Prop := 0 ≤ x ∧ x < Pr
theorem Rd.mod (x : Int) : Rd (x % Pr) := ⟨Int.emod_nonneg _ (by have := pr_pos; omega), Int.emod_lt_of_pos _ pr_pos⟩
theorem Rd.num {x : Int} (h : Rd x) : leNum (leStr x) = x := by
  obtain ⟨h0, h1⟩ := h
  refine leNum_leStr x h0 ?_
  unfold Pr at h1
  unfold W256
  omega
/-- a call that hands back a text, and leaves what was there -/
def Tells (x : Int) (w : World) (e : Ending) (w' : World) : Prop := e = .returned (.string (leStr x)) ∧ Below w.heap.size w w'

set_option maxHeartbeats 1000000 in
theorem lplus {x y : Int} (hx : Rd x) (hy : Rd y) (w : World) (hP : PrimeAt w) :
    Calls Tryz.prog 66 #[.string (leStr x), .string (leStr y)] w (Tells ((x + y) % Pr) w) := by
  have H := add_good _ _ (leStr_size x) (leStr_size y) w hP
  rw [hx.num, hy.num] at H
  have HH := Lib.hid H
  clear H
  go_enter Tryz.func66, Tryz.ntmps66
  go_wp2_with fail
  refine HH.out.mono ?_
  rintro e w1 ⟨rfl, hb1⟩
  go_wp2_with fail
  go_ret
  exact ⟨rfl, hb1⟩
set_option maxHeartbeats 1000000 in
theorem lminus {x y : Int} (hx : Rd x) (hy : Rd y) (w : World) (hP : PrimeAt w) :
    Calls Tryz.prog 67 #[.string (leStr x), .string (leStr y)] w (Tells ((x - y) % Pr) w) := by
  have H := sub_good _ _ (leStr_size x) (leStr_size y) w hP
  rw [hx.num, hy.num] at H
  have HH := Lib.hid H
  clear H
  go_enter Tryz.func67, Tryz.ntmps67
  go_wp2_with fail
  refine HH.out.mono ?_
  rintro e w1 ⟨rfl, hb1⟩
  go_wp2_with fail
  go_ret
  exact ⟨rfl, hb1⟩
set_option maxHeartbeats 1000000 in
theorem ltimes {x y : Int} (hx : Rd x) (hy : Rd y) (w : World) (hP : PrimeAt w) :
    Calls Tryz.prog 69 #[.string (leStr x), .string (leStr y)] w (Tells ((x * y) % Pr) w) := by
  have H := mul_good _ _ (leStr_size x) (leStr_size y) w hP
  rw [hx.num, hy.num] at H
  have HH := Lib.hid H
  clear H
  go_enter Tryz.func69, Tryz.ntmps69
  go_wp2_with fail
  refine HH.out.mono ?_
  rintro e w1 ⟨rfl, hb1⟩
  go_wp2_with fail
  go_ret
  exact ⟨rfl, hb1⟩
set_option maxHeartbeats 1000000 in
theorem lsquare {x : Int} (hx : Rd x) (w : World) (hP : PrimeAt w) :
    Calls Tryz.prog 68 #[.string (leStr x)] w (Tells ((x * x) % Pr) w) := by
  have HH := Lib.hid (ltimes hx hx w hP)
  go_enter Tryz.func68, Tryz.ntmps68
  go_wp2_with fail
  refine HH.out.mono ?_
  rintro e w1 ⟨rfl, hb1⟩
  go_wp2_with fail
  go_ret
  exact ⟨rfl, hb1⟩
set_option maxHeartbeats 1000000 in
theorem linverse {x : Int} (hx : Rd x) (w : World) (hP : PrimeAt w) :
    Calls Tryz.prog 70 #[.string (leStr x)] w (Tells (x ^ ExpN % Pr) w) := by
  have H := inv_good _ (leStr_size x) w hP
  rw [hx.num] at H
  have HH := Lib.hid H
  clear H
  go_enter Tryz.func70, Tryz.ntmps70
  go_wp2_with fail
  refine HH.out.mono ?_
  rintro e w1 ⟨rfl, hb1⟩
  go_wp2_with fail
  go_ret
  exact ⟨rfl, hb1⟩

/-- the same, in every world in which nothing of W has turned -/
theorem gplus {W : World} (hP : PrimeAt W) {x y : Int} (hx : Rd x) (hy : Rd y) (d : Nat) (os : Array Obj) :
    Calls Tryz.prog 66 #[.string (leStr x), .string (leStr y)] (grow (redrawn W d) os) fun e w'' => e = .returned (.string (leStr ((x + y) % Pr))) ∧ ∃ p : Regrown, w'' = grow (redrawn W p.d) p.os :=
  Calls.regrown_of (lplus hx hy _ (hP.below (below_regrown W d os) hP.lt))
theorem gminus {W : World} (hP : PrimeAt W) {x y : Int} (hx : Rd x) (hy : Rd y) (d : Nat) (os : Array Obj) :
    Calls Tryz.prog 67 #[.string (leStr x), .string (leStr y)] (grow (redrawn W d) os) fun e w'' => e = .returned (.string (leStr ((x - y) % Pr))) ∧ ∃ p : Regrown, w'' = grow (redrawn W p.d) p.os :=
  Calls.regrown_of (lminus hx hy _ (hP.below (below_regrown W d os) hP.lt))
theorem gtimes {W : World} (hP : PrimeAt W) {x y : Int} (hx : Rd x) (hy : Rd y) (d : Nat) (os : Array Obj) :
    Calls Tryz.prog 69 #[.string (leStr x), .string (leStr y)] (grow (redrawn W d) os) fun e w'' => e = .returned (.string (leStr ((x * y) % Pr))) ∧ ∃ p : Regrown, w'' = grow (redrawn W p.d) p.os :=
  Calls.regrown_of (ltimes hx hy _ (hP.below (below_regrown W d os) hP.lt))
theorem gsquare {W : World} (hP : PrimeAt W) {x : Int} (hx : Rd x) (d : Nat) (os : Array Obj) :
    Calls Tryz.prog 68 #[.string (leStr x)] (grow (redrawn W d) os) fun e w'' => e = .returned (.string (leStr ((x * x) % Pr))) ∧ ∃ p : Regrown, w'' = grow (redrawn W p.d) p.os :=
  Calls.regrown_of (lsquare hx _ (hP.below (below_regrown W d os) hP.lt))
theorem ginverse {W : World} (hP : PrimeAt W) {x : Int} (hx : Rd x) (d : Nat) (os : Array Obj) :
    Calls Tryz.prog 70 #[.string (leStr x)] (grow (redrawn W d) os) fun e w'' => e = .returned (.string (leStr (x ^ ExpN % Pr))) ∧ ∃ p : Regrown, w'' = grow (redrawn W p.d) p.os :=
  Calls.regrown_of (linverse hx _ (hP.below (below_regrown W d os) hP.lt))
end Go.Proofs.YtnfhfibbaeiglaaGreatDoor

/- Five texts that lie in a block of their own. -/
namespace Go.Proofs.YtnfhfibbaeiglaaGreatDoor
set_option maxRecDepth 100000
open Go.RowKit
def Row5 (w : World) (B : Nat) (a b c d e : ByteArray) : Prop :=
  (w.cell? ⟨B, 0, none⟩ = some (.string a) ∧ w.cell? ⟨B, 1, none⟩ = some (.string b) ∧ w.cell? ⟨B, 2, none⟩ = some (.string c) ∧ w.cell? ⟨B, 3, none⟩ = some (.string d) ∧ w.cell? ⟨B, 4, none⟩ = some (.string e)) ∧
  (w.frozen? ⟨B, 0, none⟩ = false ∧ w.frozen? ⟨B, 1, none⟩ = false ∧ w.frozen? ⟨B, 2, none⟩ = false ∧ w.frozen? ⟨B, 3, none⟩ = false ∧ w.frozen? ⟨B, 4, none⟩ = false)

theorem Row5.below {n B : Nat} {w w' : World} {a b c d e : ByteArray} (h : Row5 w B a b c d e) (hb : Below n w w') (hB : B < n) : Row5 w' B a b c d e := by
  obtain ⟨⟨h0, h1, h2, h3, h4⟩, ⟨f0, f1, f2, f3, f4⟩⟩ := h
  refine ⟨⟨?_, ?_, ?_, ?_, ?_⟩, ⟨?_, ?_, ?_, ?_, ?_⟩⟩
  all_goals first | rw [hb.cell (p := ⟨B, _, none⟩) hB]; assumption | rw [hb.frozen (p := ⟨B, _, none⟩) hB]; assumption
theorem Row5.lt {B : Nat} {w : World} {a b c d e : ByteArray} (h : Row5 w B a b c d e) : B < w.heap.size := World.block_lt_of_cell? w _ h.1.1
theorem Row5.on {B : Nat} {w w' : World} {a b c d e : ByteArray} (h : Row5 w B a b c d e) (hb : Below w.heap.size w w') : Row5 w' B a b c d e := h.below hb h.lt
theorem Row5.alloc {B : Nat} {w : World} {a b c d e : ByteArray} (h : Row5 w B a b c d e) (o : Obj) : Row5 (w.alloc o) B a b c d e :=
  h.below ((Below.refl _ _).alloc (Nat.le_refl _) o) h.lt
theorem Row5.fresh (w : World) (a b c d e : ByteArray) (t : TypeId) : Row5 (w.alloc (.cells #[.string a, .string b, .string c, .string d, .string e] t)) w.heap.size a b c d e := by
  refine ⟨⟨?_, ?_, ?_, ?_, ?_⟩, ⟨?_, ?_, ?_, ?_, ?_⟩⟩ <;> simp
theorem Row5.fresh_at (w : World) (a b c d e : ByteArray) (t : TypeId) (n : Nat) (hn : n = w.heap.size) : Row5 (w.alloc (.cells #[.string a, .string b, .string c, .string d, .string e] t)) n a b c d e := by
  subst hn; exact Row5.fresh w a b c d e t
theorem setCell_at {w : World} {B i j : Nat} {v u : Value} (h : w.cell? ⟨B, j, none⟩ = some v) (hij : j ≠ i) : (w.setCell ⟨B, i, none⟩ u).cell? ⟨B, j, none⟩ = some v := by
  rw [World.cell?_setCell_other]
  · exact h
  · intro e; cases e; exact hij rfl
theorem Row5.set {B : Nat} {w : World} {a b c d e : ByteArray} (h : Row5 w B a b c d e) (a' b' c' d' e' : ByteArray) :
    Row5 (((((w.setCell ⟨B, 0, none⟩ (.string a')).setCell ⟨B, 1, none⟩ (.string b')).setCell ⟨B, 2, none⟩ (.string c')).setCell ⟨B, 3, none⟩ (.string d')).setCell ⟨B, 4, none⟩ (.string e')) B a' b' c' d' e' := by
  obtain ⟨⟨h0, h1, h2, h3, h4⟩, ⟨f0, f1, f2, f3, f4⟩⟩ := h
  refine ⟨⟨?_, ?_, ?_, ?_, ?_⟩, ⟨by simpa using f0, by simpa using f1, by simpa using f2, by simpa using f3, by simpa using f4⟩⟩
  · exact setCell_at (setCell_at (setCell_at (setCell_at (World.cell?_setCell_same _ _ _ h0) (by omega)) (by omega)) (by omega)) (by omega)
  · exact setCell_at (setCell_at (setCell_at (World.cell?_setCell_same _ _ _ (setCell_at h1 (by omega))) (by omega)) (by omega)) (by omega)
  · exact setCell_at (setCell_at (World.cell?_setCell_same _ _ _ (setCell_at (setCell_at h2 (by omega)) (by omega))) (by omega)) (by omega)
  · exact setCell_at (World.cell?_setCell_same _ _ _ (setCell_at (setCell_at (setCell_at h3 (by omega)) (by omega)) (by omega))) (by omega)
  · exact World.cell?_setCell_same _ _ _ (setCell_at (setCell_at (setCell_at (setCell_at h4 (by omega)) (by omega)) (by omega)) (by omega))
theorem below_set5 {n B : Nat} {w0 w : World} (h : Below n w0 w) (hn : n ≤ B) (p q r s t : Value) :
    Below n w0 (((((w.setCell ⟨B, 0, none⟩ p).setCell ⟨B, 1, none⟩ q).setCell ⟨B, 2, none⟩ r).setCell ⟨B, 3, none⟩ s).setCell ⟨B, 4, none⟩ t) :=
  ((((h.setCell hn p).setCell hn q).setCell hn r).setCell hn s).setCell hn t

/-- the numbers behind a step: what the chapter calls A to E, by their own names -/
def sA (x z : Int) : Int := (x + z) % Pr
def sB (x z : Int) : Int := (x - z) % Pr
def sSq (x : Int) : Int := (x * x) % Pr
def sE (x z : Int) : Int := (sSq (sA x z) - sSq (sB x z)) % Pr
def sDA (x2 z2 x3 z3 : Int) : Int := (sB x3 z3 * sA x2 z2) % Pr
def sCB (x2 z2 x3 z3 : Int) : Int := (sA x3 z3 * sB x2 z2) % Pr
def nX2 (x2 z2 : Int) : Int := (sSq (sA x2 z2) * sSq (sB x2 z2)) % Pr
def nZ2 (x2 z2 : Int) : Int := (sE x2 z2 * ((sSq (sA x2 z2) + (sE x2 z2 * 121665) % Pr) % Pr)) % Pr
def nX3 (x2 z2 x3 z3 : Int) : Int := sSq ((sDA x2 z2 x3 z3 + sCB x2 z2 x3 z3) % Pr)
def nZ3 (u x2 z2 x3 z3 : Int) : Int := (u * sSq ((sDA x2 z2 x3 z3 - sCB x2 z2 x3 z3) % Pr)) % Pr

/-- the factor's bytes -/
theorem fac_str : (⟨#[65, 219, 1, 0, 0, 0, 0, 0, 0, 0, 0, 0, 0, 0, 0, 0, 0, 0, 0, 0, 0, 0, 0, 0, 0, 0, 0, 0, 0, 0, 0, 0]⟩ : ByteArray) = leStr 121665 := by decide +kernel
theorem one_str : (⟨#[1, 0, 0, 0, 0, 0, 0, 0, 0, 0, 0, 0, 0, 0, 0, 0, 0, 0, 0, 0, 0, 0, 0, 0, 0, 0, 0, 0, 0, 0, 0, 0]⟩ : ByteArray) = leStr 1 := by decide +kernel
theorem zero_str : (⟨#[0, 0, 0, 0, 0, 0, 0, 0, 0, 0, 0, 0, 0, 0, 0, 0, 0, 0, 0, 0, 0, 0, 0, 0, 0, 0, 0, 0, 0, 0, 0, 0]⟩ : ByteArray) = leStr 0 := by decide +kernel
theorem Rd.lit {n : Int} (h0 : 0 ≤ n) (h1 : n < 1000000) : Rd n := ⟨h0, by unfold Pr; omega⟩
end Go.Proofs.YtnfhfibbaeiglaaGreatDoor

/- A key clamped; a point without its highest bit. -/
namespace Go.Proofs.YtnfhfibbaeiglaaGreatDoor
set_option maxRecDepth 100000
open Go.RowKit Go.PlainAid
/-- the row of a text's bytes, as the conversion lays it -/
theorem bytes_cell (w : World) (e : TypeId) (s : ByteArray) (j : Nat) (hj : j < s.size) : (Lib.bytesWorld w e s).cell? ⟨w.heap.size, j, none⟩ = some (.int .u8 (bt s j)) := by
  rw [Lib.bytesWorld_cell w e s j hj]
  unfold bt
  rw [dif_pos hj]
  have : s.data.toList.getD j 0 = s[j] := by
    rw [List.getD_eq_getElem?_getD, List.getElem?_eq_getElem (by simpa using hj), Option.getD_some]
    rfl
  rw [this]
theorem bytes_frozen (w : World) (e : TypeId) (s : ByteArray) (j : Nat) (hj : j < s.size) : (Lib.bytesWorld w e s).frozen? ⟨w.heap.size, j, none⟩ = false := by
  have h2 : (Lib.bytesCells w e s).size ≥ s.size := by
    unfold Lib.bytesCells
    simp
  unfold World.frozen?
  rw [Lib.bytesWorld_at_new]
  simp
  omega
theorem bytes_below (w : World) (e : TypeId) (s : ByteArray) : Below w.heap.size w (Lib.bytesWorld w e s) :=
  ⟨rfl, rfl, rfl, by rw [Lib.bytesWorld_size]; omega, fun k hk => Lib.bytesWorld_at_old w e s k hk⟩

theorem andNot7 (b : Int) (h0 : 0 ≤ b) (h1 : b ≤ 255) : bits .andNot .u8 b 7 = b - b % 8 := by
  obtain ⟨n, rfl⟩ := Int.eq_ofNat_of_zero_le h0
  exact (by decide +kernel : ∀ n : Fin 256, bits .andNot .u8 (n.val : Int) 7 = (n.val : Int) - (n.val : Int) % 8) ⟨n, by omega⟩
theorem and127 (b : Int) (h0 : 0 ≤ b) (h1 : b ≤ 255) : bits .and .u8 b 127 = b % 128 := by
  obtain ⟨n, rfl⟩ := Int.eq_ofNat_of_zero_le h0
  exact (by decide +kernel : ∀ n : Fin 256, bits .and .u8 (n.val : Int) 127 = (n.val : Int) % 128) ⟨n, by omega⟩
theorem or64 (b : Int) (h0 : 0 ≤ b) (h1 : b ≤ 255) : bits .or .u8 (b % 128) 64 = b % 64 + 64 := by
  obtain ⟨n, rfl⟩ := Int.eq_ofNat_of_zero_le h0
  exact (by decide +kernel : ∀ n : Fin 256, bits .or .u8 ((n.val : Int) % 128) 64 = (n.val : Int) % 64 + 64) ⟨n, by omega⟩

/-- byte i of a key clamped, of a point without its highest bit -/
def clampAt (s : ByteArray) (i : Nat) : Int := if i = 0 then bt s 0 - bt s 0 % 8 else if i = 31 then bt s 31 % 64 + 64 else bt s i
def pointAt (s : ByteArray) (i : Nat) : Int := if i = 31 then bt s 31 % 128 else bt s i
def row32 (f : Nat → Int) : ByteArray := strOfNums ((List.range 32).map f)
def clampB (s : ByteArray) : ByteArray := row32 (clampAt s)
def pointB (s : ByteArray) : ByteArray := row32 (pointAt s)
theorem row32_size (f : Nat → Int) : (row32 f).size = 32 := by unfold row32; rw [strOfNums_size]; simp
theorem range_getD (f : Nat → Int) (i : Nat) (hi : i < 32) : ((List.range 32).map f).getD i 0 = f i := by
  rw [List.getD_eq_getElem?_getD, List.getElem?_map, List.getElem?_range hi]
  rfl
theorem clampAt_byte (s : ByteArray) (i : Nat) : 0 ≤ clampAt s i ∧ clampAt s i < 256 := by
  have a0 := bt_nonneg s 0; have a1 := bt_le s 0; have b0 := bt_nonneg s 31; have b1 := bt_le s 31; have c0 := bt_nonneg s i; have c1 := bt_le s i
  unfold clampAt
  split
  · omega
  · split <;> omega
theorem pointAt_byte (s : ByteArray) (i : Nat) : 0 ≤ pointAt s i ∧ pointAt s i < 256 := by
  have b0 := bt_nonneg s 31; have b1 := bt_le s 31; have c0 := bt_nonneg s i; have c1 := bt_le s i
  unfold pointAt
  split <;> omega
theorem row32_bt (f : Nat → Int) (hf : ∀ i, 0 ≤ f i ∧ f i < 256) (i : Nat) (hi : i < 32) : bt (row32 f) i = f i := by
  unfold row32
  rw [bt_str _ (fun v hv => by obtain ⟨j, -, rfl⟩ := List.mem_map.1 hv; exact hf j) i (by simpa using hi), range_getD f i hi]
theorem clampB_bt (s : ByteArray) (i : Nat) (hi : i < 32) : bt (clampB s) i = clampAt s i := row32_bt _ (clampAt_byte s) i hi
theorem pointB_bt (s : ByteArray) (i : Nat) (hi : i < 32) : bt (pointB s) i = pointAt s i := row32_bt _ (pointAt_byte s) i hi

set_option maxHeartbeats 1000000 in
theorem clamped_any (s : ByteArray) (hs : s.size = 32) (w : World) :
    Calls Tryz.prog 47 #[.string s] w fun e w' => e = .returned (.string (clampB s)) ∧ Below w.heap.size w w' := by
  have eA := andNot7 _ (bt_nonneg s 0) (bt_le s 0)
  have eM := and127 _ (bt_nonneg s 31) (bt_le s 31)
  have eO := or64 _ (bt_nonneg s 31) (bt_le s 31)
  go_enter Tryz.func47, Tryz.ntmps47
  go_wp2_with fail
  rw [Lib.run_convert_string_bytes _ 9 43 5 s Tryz.underlying9 Tryz.underlying43 Tryz.underlying5, hs]
  have h0 := bytes_cell w 5 s 0 (by omega)
  have h31 := bytes_cell w 5 s 31 (by omega)
  have f0 := bytes_frozen w 5 s 0 (by omega)
  have f31 := bytes_frozen w 5 s 31 (by omega)
  have hB := bytes_below w 5 s
  have hc : ∀ j, j < 32 → (Lib.bytesWorld w 5 s).cell? ⟨w.heap.size, j, none⟩ = some (.int .u8 (bt s j)) := fun j hj => bytes_cell w _ s j (by omega)
  have HC := Lib.hid hc
  clear hc
  generalize grownCap w 32 0 5 = cap
  generalize Lib.bytesWorld w 5 s = W at *
  go_wp2_with fail
  rw [run_convert_bytes_arg _ 43 5 Tryz.underlying43 Tryz.underlying5 w.heap.size 0 32 cap ((List.range 32).map (clampAt s)) (by simp) ?cells 9 Tryz.underlying9]
  case cells =>
    intro i hi
    rw [range_getD _ i hi, Nat.zero_add]
    unfold clampAt
    split
    · rename_i h; subst h
      exact setCell_at (setCell_at (World.cell?_setCell_same _ _ _ h0) (by omega)) (by omega)
    · split
      · rename_i h; subst h
        exact World.cell?_setCell_same _ _ _ (World.cell?_setCell_same _ _ _ (setCell_at h31 (by omega)))
      · exact setCell_at (setCell_at (setCell_at (HC.out i hi) (by omega)) (by omega)) (by omega)
  clear HC h0 h31 f0 f31 eA eM eO
  have hB' := ((hB.setCell (p := ⟨w.heap.size, 0, none⟩) (Nat.le_refl _) (.int .u8 (bt s 0 - bt s 0 % 8))).setCell (p := ⟨w.heap.size, 31, none⟩) (Nat.le_refl _) (.int .u8 (bt s 31 % 128))).setCell (p := ⟨w.heap.size, 31, none⟩) (Nat.le_refl _) (.int .u8 (bt s 31 % 64 + 64))
  go_wp2_with fail
  go_ret
  exact ⟨rfl, hB'⟩

set_option maxHeartbeats 1000000 in
theorem ofPoint_any (s : ByteArray) (hs : s.size = 32) (w : World) (hP : PrimeAt w) :
    Calls Tryz.prog 48 #[.string s] w (Tells (leNum (pointB s) % Pr) w) := by
  have eM := and127 _ (bt_nonneg s 31) (bt_le s 31)
  have lb := hP.lt
  go_enter Tryz.func48, Tryz.ntmps48
  go_wp2_with fail
  rw [Lib.run_convert_string_bytes _ 9 43 5 s Tryz.underlying9 Tryz.underlying43 Tryz.underlying5, hs]
  have h31 := bytes_cell w 5 s 31 (by omega)
  have f31 := bytes_frozen w 5 s 31 (by omega)
  have hB := bytes_below w 5 s
  have hc : ∀ j, j < 32 → (Lib.bytesWorld w 5 s).cell? ⟨w.heap.size, j, none⟩ = some (.int .u8 (bt s j)) := fun j hj => bytes_cell w _ s j (by omega)
  have HC := Lib.hid hc
  clear hc
  generalize grownCap w 32 0 5 = cap
  generalize Lib.bytesWorld w 5 s = W at *
  go_wp2_with fail
  rw [run_convert_bytes_arg _ 43 5 Tryz.underlying43 Tryz.underlying5 w.heap.size 0 32 cap ((List.range 32).map (pointAt s)) (by simp) ?cells 9 Tryz.underlying9]
  case cells =>
    intro i hi
    rw [range_getD _ i hi, Nat.zero_add]
    unfold pointAt
    split
    · rename_i h; subst h
      exact World.cell?_setCell_same _ _ _ h31
    · exact setCell_at (HC.out i hi) (by omega)
  have hB' := hB.setCell (p := ⟨w.heap.size, 31, none⟩) (Nat.le_refl _) (.int .u8 (bt s 31 % 128))
  clear HC h31 f31 eM hB
  generalize World.setCell W _ _ = W1 at hB' ⊢
  have HN := Lib.hid (norm_good (pointB s) (row32_size _) W1 (hP.below hB' lb))
  have hs1 := hB'.size
  rw [show strOfNums ((List.range 32).map (pointAt s)) = pointB s from rfl]
  go_wp2_with fail
  refine HN.out.mono ?_
  rintro e w2 ⟨rfl, hb2⟩
  have hB2 := hB'.trans (hb2.mono hs1)
  clear hb2 hB' HN
  go_wp2_with fail
  go_ret
  exact ⟨rfl, hB2⟩
end Go.Proofs.YtnfhfibbaeiglaaGreatDoor

/- One step of the ladder. -/
namespace Go.Proofs.YtnfhfibbaeiglaaGreatDoor
set_option maxRecDepth 100000
open Go.RowKit Go.Sort
set_option maxHeartbeats 4000000 in
theorem step_any {u x2 z2 x3 z3 : Int} (hu : Rd u) (h2 : Rd x2) (h2' : Rd z2) (h3 : Rd x3) (h3' : Rd z3) (w : World) (hP : PrimeAt w) :
    Calls Tryz.prog 57 #[.agg #[.string (leStr u), .string (leStr x2), .string (leStr z2), .string (leStr x3), .string (leStr z3)]] w fun e w' =>
      e = .returned (.agg #[.string (leStr u), .string (leStr (nX2 x2 z2)), .string (leStr (nZ2 x2 z2)), .string (leStr (nX3 x2 z2 x3 z3)), .string (leStr (nZ3 u x2 z2 x3 z3))]) ∧ Below w.heap.size w w' := by
  have lb := hP.lt
  go_enter Tryz.func57, Tryz.ntmps57
  go_wp2_with fail
  have hI := (Row5.fresh w (leStr u) (leStr x2) (leStr z2) (leStr x3) (leStr z3) 79).alloc (.cells #[.string ⟨#[]⟩, .string ⟨#[]⟩, .string ⟨#[]⟩, .string ⟨#[]⟩, .string ⟨#[]⟩] 79)
  have hO := Row5.fresh_at (w.alloc (.cells #[.string (leStr u), .string (leStr x2), .string (leStr z2), .string (leStr x3), .string (leStr z3)] 79)) ⟨#[]⟩ ⟨#[]⟩ ⟨#[]⟩ ⟨#[]⟩ ⟨#[]⟩ 79 (w.heap.size + 1) (by simp)
  have hB : Below w.heap.size w ((w.alloc (.cells #[.string (leStr u), .string (leStr x2), .string (leStr z2), .string (leStr x3), .string (leStr z3)] 79)).alloc (.cells #[.string ⟨#[]⟩, .string ⟨#[]⟩, .string ⟨#[]⟩, .string ⟨#[]⟩, .string ⟨#[]⟩] 79)) := by go_grown
  generalize World.alloc (World.alloc w _) _ = W at hI hO hB ⊢
  have hPW := hP.below hB lb
  have c1 := cell_regrown hI.1.2.1
  have c2 := cell_regrown hI.1.2.2.1
  have p1 := gplus hPW h2 h2'
  have p2 := gminus hPW h2 h2'
  obtain ⟨a, ra, ea⟩ : ∃ a, Rd a ∧ (x2 + z2) % Pr = a := ⟨_, Rd.mod _, rfl⟩
  obtain ⟨b, rb, eb⟩ : ∃ b, Rd b ∧ (x2 - z2) % Pr = b := ⟨_, Rd.mod _, rfl⟩
  rw [ea] at p1
  rw [eb] at p2
  have P1 := Lib.hid p1; have P2 := Lib.hid p2
  clear p1 p2
  refine wp_region_quiet_below (by kernel_rfl) (by kernel_rfl) ?_
  repeat (quiet_step (first | (go_at_call 66; exact P1.out _ _) | (go_at_call 67; exact P2.out _ _)))
  refine wpQuiet_nil ?_
  intro _ hw'
  obtain ⟨⟨dq, osq⟩, hw''⟩ := hw'
  subst hw''
  have hb := below_regrown W dq osq
  have hI' := hI.on hb
  have hO' := hO.on hb
  have hB' := hB.trans (hb.mono hB.size)
  clear hI hO hB hb
  generalize grow (redrawn W dq) osq = W1 at hI' hO' hB' ⊢
  have hI := hI'; have hO := hO'; have hB := hB'
  clear hI' hO' hB'
  have d1 := cell_regrown hI.1.2.2.2.1
  have d2 := cell_regrown hI.1.2.2.2.2
  have p1 := gplus (hP.below hB lb) h3 h3'
  have p2 := gminus (hP.below hB lb) h3 h3'
  obtain ⟨c, rc, ec⟩ : ∃ a, Rd a ∧ (x3 + z3) % Pr = a := ⟨_, Rd.mod _, rfl⟩
  obtain ⟨d, rd, ed⟩ : ∃ b, Rd b ∧ (x3 - z3) % Pr = b := ⟨_, Rd.mod _, rfl⟩
  rw [ec] at p1
  rw [ed] at p2
  have P1 := Lib.hid p1; have P2 := Lib.hid p2
  clear p1 p2 hPW c1 c2
  go_wp2_with fail
  refine wp_region_quiet_below (by kernel_rfl) (by kernel_rfl) ?_
  repeat (quiet_step (first | (go_at_call 66; exact P1.out _ _) | (go_at_call 67; exact P2.out _ _)))
  refine wpQuiet_nil ?_
  intro _ hw'
  obtain ⟨⟨dq, osq⟩, hw''⟩ := hw'
  subst hw''
  have hb := below_regrown W1 dq osq
  have hI' := hI.on hb
  have hO' := hO.on hb
  have hB' := hB.trans (hb.mono hB.size)
  clear hI hO hB hb
  generalize grow (redrawn W1 dq) osq = W2 at hI' hO' hB' ⊢
  have hI := hI'; have hO := hO'; have hB := hB'
  clear hI' hO' hB'
  clear d1 d2 P1 P2
  have q := lsquare ra W2 (hP.below hB lb)
  obtain ⟨aa, raa, eaa⟩ : ∃ z, Rd z ∧ (a * a) % Pr = z := ⟨_, Rd.mod _, rfl⟩
  rw [eaa] at q
  have Q := Lib.hid q
  clear q
  go_wp2_with fail
  refine Q.out.mono ?_
  rintro e W3 ⟨rfl, hb⟩
  have hI' := hI.on hb
  have hO' := hO.on hb
  have hB' := hB.trans (hb.mono hB.size)
  clear hI hO hB hb Q
  have hI := hI'; have hO := hO'; have hB := hB'
  clear hI' hO' hB'
  have q := lsquare rb W3 (hP.below hB lb)
  obtain ⟨bb, rbb, ebb⟩ : ∃ z, Rd z ∧ (b * b) % Pr = z := ⟨_, Rd.mod _, rfl⟩
  rw [ebb] at q
  have Q := Lib.hid q
  clear q
  go_wp2_with fail
  refine Q.out.mono ?_
  rintro e W4 ⟨rfl, hb⟩
  have hI' := hI.on hb
  have hO' := hO.on hb
  have hB' := hB.trans (hb.mono hB.size)
  clear hI hO hB hb Q
  have hI := hI'; have hO := hO'; have hB := hB'
  clear hI' hO' hB'
  have q := lminus raa rbb W4 (hP.below hB lb)
  obtain ⟨ee, ree, eee⟩ : ∃ z, Rd z ∧ (aa - bb) % Pr = z := ⟨_, Rd.mod _, rfl⟩
  rw [eee] at q
  have Q := Lib.hid q
  clear q
  go_wp2_with fail
  refine Q.out.mono ?_
  rintro e W5 ⟨rfl, hb⟩
  have hI' := hI.on hb
  have hO' := hO.on hb
  have hB' := hB.trans (hb.mono hB.size)
  clear hI hO hB hb Q
  have hI := hI'; have hO := hO'; have hB := hB'
  clear hI' hO' hB'
  have q := ltimes rd ra W5 (hP.below hB lb)
  obtain ⟨da, rda, eda⟩ : ∃ z, Rd z ∧ (d * a) % Pr = z := ⟨_, Rd.mod _, rfl⟩
  rw [eda] at q
  have Q := Lib.hid q
  clear q
  go_wp2_with fail
  refine Q.out.mono ?_
  rintro e W6 ⟨rfl, hb⟩
  have hI' := hI.on hb
  have hO' := hO.on hb
  have hB' := hB.trans (hb.mono hB.size)
  clear hI hO hB hb Q
  have hI := hI'; have hO := hO'; have hB := hB'
  clear hI' hO' hB'
  have q := ltimes rc rb W6 (hP.below hB lb)
  obtain ⟨cb, rcb, ecb⟩ : ∃ z, Rd z ∧ (c * b) % Pr = z := ⟨_, Rd.mod _, rfl⟩
  rw [ecb] at q
  have Q := Lib.hid q
  clear q
  go_wp2_with fail
  refine Q.out.mono ?_
  rintro e W7 ⟨rfl, hb⟩
  have hI' := hI.on hb
  have hO' := hO.on hb
  have hB' := hB.trans (hb.mono hB.size)
  clear hI hO hB hb Q
  have hI := hI'; have hO := hO'; have hB := hB'
  clear hI' hO' hB'
  go_wp2_with fail
  have hPW := hP.below hB lb
  have d0 := cell_regrown hI.1.1
  have q1 := gtimes hPW raa rbb
  obtain ⟨y1, ry1, ey1⟩ : ∃ z, Rd z ∧ (aa * bb) % Pr = z := ⟨_, Rd.mod _, rfl⟩
  rw [ey1] at q1
  have Q1 := Lib.hid q1
  clear q1
  have q2 := gtimes hPW ree (Rd.lit (n := 121665) (by omega) (by omega))
  obtain ⟨y2, ry2, ey2⟩ : ∃ z, Rd z ∧ (ee * 121665) % Pr = z := ⟨_, Rd.mod _, rfl⟩
  rw [ey2, ← fac_str] at q2
  have Q2 := Lib.hid q2
  clear q2
  have q3 := gplus hPW raa ry2
  obtain ⟨y3, ry3, ey3⟩ : ∃ z, Rd z ∧ (aa + y2) % Pr = z := ⟨_, Rd.mod _, rfl⟩
  rw [ey3] at q3
  have Q3 := Lib.hid q3
  clear q3
  have q4 := gtimes hPW ree ry3
  obtain ⟨y4, ry4, ey4⟩ : ∃ z, Rd z ∧ (ee * y3) % Pr = z := ⟨_, Rd.mod _, rfl⟩
  rw [ey4] at q4
  have Q4 := Lib.hid q4
  clear q4
  have q5 := gplus hPW rda rcb
  obtain ⟨y5, ry5, ey5⟩ : ∃ z, Rd z ∧ (da + cb) % Pr = z := ⟨_, Rd.mod _, rfl⟩
  rw [ey5] at q5
  have Q5 := Lib.hid q5
  clear q5
  have q6 := gsquare hPW ry5
  obtain ⟨y6, ry6, ey6⟩ : ∃ z, Rd z ∧ (y5 * y5) % Pr = z := ⟨_, Rd.mod _, rfl⟩
  rw [ey6] at q6
  have Q6 := Lib.hid q6
  clear q6
  have q7 := gminus hPW rda rcb
  obtain ⟨y7, ry7, ey7⟩ : ∃ z, Rd z ∧ (da - cb) % Pr = z := ⟨_, Rd.mod _, rfl⟩
  rw [ey7] at q7
  have Q7 := Lib.hid q7
  clear q7
  have q8 := gsquare hPW ry7
  obtain ⟨y8, ry8, ey8⟩ : ∃ z, Rd z ∧ (y7 * y7) % Pr = z := ⟨_, Rd.mod _, rfl⟩
  rw [ey8] at q8
  have Q8 := Lib.hid q8
  clear q8
  have q9 := gtimes hPW hu ry8
  obtain ⟨y9, ry9, ey9⟩ : ∃ z, Rd z ∧ (u * y8) % Pr = z := ⟨_, Rd.mod _, rfl⟩
  rw [ey9] at q9
  have Q9 := Lib.hid q9
  clear q9
  clear hPW
  refine wp_region_last_below 23 _ (by kernel_rfl) rfl rfl rfl rfl (by kernel_rfl) (by kernel_rfl) ?_
  simp only [List.take_succ_cons, List.take_zero]
  repeat (quiet_step (first | (go_at_call_of 69 (Value.string (leStr bb)); exact Q1.out _ _) | (go_at_call_of 69 (Value.string (leStr y3)); exact Q4.out _ _) | (go_at_call_of 69 (Value.string (leStr y8)); exact Q9.out _ _) | (go_at_call_of 66 (Value.string (leStr y2)); exact Q3.out _ _) | (go_at_call_of 66 (Value.string (leStr cb)); exact Q5.out _ _) | (go_at_call_of 67 (Value.string (leStr cb)); exact Q7.out _ _) | (go_at_call_of 68 (Value.string (leStr y5)); exact Q6.out _ _) | (go_at_call_of 68 (Value.string (leStr y7)); exact Q8.out _ _) | (go_at_call_of 69 (Value.string (leStr ee)); exact Q2.out _ _)))
  refine wpQuiet_nil ?_
  intro _ hw'
  obtain ⟨⟨dq, osq⟩, hw''⟩ := hw'
  subst hw''
  have hb := below_regrown W7 dq osq
  have hO' := hO.on hb
  have hB' := hB.trans (hb.mono hB.size)
  clear hI hO hB hb d0 Q1 Q2 Q3 Q4 Q5 Q6 Q7 Q8 Q9
  generalize grow (redrawn W7 dq) osq = W8 at hO' hB' ⊢
  have hlt := hO'.lt
  obtain ⟨⟨o0, o1, o2, o3, o4⟩, ⟨f0, f1, f2, f3, f4⟩⟩ := id hO'
  have hS := hO'.set (leStr u) (leStr y1) (leStr y4) (leStr y6) (leStr y9)
  have hBS := below_set5 hB' (B := w.heap.size + 1) (by omega) (.string (leStr u)) (.string (leStr y1)) (.string (leStr y4)) (.string (leStr y6)) (.string (leStr y9))
  go_wp2_with fail
  clear hO' o0 o1 o2 o3 o4 f0 f1 f2 f3 f4
  generalize World.setCell (World.setCell (World.setCell (World.setCell (World.setCell W8 _ _) _ _) _ _) _ _) _ _ = W9 at hS hBS ⊢
  obtain ⟨⟨o0, o1, o2, o3, o4⟩, -⟩ := id hS
  refine bodyPost_ret (v := .agg #[.string (leStr u), .string (leStr y1), .string (leStr y4), .string (leStr y6), .string (leStr y9)]) (by simp [results, Tryz.results57, go_sem, o0, o1, o2, o3, o4]) rfl ⟨?_, hBS⟩
  subst y9 y8 y7 y6 y5 y4 y3 y2 y1 cb da ee bb aa d c b a
  rfl
end Go.Proofs.YtnfhfibbaeiglaaGreatDoor

/- The ladder's start, its exchange by a bit, and the point that it ends in. -/
namespace Go.Proofs.YtnfhfibbaeiglaaGreatDoor
set_option maxRecDepth 100000
open Go.RowKit Go.Sort
set_option maxHeartbeats 1000000 in
theorem start_any (u : Int) (w : World) :
    Calls Tryz.prog 54 #[.string (leStr u)] w fun e w' => e = .returned (.agg #[.string (leStr u), .string (leStr 1), .string (leStr 0), .string (leStr u), .string (leStr 1)]) ∧ Below w.heap.size w w' := by
  go_enter Tryz.func54, Tryz.ntmps54
  go_wp2_with fail
  rw [one_str, zero_str]
  refine bodyPost_ret (v := .agg #[.string (leStr u), .string (leStr 1), .string (leStr 0), .string (leStr u), .string (leStr 1)]) (by simp [results, Tryz.results54, go_sem]) rfl ⟨rfl, by go_grown⟩

set_option maxHeartbeats 1000000 in
theorem changed_any (u x2 z2 x3 z3 : Int) (w : World) (b : Bool) :
    Calls Tryz.prog 56 #[.agg #[.string (leStr u), .string (leStr x2), .string (leStr z2), .string (leStr x3), .string (leStr z3)], .int .u8 (if b then 1 else 0)] w fun e w' =>
      e = .returned (if b then .agg #[.string (leStr u), .string (leStr x3), .string (leStr z3), .string (leStr x2), .string (leStr z2)] else .agg #[.string (leStr u), .string (leStr x2), .string (leStr z2), .string (leStr x3), .string (leStr z3)]) ∧ Below w.heap.size w w' := by
  cases b with
  | false =>
    go_enter Tryz.func56, Tryz.ntmps56
    go_wp2_with fail
    refine bodyPost_ret (v := .agg #[.string (leStr u), .string (leStr x2), .string (leStr z2), .string (leStr x3), .string (leStr z3)]) (by simp [results, Tryz.results56, go_sem]) rfl ⟨rfl, by go_grown⟩
  | true =>
    go_enter Tryz.func56, Tryz.ntmps56
    go_wp2_with fail
    refine bodyPost_ret (v := .agg #[.string (leStr u), .string (leStr x3), .string (leStr z3), .string (leStr x2), .string (leStr z2)]) (by simp [results, Tryz.results56, go_sem]) rfl ⟨rfl, by go_grown⟩

set_option maxHeartbeats 1000000 in
theorem point_any {u x2 z2 x3 z3 : Int} (h2 : Rd x2) (h2' : Rd z2) (w : World) (hP : PrimeAt w) :
    Calls Tryz.prog 58 #[.agg #[.string (leStr u), .string (leStr x2), .string (leStr z2), .string (leStr x3), .string (leStr z3)]] w (Tells ((x2 * (z2 ^ ExpN % Pr)) % Pr) w) := by
  have lb := hP.lt
  go_enter Tryz.func58, Tryz.ntmps58
  go_wp2_with fail
  have hI := Row5.fresh w (leStr u) (leStr x2) (leStr z2) (leStr x3) (leStr z3) 79
  have hB : Below w.heap.size w (w.alloc (.cells #[.string (leStr u), .string (leStr x2), .string (leStr z2), .string (leStr x3), .string (leStr z3)] 79)) := by go_grown
  generalize World.alloc w _ = W at hI hB ⊢
  have hPW := hP.below hB lb
  have c1 := cell_regrown hI.1.2.1
  have c2 := cell_regrown hI.1.2.2.1
  have q1 := ginverse hPW h2'
  obtain ⟨y1, ry1, ey1⟩ : ∃ z, Rd z ∧ z2 ^ ExpN % Pr = z := ⟨_, Rd.mod _, rfl⟩
  rw [ey1] at q1
  have q2 := gtimes hPW h2 ry1
  obtain ⟨y2, ry2, ey2⟩ : ∃ z, Rd z ∧ (x2 * y1) % Pr = z := ⟨_, Rd.mod _, rfl⟩
  rw [ey2] at q2
  have Q1 := Lib.hid q1; have Q2 := Lib.hid q2
  clear q1 q2 hPW
  refine wp_region_quiet_below (by kernel_rfl) (by kernel_rfl) ?_
  repeat (quiet_step (first | (go_at_call 70; exact Q1.out _ _) | (go_at_call 69; exact Q2.out _ _)))
  refine wpQuiet_nil ?_
  intro _ hw'
  obtain ⟨⟨dq, osq⟩, hw''⟩ := hw'
  subst hw''
  have hb := below_regrown W dq osq
  have hB' := hB.trans (hb.mono hB.size)
  clear hI hB hb c1 c2 Q1 Q2
  generalize grow (redrawn W dq) osq = W1 at hB' ⊢
  go_wp2_with fail
  go_ret
  rw [ey1, ey2]
  exact ⟨rfl, hB'⟩
end Go.Proofs.YtnfhfibbaeiglaaGreatDoor
