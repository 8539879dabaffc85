/- A key clamped; a point without its highest bit. -/
import Derived.Test.YtccjhlipcgpkmaaDoorLrow
import Derived.Lib.ConvBytes
namespace Go.Proofs.YtccjhlipcgpkmaaDoor
open Go.RowKit Go.PlainAid

/-- the row of a text's bytes, as the conversion lays it -/
theorem bytes_cell (w : World) (e : TypeId) (s : ByteArray) (j : Nat) (hj : j < s.size) : (Lib.bytesWorld w e s).cell? ⟨w.heap.size, j, none⟩ = some (.int .u8 (bt s j)) := by
  rw [Lib.bytesWorld_cell w e s j hj]
  unfold bt
  rw [dif_pos hj]
  have : s.data.toList.getD j 0 = s[j] := by
    rw [List.getD_eq_getElem?_getD, List.getElem?_eq_getElem (by simpa using hj), Option.getD_some]
    rfl
  rw [this]
theorem bytes_frozen (w : World) (e : TypeId) (s : ByteArray) (j : Nat) (hj : j < s.size) : (Lib.bytesWorld w e s).frozen? ⟨w.heap.size, j, none⟩ = false := by
  have h2 : (Lib.bytesCells w e s).size ≥ s.size := by
    unfold Lib.bytesCells
    simp
  unfold World.frozen?
  rw [Lib.bytesWorld_at_new]
  simp
  omega
theorem bytes_below (w : World) (e : TypeId) (s : ByteArray) : Below w.heap.size w (Lib.bytesWorld w e s) :=
  ⟨rfl, rfl, rfl, by rw [Lib.bytesWorld_size]; omega, fun k hk => Lib.bytesWorld_at_old w e s k hk⟩

theorem andNot7 (b : Int) (h0 : 0 ≤ b) (h1 : b ≤ 255) : bits .andNot .u8 b 7 = b - b % 8 := by
  obtain ⟨n, rfl⟩ := Int.eq_ofNat_of_zero_le h0
  exact (by decide +kernel : ∀ n : Fin 256, bits .andNot .u8 (n.val : Int) 7 = (n.val : Int) - (n.val : Int) % 8) ⟨n, by omega⟩
theorem and127 (b : Int) (h0 : 0 ≤ b) (h1 : b ≤ 255) : bits .and .u8 b 127 = b % 128 := by
  obtain ⟨n, rfl⟩ := Int.eq_ofNat_of_zero_le h0
  exact (by decide +kernel : ∀ n : Fin 256, bits .and .u8 (n.val : Int) 127 = (n.val : Int) % 128) ⟨n, by omega⟩
theorem or64 (b : Int) (h0 : 0 ≤ b) (h1 : b ≤ 255) : bits .or .u8 (b % 128) 64 = b % 64 + 64 := by
  obtain ⟨n, rfl⟩ := Int.eq_ofNat_of_zero_le h0
  exact (by decide +kernel : ∀ n : Fin 256, bits .or .u8 ((n.val : Int) % 128) 64 = (n.val : Int) % 64 + 64) ⟨n, by omega⟩

/-- byte i of a key clamped, of a point without its highest bit -/
def clampAt (s : ByteArray) (i : Nat) : Int := if i = 0 then bt s 0 - bt s 0 % 8 else if i = 31 then bt s 31 % 64 + 64 else bt s i
def pointAt (s : ByteArray) (i : Nat) : Int := if i = 31 then bt s 31 % 128 else bt s i
def row32 (f : Nat → Int) : ByteArray := strOfNums ((List.range 32).map f)
def clampB (s : ByteArray) : ByteArray := row32 (clampAt s)
def pointB (s : ByteArray) : ByteArray := row32 (pointAt s)
theorem row32_size (f : Nat → Int) : (row32 f).size = 32 := by unfold row32; rw [strOfNums_size]; simp
theorem range_getD (f : Nat → Int) (i : Nat) (hi : i < 32) : ((List.range 32).map f).getD i 0 = f i := by
  rw [List.getD_eq_getElem?_getD, List.getElem?_map, List.getElem?_range hi]
  rfl
theorem clampAt_byte (s : ByteArray) (i : Nat) : 0 ≤ clampAt s i ∧ clampAt s i < 256 := by
  have a0 := bt_nonneg s 0; have a1 := bt_le s 0; have b0 := bt_nonneg s 31; have b1 := bt_le s 31; have c0 := bt_nonneg s i; have c1 := bt_le s i
  unfold clampAt
  split
  · omega
  · split <;> omega
theorem pointAt_byte (s : ByteArray) (i : Nat) : 0 ≤ pointAt s i ∧ pointAt s i < 256 := by
  have b0 := bt_nonneg s 31; have b1 := bt_le s 31; have c0 := bt_nonneg s i; have c1 := bt_le s i
  unfold pointAt
  split <;> omega
theorem row32_bt (f : Nat → Int) (hf : ∀ i, 0 ≤ f i ∧ f i < 256) (i : Nat) (hi : i < 32) : bt (row32 f) i = f i := by
  unfold row32
  rw [bt_str _ (fun v hv => by obtain ⟨j, -, rfl⟩ := List.mem_map.1 hv; exact hf j) i (by simpa using hi), range_getD f i hi]
theorem clampB_bt (s : ByteArray) (i : Nat) (hi : i < 32) : bt (clampB s) i = clampAt s i := row32_bt _ (clampAt_byte s) i hi
theorem pointB_bt (s : ByteArray) (i : Nat) (hi : i < 32) : bt (pointB s) i = pointAt s i := row32_bt _ (pointAt_byte s) i hi

set_option maxHeartbeats 1000000 in
theorem clamped_any (s : ByteArray) (hs : s.size = 32) (w : World) :
    Calls Tryd.prog 46 #[.string s] w fun e w' => e = .returned (.string (clampB s)) ∧ Below w.heap.size w w' := by
  have eA := andNot7 _ (bt_nonneg s 0) (bt_le s 0)
  have eM := and127 _ (bt_nonneg s 31) (bt_le s 31)
  have eO := or64 _ (bt_nonneg s 31) (bt_le s 31)
  go_enter Tryd.func46, Tryd.ntmps46
  go_wp2_with fail
  rw [Lib.run_convert_string_bytes _ 9 43 5 s Tryd.underlying9 Tryd.underlying43 Tryd.underlying5, hs]
  have h0 := bytes_cell w 5 s 0 (by omega)
  have h31 := bytes_cell w 5 s 31 (by omega)
  have f0 := bytes_frozen w 5 s 0 (by omega)
  have f31 := bytes_frozen w 5 s 31 (by omega)
  have hB := bytes_below w 5 s
  have hc : ∀ j, j < 32 → (Lib.bytesWorld w 5 s).cell? ⟨w.heap.size, j, none⟩ = some (.int .u8 (bt s j)) := fun j hj => bytes_cell w _ s j (by omega)
  have HC := Lib.hid hc
  clear hc
  generalize grownCap w 32 0 5 = cap
  generalize Lib.bytesWorld w 5 s = W at *
  go_wp2_with fail
  rw [run_convert_bytes_arg _ 43 5 Tryd.underlying43 Tryd.underlying5 w.heap.size 0 32 cap ((List.range 32).map (clampAt s)) (by simp) ?cells 9 Tryd.underlying9]
  case cells =>
    intro i hi
    rw [range_getD _ i hi, Nat.zero_add]
    unfold clampAt
    split
    · rename_i h; subst h
      exact setCell_at (setCell_at (World.cell?_setCell_same _ _ _ h0) (by omega)) (by omega)
    · split
      · rename_i h; subst h
        exact World.cell?_setCell_same _ _ _ (World.cell?_setCell_same _ _ _ (setCell_at h31 (by omega)))
      · exact setCell_at (setCell_at (setCell_at (HC.out i hi) (by omega)) (by omega)) (by omega)
  clear HC h0 h31 f0 f31 eA eM eO
  have hB' := ((hB.setCell (p := ⟨w.heap.size, 0, none⟩) (Nat.le_refl _) (.int .u8 (bt s 0 - bt s 0 % 8))).setCell (p := ⟨w.heap.size, 31, none⟩) (Nat.le_refl _) (.int .u8 (bt s 31 % 128))).setCell (p := ⟨w.heap.size, 31, none⟩) (Nat.le_refl _) (.int .u8 (bt s 31 % 64 + 64))
  go_wp2_with fail
  go_ret
  exact ⟨rfl, hB'⟩

set_option maxHeartbeats 1000000 in
theorem ofPoint_any (s : ByteArray) (hs : s.size = 32) (w : World) (hP : PrimeAt w) :
    Calls Tryd.prog 48 #[.string s] w (Tells (leNum (pointB s) % Pr) w) := by
  have eM := and127 _ (bt_nonneg s 31) (bt_le s 31)
  have lb := hP.lt
  go_enter Tryd.func48, Tryd.ntmps48
  go_wp2_with fail
  rw [Lib.run_convert_string_bytes _ 9 43 5 s Tryd.underlying9 Tryd.underlying43 Tryd.underlying5, hs]
  have h31 := bytes_cell w 5 s 31 (by omega)
  have f31 := bytes_frozen w 5 s 31 (by omega)
  have hB := bytes_below w 5 s
  have hc : ∀ j, j < 32 → (Lib.bytesWorld w 5 s).cell? ⟨w.heap.size, j, none⟩ = some (.int .u8 (bt s j)) := fun j hj => bytes_cell w _ s j (by omega)
  have HC := Lib.hid hc
  clear hc
  generalize grownCap w 32 0 5 = cap
  generalize Lib.bytesWorld w 5 s = W at *
  go_wp2_with fail
  rw [run_convert_bytes_arg _ 43 5 Tryd.underlying43 Tryd.underlying5 w.heap.size 0 32 cap ((List.range 32).map (pointAt s)) (by simp) ?cells 9 Tryd.underlying9]
  case cells =>
    intro i hi
    rw [range_getD _ i hi, Nat.zero_add]
    unfold pointAt
    split
    · rename_i h; subst h
      exact World.cell?_setCell_same _ _ _ h31
    · exact setCell_at (HC.out i hi) (by omega)
  have hB' := hB.setCell (p := ⟨w.heap.size, 31, none⟩) (Nat.le_refl _) (.int .u8 (bt s 31 % 128))
  clear HC h31 f31 eM hB
  generalize World.setCell W _ _ = W1 at hB' ⊢
  have HN := Lib.hid (norm_good (pointB s) (row32_size _) W1 (hP.below hB' lb))
  have hs1 := hB'.size
  rw [show strOfNums ((List.range 32).map (pointAt s)) = pointB s from rfl]
  go_wp2_with fail
  refine HN.out.mono ?_
  rintro e w2 ⟨rfl, hb2⟩
  have hB2 := hB'.trans (hb2.mono hs1)
  clear hb2 hB' HN
  go_wp2_with fail
  go_ret
  exact ⟨rfl, hB2⟩
end Go.Proofs.YtccjhlipcgpkmaaDoor
