/- A number's text read again is the number. Nothing of the program's runs stands here. -/
import Derived.Test.YtccjhlipcgpkmaaDoorRead
import Derived.Test.YtccjhlipcgpkmaaDoorBytes
namespace Go.Proofs.YtccjhlipcgpkmaaDoor
open Go.RowKit Go.PlainAid

theorem bt_str (l : List Int) (h : ∀ v ∈ l, 0 ≤ v ∧ v < 256) (k : Nat) (hk : k < l.length) : bt (strOfNums l) k = l.getD k 0 := by
  have hs : k < (strOfNums l).size := by rw [strOfNums_size]; exact hk
  have hv := h l[k] (List.getElem_mem hk)
  have e : (strOfNums l)[k]'hs = UInt8.ofNat (l[k]).toNat := by
    show (strOfNums l).data[k]'hs = _
    simp [strOfNums]
  unfold bt
  rw [dif_pos hs, e, List.getD_eq_getElem?_getD, List.getElem?_eq_getElem hk, Option.getD_some]
  rw [UInt8.toNat_ofNat']
  omega
theorem bt_extract (s : ByteArray) (a b k : Nat) (hb : b ≤ s.size) (hk : a + k < b) : bt (s.extract a b) k = bt s (a + k) := by
  have h1 : k < (s.extract a b).size := by rw [ByteArray.size_extract]; omega
  have h2 : a + k < s.size := by omega
  unfold bt
  rw [dif_pos h1, dif_pos h2, ByteArray.getElem_extract]
theorem bytesLE_mem (n : Nat) : ∀ x, ∀ v ∈ bytesLE n x, 0 ≤ v ∧ v < 256 := by
  induction n with
  | zero => intro x v hv; cases hv
  | succ n ih =>
    intro x v hv
    rcases List.mem_cons.1 hv with rfl | hv
    · omega
    · exact ih _ _ hv
/-- what digits tell -/
def valLE : List Int → Int
  | [] => 0
  | d :: r => d + 256 * valLE r
theorem mod_split (x m : Int) (hm : 0 < m) : x % (256 * m) = x % 256 + 256 * (x / 256 % m) := by
  have h1 : x = x % 256 + 256 * (x / 256) := (Int.emod_add_mul_ediv x 256).symm
  have h2 : x / 256 = x / 256 % m + m * (x / 256 / m) := (Int.emod_add_mul_ediv _ _).symm
  have h3 : 0 ≤ x / 256 % m := Int.emod_nonneg _ (by omega)
  have h4 : x / 256 % m < m := Int.emod_lt_of_pos _ hm
  have h5 : x = (x % 256 + 256 * (x / 256 % m)) + (256 * m) * (x / 256 / m) := by
    rw [Int.mul_assoc]
    generalize m * (x / 256 / m) = t at *
    omega
  have h6 : 0 ≤ x % 256 ∧ x % 256 < 256 := by omega
  have h7 : x % (256 * m) = ((x % 256 + 256 * (x / 256 % m)) + (256 * m) * (x / 256 / m)) % (256 * m) := by rw [← h5]
  rw [h7, Int.add_mul_emod_self_left]
  exact Int.emod_eq_of_lt (by omega) (by omega)
theorem valLE_bytesLE (n : Nat) : ∀ x, valLE (bytesLE n x) = x % (256 : Int) ^ n := by
  induction n with
  | zero => intro x; simp [bytesLE, valLE, Int.emod_one]
  | succ n ih =>
    intro x
    simp only [bytesLE, valLE]
    rw [ih, Int.pow_succ, Int.mul_comm ((256 : Int) ^ n) 256, mod_split _ _ (Int.pow_pos (by omega))]
theorem leNum_bt (s : ByteArray) (hs : s.size = 32) : leNum s = valLE [bt s 0, bt s 1, bt s 2, bt s 3, bt s 4, bt s 5, bt s 6, bt s 7, bt s 8, bt s 9, bt s 10, bt s 11, bt s 12, bt s 13, bt s 14, bt s 15,
    bt s 16, bt s 17, bt s 18, bt s 19, bt s 20, bt s 21, bt s 22, bt s 23, bt s 24, bt s 25, bt s 26, bt s 27, bt s 28, bt s 29, bt s 30, bt s 31] := by
  have h0 : ∀ k, k < 8 → bt (s.extract 0 8) k = bt s (0 + k) := fun k hk => bt_extract s 0 8 k (by omega) (by omega)
  have h1 : ∀ k, k < 8 → bt (s.extract 8 16) k = bt s (8 + k) := fun k hk => bt_extract s 8 16 k (by omega) (by omega)
  have h2 : ∀ k, k < 8 → bt (s.extract 16 24) k = bt s (16 + k) := fun k hk => bt_extract s 16 24 k (by omega) (by omega)
  have h3 : ∀ k, k < 8 → bt (s.extract 24 32) k = bt s (24 + k) := fun k hk => bt_extract s 24 32 k (by omega) (by omega)
  unfold leNum word8 val4
  rw [h0 0 (by omega), h0 1 (by omega), h0 2 (by omega), h0 3 (by omega), h0 4 (by omega), h0 5 (by omega), h0 6 (by omega), h0 7 (by omega)]
  rw [h1 0 (by omega), h1 1 (by omega), h1 2 (by omega), h1 3 (by omega), h1 4 (by omega), h1 5 (by omega), h1 6 (by omega), h1 7 (by omega)]
  rw [h2 0 (by omega), h2 1 (by omega), h2 2 (by omega), h2 3 (by omega), h2 4 (by omega), h2 5 (by omega), h2 6 (by omega), h2 7 (by omega)]
  rw [h3 0 (by omega), h3 1 (by omega), h3 2 (by omega), h3 3 (by omega), h3 4 (by omega), h3 5 (by omega), h3 6 (by omega), h3 7 (by omega)]
  simp only [valLE, Nat.zero_add, Nat.reduceAdd]
  generalize bt s 0 = d0; generalize bt s 1 = d1; generalize bt s 2 = d2; generalize bt s 3 = d3; generalize bt s 4 = d4; generalize bt s 5 = d5; generalize bt s 6 = d6; generalize bt s 7 = d7
  generalize bt s 8 = d8; generalize bt s 9 = d9; generalize bt s 10 = d10; generalize bt s 11 = d11; generalize bt s 12 = d12; generalize bt s 13 = d13; generalize bt s 14 = d14; generalize bt s 15 = d15
  generalize bt s 16 = d16; generalize bt s 17 = d17; generalize bt s 18 = d18; generalize bt s 19 = d19; generalize bt s 20 = d20; generalize bt s 21 = d21; generalize bt s 22 = d22; generalize bt s 23 = d23
  generalize bt s 24 = d24; generalize bt s 25 = d25; generalize bt s 26 = d26; generalize bt s 27 = d27; generalize bt s 28 = d28; generalize bt s 29 = d29; generalize bt s 30 = d30; generalize bt s 31 = d31
  omega
theorem list32 (l : List Int) (h : l.length = 32) : [l.getD 0 0, l.getD 1 0, l.getD 2 0, l.getD 3 0, l.getD 4 0, l.getD 5 0, l.getD 6 0, l.getD 7 0, l.getD 8 0, l.getD 9 0, l.getD 10 0, l.getD 11 0, l.getD 12 0, l.getD 13 0, l.getD 14 0, l.getD 15 0,
    l.getD 16 0, l.getD 17 0, l.getD 18 0, l.getD 19 0, l.getD 20 0, l.getD 21 0, l.getD 22 0, l.getD 23 0, l.getD 24 0, l.getD 25 0, l.getD 26 0, l.getD 27 0, l.getD 28 0, l.getD 29 0, l.getD 30 0, l.getD 31 0] = l := by
  rcases l with _ | ⟨_, _ | ⟨_, _ | ⟨_, _ | ⟨_, _ | ⟨_, _ | ⟨_, _ | ⟨_, _ | ⟨_, _ | ⟨_, _ | ⟨_, _ | ⟨_, _ | ⟨_, _ | ⟨_, _ | ⟨_, _ | ⟨_, _ | ⟨_, _ | ⟨_, _ | ⟨_, _ | ⟨_, _ | ⟨_, _ | ⟨_, _ | ⟨_, _ | ⟨_, _ | ⟨_, _ | ⟨_, _ | ⟨_, _ | ⟨_, _ | ⟨_, _ | ⟨_, _ | ⟨_, _ | ⟨_, _ | ⟨_, l⟩⟩⟩⟩⟩⟩⟩⟩⟩⟩⟩⟩⟩⟩⟩⟩⟩⟩⟩⟩⟩⟩⟩⟩⟩⟩⟩⟩⟩⟩⟩⟩ <;> simp at h
  subst h; rfl
theorem leNum_leStr (x : Int) (h0 : 0 ≤ x) (h1 : x < W256) : leNum (leStr x) = x := by
  have hl := bytesLE_length 32 x
  have hb : ∀ k, k < 32 → bt (leStr x) k = (bytesLE 32 x).getD k 0 := fun k hk => bt_str _ (bytesLE_mem 32 x) k (by rw [hl]; exact hk)
  rw [leNum_bt _ (leStr_size x), hb 0 (by omega), hb 1 (by omega), hb 2 (by omega), hb 3 (by omega), hb 4 (by omega), hb 5 (by omega), hb 6 (by omega), hb 7 (by omega), hb 8 (by omega), hb 9 (by omega), hb 10 (by omega), hb 11 (by omega), hb 12 (by omega), hb 13 (by omega), hb 14 (by omega), hb 15 (by omega),
    hb 16 (by omega), hb 17 (by omega), hb 18 (by omega), hb 19 (by omega), hb 20 (by omega), hb 21 (by omega), hb 22 (by omega), hb 23 (by omega), hb 24 (by omega), hb 25 (by omega), hb 26 (by omega), hb 27 (by omega), hb 28 (by omega), hb 29 (by omega), hb 30 (by omega), hb 31 (by omega), list32 _ hl, valLE_bytesLE]
  exact Int.emod_eq_of_lt h0 (by unfold W256 at h1; simpa using h1)
theorem leStr_inj {x y : Int} (hx0 : 0 ≤ x) (hx : x < W256) (hy0 : 0 ≤ y) (hy : y < W256) (h : leStr x = leStr y) : x = y := by
  rw [← leNum_leStr x hx0 hx, ← leNum_leStr y hy0 hy, h]
theorem mod_range (x : Int) : 0 ≤ x % Pr ∧ x % Pr < W256 := by
  have h1 : 0 ≤ x % Pr := Int.emod_nonneg _ (by unfold Pr; omega)
  have h2 : x % Pr < Pr := Int.emod_lt_of_pos _ (by unfold Pr; omega)
  refine ⟨h1, ?_⟩
  have : Pr < W256 := by unfold Pr W256; omega
  omega
theorem leNum_mod (x : Int) : leNum (leStr (x % Pr)) = x % Pr := leNum_leStr _ (mod_range x).1 (mod_range x).2
theorem leNum_range (s : ByteArray) : 0 ≤ leNum s ∧ leNum s < W256 := is4_range (num_read s)
end Go.Proofs.YtccjhlipcgpkmaaDoor
