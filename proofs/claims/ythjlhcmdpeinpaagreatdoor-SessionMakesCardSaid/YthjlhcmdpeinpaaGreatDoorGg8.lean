/- The texts Le, Refv, Refs, Reft, Dig, one behind the other. -/
import Derived.Test.YthjlhcmdpeinpaaGreatDoorGg5
import Derived.Test.YthjlhcmdpeinpaaGreatDoorGg1
import Derived.Test.YthjlhcmdpeinpaaGreatDoorGg7
import Derived.Test.YthjlhcmdpeinpaaGreatDoorGg3
/- A number's text read again is the number. Nothing of the program's runs stands here. -/
namespace Go.Proofs.YthjlhcmdpeinpaaGreatDoor
set_option maxRecDepth 100000
open Go.RowKit Go.PlainAid
theorem bt_str (l : List Int) (h : ∀ v ∈ l, 0 ≤ v ∧ v < 256) (k : Nat) (hk : k < l.length) : bt (strOfNums l) k = l.getD k 0 := by
  have hs : k < (strOfNums l).size := by rw [strOfNums_size]; exact hk
  have hv := h l[k] (List.getElem_mem hk)
  have e : (strOfNums l)[k]'hs = UInt8.ofNat (l[k]).toNat := by
    show (strOfNums l).data[k]'hs = _
    simp [strOfNums]
  unfold bt
  rw [dif_pos hs, e, List.getD_eq_getElem?_getD, List.getElem?_eq_getElem hk, Option.getD_some]
  rw [UInt8.toNat_ofNat']
  omega
theorem bt_extract (s : ByteArray) (a b k : Nat) (hb : b ≤ s.size) (hk : a + k < b) : bt (s.extract a b) k = bt s (a + k) := by
  have h1 : k < (s.extract a b).size := by rw [ByteArray.size_extract]; omega
  have h2 : a + k < s.size := by omega
  unfold bt
  rw [dif_pos h1, dif_pos h2, ByteArray.getElem_extract]
theorem bytesLE_mem (n : Nat) : ∀ x, ∀ v ∈ bytesLE n x, 0 ≤ v ∧ v < 256 := by
  induction n with
  | zero => intro x v hv; cases hv
  | succ n ih =>
    intro x v hv
    rcases List.mem_cons.1 hv with rfl | hv
    · omega
    · exact ih _ _ hv
/-- what digits tell -/
def valLE : List Int → Int
  | [] => 0
  | d :: r => d + 256 * valLE r
theorem mod_split (x m : Int) (hm : 0 < m) : x % (256 * m) = x % 256 + 256 * (x / 256 % m) := by
  have h1 : x = x % 256 + 256 * (x / 256) := (Int.emod_add_mul_ediv x 256).symm
  have h2 : x / 256 = x / 256 % m + m * (x / 256 / m) := (Int.emod_add_mul_ediv _ _).symm
  have h3 : 0 ≤ x / 256 % m := Int.emod_nonneg _ (by omega)
  have h4 : x / 256 % m < m := Int.emod_lt_of_pos _ hm
  have h5 : x = (x % 256 + 256 * (x / 256 % m)) + (256 * m) * (x / 256 / m) := by
    rw [Int.mul_assoc]
    generalize m * (x / 256 / m) = t at *
    omega
  have h6 : 0 ≤ x % 256 ∧ x % 256 < 256 := by omega
  have h7 : x % (256 * m) = ((x % 256 + 256 * (x / 256 % m)) + (256 * m) * (x / 256 / m)) % (256 * m) := by rw [← h5]
  rw [h7, Int.add_mul_emod_self_left]
  exact Int.emod_eq_of_lt (by omega) (by omega)
theorem valLE_bytesLE (n : Nat) : ∀ x, valLE (bytesLE n x) = x % (256 : Int) ^ n := by
  induction n with
  | zero => intro x; simp [bytesLE, valLE, Int.emod_one]
  | succ n ih =>
    intro x
    simp only [bytesLE, valLE]
    rw [ih, Int.pow_succ, Int.mul_comm ((256 : Int) ^ n) 256, mod_split _ _ (Int.pow_pos (by omega))]
theorem leNum_bt (s : ByteArray) (hs : s.size = 32) : leNum s = valLE [bt s 0, bt s 1, bt s 2, bt s 3, bt s 4, bt s 5, bt s 6, bt s 7, bt s 8, bt s 9, bt s 10, bt s 11, bt s 12, bt s 13, bt s 14, bt s 15,
    bt s 16, bt s 17, bt s 18, bt s 19, bt s 20, bt s 21, bt s 22, bt s 23, bt s 24, bt s 25, bt s 26, bt s 27, bt s 28, bt s 29, bt s 30, bt s 31] := by
  have h0 : ∀ k, k < 8 → bt (s.extract 0 8) k = bt s (0 + k) := fun k hk => bt_extract s 0 8 k (by omega) (by omega)
  have h1 : ∀ k, k < 8 → bt (s.extract 8 16) k = bt s (8 + k) := fun k hk => bt_extract s 8 16 k (by omega) (by omega)
  have h2 : ∀ k, k < 8 → bt (s.extract 16 24) k = bt s (16 + k) := fun k hk => bt_extract s 16 24 k (by omega) (by omega)
  have h3 : ∀ k, k < 8 → bt (s.extract 24 32) k = bt s (24 + k) := fun k hk => bt_extract s 24 32 k (by omega) (by omega)
  unfold leNum word8 val4
  rw [h0 0 (by omega), h0 1 (by omega), h0 2 (by omega), h0 3 (by omega), h0 4 (by omega), h0 5 (by omega), h0 6 (by omega), h0 7 (by omega)]
  rw [h1 0 (by omega), h1 1 (by omega), h1 2 (by omega), h1 3 (by omega), h1 4 (by omega), h1 5 (by omega), h1 6 (by omega), h1 7 (by omega)]
  rw [h2 0 (by omega), h2 1 (by omega), h2 2 (by omega), h2 3 (by omega), h2 4 (by omega), h2 5 (by omega), h2 6 (by omega), h2 7 (by omega)]
  rw [h3 0 (by omega), h3 1 (by omega), h3 2 (by omega), h3 3 (by omega), h3 4 (by omega), h3 5 (by omega), h3 6 (by omega), h3 7 (by omega)]
  simp only [valLE, Nat.zero_add, Nat.reduceAdd]
  generalize bt s 0 = d0; generalize bt s 1 = d1; generalize bt s 2 = d2; generalize bt s 3 = d3; generalize bt s 4 = d4; generalize bt s 5 = d5; generalize bt s 6 = d6; generalize bt s 7 = d7
  generalize bt s 8 = d8; generalize bt s 9 = d9; generalize bt s 10 = d10; generalize bt s 11 = d11; generalize bt s 12 = d12; generalize bt s 13 = d13; generalize bt s 14 = d14; generalize bt s 15 = d15
  generalize bt s 16 = d16; generalize bt s 17 = d17; generalize bt s 18 = d18; generalize bt s 19 = d19; generalize bt s 20 = d20; generalize bt s 21 = d21; generalize bt s 22 = d22; generalize bt s 23 = d23
  generalize bt s 24 = d24; generalize bt s 25 = d25; generalize bt s 26 = d26; generalize bt s 27 = d27; generalize bt s 28 = d28; generalize bt s 29 = d29; generalize bt s 30 = d30; generalize bt s 31 = d31
  omega
theorem list32 (l : List Int) (h : l.length = 32) : [l.getD 0 0, l.getD 1 0, l.getD 2 0, l.getD 3 0, l.getD 4 0, l.getD 5 0, l.getD 6 0, l.getD 7 0, l.getD 8 0, l.getD 9 0, l.getD 10 0, l.getD 11 0, l.getD 12 0, l.getD 13 0, l.getD 14 0, l.getD 15 0,
    l.getD 16 0, l.getD 17 0, l.getD 18 0, l.getD 19 0, l.getD 20 0, l.getD 21 0, l.getD 22 0, l.getD 23 0, l.getD 24 0, l.getD 25 0, l.getD 26 0, l.getD 27 0, l.getD 28 0, l.getD 29 0, l.getD 30 0, l.getD 31 0] = l := by
  rcases l with _ | ⟨_, _ | ⟨_, _ | ⟨_, _ | ⟨_, _ | ⟨_, _ | ⟨_, _ | ⟨_, _ | ⟨_, _ | ⟨_, _ | ⟨_, _ | ⟨_, _ | ⟨_, _ | ⟨_, _ | ⟨_, _ | ⟨_, _ | ⟨_, _ | ⟨_, _ | ⟨_, _ | ⟨_, _ | ⟨_, _ | ⟨_, _ | ⟨_, _ | ⟨_, _ | ⟨_, _ | ⟨_, _ | ⟨_, _ | ⟨_, _ | ⟨_, _ | ⟨_, _ | ⟨_, _ | ⟨_, _ | ⟨_, l⟩⟩⟩⟩⟩⟩⟩⟩⟩⟩⟩⟩⟩⟩⟩⟩⟩⟩⟩⟩⟩⟩⟩⟩⟩⟩⟩⟩⟩⟩⟩⟩ <;> simp at h
  subst h; rfl
theorem leNum_leStr (x : Int) (h0 : 0 ≤ x) (h1 : x < W256) : leNum (leStr x) = x := by
  have hl := bytesLE_length 32 x
  have hb : ∀ k, k < 32 → bt (leStr x) k = (bytesLE 32 x).getD k 0 := fun k hk => bt_str _ (bytesLE_mem 32 x) k (by rw [hl]; exact hk)
  rw [leNum_bt _ (leStr_size x), hb 0 (by omega), hb 1 (by omega), hb 2 (by omega), hb 3 (by omega), hb 4 (by omega), hb 5 (by omega), hb 6 (by omega), hb 7 (by omega), hb 8 (by omega), hb 9 (by omega), hb 10 (by omega), hb 11 (by omega), hb 12 (by omega), hb 13 (by omega), hb 14 (by omega), hb 15 (by omega),
    hb 16 (by omega), hb 17 (by omega), hb 18 (by omega), hb 19 (by omega), hb 20 (by omega), hb 21 (by omega), hb 22 (by omega), hb 23 (by omega), hb 24 (by omega), hb 25 (by omega), hb 26 (by omega), hb 27 (by omega), hb 28 (by omega), hb 29 (by omega), hb 30 (by omega), hb 31 (by omega), list32 _ hl, valLE_bytesLE]
  exact Int.emod_eq_of_lt h0 (by unfold W256 at h1; simpa using h1)
end Go.Proofs.YthjlhcmdpeinpaaGreatDoor

/- Digits of a text tell the number that its bytes tell. Nothing of the program's runs stands here. -/
namespace Go.Proofs.YthjlhcmdpeinpaaGreatDoor
set_option maxRecDepth 100000
open Go.RowKit Go.PlainAid
theorem digs_small (s : ByteArray) (k : Nat) : Small (digs s k) := by
  intro d hd
  obtain ⟨i, -, rfl⟩ := List.mem_map.1 hd
  have a1 := bt_nonneg s (2 * i); have a2 := bt_le s (2 * i); have a3 := bt_nonneg s (2 * i + 1); have a4 := bt_le s (2 * i + 1)
  unfold dig
  omega
theorem digs_val (s : ByteArray) (hs : s.size = 32) : valD (digs s 16) = leNum s := by
  rw [leNum_bt s hs]
  have e : digs s 16 = [dig s 0, dig s 1, dig s 2, dig s 3, dig s 4, dig s 5, dig s 6, dig s 7, dig s 8, dig s 9, dig s 10, dig s 11, dig s 12, dig s 13, dig s 14, dig s 15] := rfl
  rw [e]
  simp only [valD, valLE, dig, Nat.reduceMul, Nat.reduceAdd]
  generalize bt s 0 = d0; generalize bt s 1 = d1; generalize bt s 2 = d2; generalize bt s 3 = d3; generalize bt s 4 = d4; generalize bt s 5 = d5; generalize bt s 6 = d6; generalize bt s 7 = d7
  generalize bt s 8 = d8; generalize bt s 9 = d9; generalize bt s 10 = d10; generalize bt s 11 = d11; generalize bt s 12 = d12; generalize bt s 13 = d13; generalize bt s 14 = d14; generalize bt s 15 = d15
  generalize bt s 16 = d16; generalize bt s 17 = d17; generalize bt s 18 = d18; generalize bt s 19 = d19; generalize bt s 20 = d20; generalize bt s 21 = d21; generalize bt s 22 = d22; generalize bt s 23 = d23
  generalize bt s 24 = d24; generalize bt s 25 = d25; generalize bt s 26 = d26; generalize bt s 27 = d27; generalize bt s 28 = d28; generalize bt s 29 = d29; generalize bt s 30 = d30; generalize bt s 31 = d31
  omega
end Go.Proofs.YthjlhcmdpeinpaaGreatDoor

/- The contract of the reference's difference of digits. -/
namespace Go.Proofs.YthjlhcmdpeinpaaGreatDoor
set_option maxRecDepth 100000
open Go.RowKit
def SubInv (a b : List Int) (k : Nat) (out : List Int) (borrow : Int) : Prop := out.length = k ∧ (∀ d ∈ out, 0 ≤ d ∧ d ≤ 131070) ∧ (0 ≤ borrow ∧ borrow ≤ 1) ∧
  valD out = valD (a.take k) + valD (primeDigits.take k) - valD (b.take k) + borrow * 65536 ^ k ∧ (borrow = 1 → valD (primeDigits.take k) < valD (b.take k))
theorem sub_step {a b : List Int} {k : Nat} {out : List Int} {borrow d r : Int} (hka : k < a.length) (hkb : k < b.length) (hkp : k < primeDigits.length) (hsa : Small a) (hsb : Small b) (h : SubInv a b k out borrow)
    (hr : 0 ≤ r ∧ r ≤ 1) (hd : d = a[k] + primeDigits[k] - b[k] - borrow + 65536 * r) (hn : r = 1 ↔ a[k] + primeDigits[k] - b[k] - borrow < 0) : SubInv a b (k + 1) (out ++ [d]) r := by
  obtain ⟨e1, e2, e3, e4, e5⟩ := h
  have ha := hsa _ (List.getElem_mem hka)
  have hb := hsb _ (List.getElem_mem hkb)
  have hp := prime_small_digits _ (List.getElem_mem hkp)
  have r1 := valD_range (primeDigits.take k) (small_take prime_small_digits k)
  have r2 := valD_range (b.take k) (small_take hsb k)
  rw [List.length_take, Nat.min_eq_left (by omega)] at r1 r2
  have hw : (0 : Int) < 65536 ^ k := Int.pow_pos (by omega)
  refine ⟨by simp [e1], ?_, hr, ?_, ?_⟩
  · intro x hx
    rcases List.mem_append.1 hx with hx | hx
    · exact e2 x hx
    · simp at hx; subst hx
      rcases (show r = 1 ∨ r = 0 by omega) with h1 | h1
      · have := hn.1 h1; omega
      · have : ¬ (a[k] + primeDigits[k] - b[k] - borrow < 0) := fun h => by have := hn.2 h; omega
        omega
  · rw [List.take_succ_eq_append_getElem hka, List.take_succ_eq_append_getElem hkb, List.take_succ_eq_append_getElem hkp, valD_snoc, valD_snoc, valD_snoc, valD_snoc, List.length_take, List.length_take, List.length_take, Nat.min_eq_left (by omega), Nat.min_eq_left (by omega), Nat.min_eq_left (by omega), e1, e4, Int.pow_succ, hd]
    generalize (65536 : Int) ^ k = p at *
    grind
  · intro h1
    have hlt := hn.1 h1
    rw [List.take_succ_eq_append_getElem hkb, List.take_succ_eq_append_getElem hkp, valD_snoc, valD_snoc, List.length_take, List.length_take, Nat.min_eq_left (by omega), Nat.min_eq_left (by omega)]
    generalize primeDigits[k] = y at *
    generalize b[k] = z at *
    generalize a[k] = x at *
    generalize valD (primeDigits.take k) = P at *
    generalize valD (b.take k) = B at *
    generalize (65536 : Int) ^ k = p at *
    rcases (show borrow = 1 ∨ borrow = 0 by omega) with hb1 | hb1
    · have h2 := e5 hb1
      have h3 : y * p ≤ z * p := Int.mul_le_mul_of_nonneg_right (by omega) (by omega)
      omega
    · have h3 : (y + 1) * p ≤ z * p := Int.mul_le_mul_of_nonneg_right (by omega) (by omega)
      rw [Int.add_mul, Int.one_mul] at h3
      omega
theorem sub_done {a b out : List Int} {borrow : Int} (ha : a.length = 16) (hb : b.length = 16) (hlt : valD b < Pr) (h : SubInv a b 16 out borrow) : valD out % Pr = (valD a - valD b) % Pr := by
  obtain ⟨e1, e2, e3, e4, e5⟩ := h
  rw [List.take_of_length_le (show a.length ≤ 16 by omega), List.take_of_length_le (show b.length ≤ 16 by omega), List.take_of_length_le (show primeDigits.length ≤ 16 from Nat.le_refl _), valD_prime] at e4
  rw [List.take_of_length_le (show b.length ≤ 16 by omega), List.take_of_length_le (show primeDigits.length ≤ 16 from Nat.le_refl _), valD_prime] at e5
  have hb0 : borrow = 0 := by
    rcases (show borrow = 1 ∨ borrow = 0 by omega) with h | h
    · have := e5 h; omega
    · exact h
  subst hb0
  have : valD out = (valD a - valD b) + Pr * 1 := by omega
  rw [this, Int.add_mul_emod_self_left]
def SubRel (w : World) (a b : List Int) (v o i : Value) (wr : World) : Prop := ∃ (k g cap : Nat) (out : List Int) (borrow : Int), k ≤ 16 ∧ i = .int .i64 k ∧ o = .int .i64 borrow ∧ v = .slice (some ⟨g, 0, none⟩) k cap ∧ SubInv a b k out borrow ∧ Ints wr w.heap.size v out ∧ Below w.heap.size w wr
end Go.Proofs.YthjlhcmdpeinpaaGreatDoor

/- The walk of the reference's difference of digits. -/
namespace Go.Proofs.YthjlhcmdpeinpaaGreatDoor
set_option maxRecDepth 100000
open Go.RowKit
set_option maxHeartbeats 1000000 in
theorem refSub_any (va vb : Value) (a b : List Int) (hla : a.length = 16) (hlb : b.length = 16) (hsa : Small a) (hsb : Small b) (hlt : valD b < Pr) (w : World) (hA : LIntsAt w va a) (hB : LIntsAt w vb b) :
    Calls Tryz.prog 140 #[va, vb] w (RefPost ((valD a - valD b) % Pr) w) := by
  obtain ⟨ga, ca, rfl, hga, hca⟩ := hA
  obtain ⟨gb, cb, rfl, hgb, hcb⟩ := hB
  have HCA := Lib.hid hca; have HCB := Lib.hid hcb; have HLA := Lib.hid hla; have HLB := Lib.hid hlb; have HSA := Lib.hid hsa; have HSB := Lib.hid hsb; have HLT := Lib.hid hlt
  clear hca hcb hsa hsb hlt
  rw [hla, hlb]
  clear hla hlb
  go_enter Tryz.func140, Tryz.ntmps140
  go_wp2_with fail
  refine (refPrime_any _).mono ?_
  rintro e w1 ⟨pv, rfl, hP, hB1⟩
  obtain ⟨pb, pc, rfl, hpb, hpc⟩ := hP.at (by decide)
  have HP := Lib.hid hpc; have HB1 := Lib.hid hB1
  have hsz1 := hB1.size
  clear hpc hP hB1
  rw [prime_length]
  go_wp2_with fail
  go_loopw [6, 7, 14] (SubRel w1 a b) (fun _ _ i _ => 16 - (intOf i).toNat)
  case atStart => exact ⟨0, _, _, [], 0, by omega, rfl, rfl, rfl, ⟨rfl, fun _ h => by simp at h, by omega, by simp [valD], fun h => by omega⟩, Ints.empty w1 _ (Nat.le_refl _), by go_grown⟩
  case round =>
    obtain ⟨k, g, cap, out, borrow, hk, rfl, rfl, rfl, hinv, hI, hBl⟩ := hrel
    have hsz := hBl.size
    have HI := Lib.hid hI; have HV := Lib.hid hinv
    obtain ⟨o0, o1⟩ := hinv.2.2.1
    clear hI hinv
    by_cases hlt : k < 16
    · have h1 : (k : Int) < 16 := by omega
      have hka : k < a.length := by rw [HLA.out]; exact hlt
      have hkb : k < b.length := by rw [HLB.out]; exact hlt
      have hkp : k < primeDigits.length := by rw [prime_length]; exact hlt
      have hda := HSA.out _ (List.getElem_mem hka)
      have hdb := HSB.out _ (List.getElem_mem hkb)
      have hdp := prime_small_digits _ (List.getElem_mem hkp)
      have c1 : wr.cell? ⟨ga, k, none⟩ = some (.int .i64 a[k]) := by
        rw [hBl.cell (p := ⟨ga, k, none⟩) (show ga < w1.heap.size by omega), HB1.out.cell (p := ⟨ga, k, none⟩) hga]; exact at_cell HCA.out k hka
      have c2 : wr.cell? ⟨gb, k, none⟩ = some (.int .i64 b[k]) := by
        rw [hBl.cell (p := ⟨gb, k, none⟩) (show gb < w1.heap.size by omega), HB1.out.cell (p := ⟨gb, k, none⟩) hgb]; exact at_cell HCB.out k hkb
      have c3 : wr.cell? ⟨pb, k, none⟩ = some (.int .i64 primeDigits[k]) := by
        rw [hBl.cell (p := ⟨pb, k, none⟩) hpb]; exact at_cell HP.out k hkp
      have hst := fun d r hr hd hn => sub_step (d := d) (r := r) hka hkb hkp HSA.out HSB.out HV.out hr hd hn
      have HST := Lib.hid hst
      clear hst
      generalize a[k] = x at *
      generalize b[k] = z at *
      generalize primeDigits[k] = y at *
      obtain ⟨x0, x1⟩ := hda
      obtain ⟨z0, z1⟩ := hdb
      obtain ⟨y0, y1⟩ := hdp
      have l1 : ga < wr.heap.size := by omega
      have l2 : gb < wr.heap.size := by omega
      have l3 : pb < wr.heap.size := by omega
      have w1' : IntKind.i64.wrap (x + y) = x + y := IntWalk.i64_in _ (by omega)
      have w2' : IntKind.i64.wrap (x + y - z) = x + y - z := IntWalk.i64_in _ (by omega)
      have w3' : IntKind.i64.wrap (x + y - z - borrow) = x + y - z - borrow := IntWalk.i64_in _ (by omega)
      have w4' : IntKind.i64.wrap (x + y - z - borrow + 65536) = x + y - z - borrow + 65536 := IntWalk.i64_in _ (by omega)
      have HOL := Lib.hid HV.out.1
      by_cases hneg : x + y - z - borrow < 0
      · have t1 : x + y - z - borrow + 65536 < 65536 := by omega
        go_wp2_with fail
        go_quiet (fail)
        go_wp2_with (at_builtin; refine append_int rfl _ _ rfl w1.heap.size _ out (x + y - z - borrow + 65536) wr.heap.size rfl ?c0 rfl ?c1 ?c2 ?c3 ?_)
        case c0 => exact Ints.alloc (w := wr.drewN _) HI.out _
        case c1 => exact World.cell?_alloc_new (wr.drewN _) _ _ 0
        case c2 => rw [HOL.out]; omega
        case c3 => simp; omega
        intro g' cap' w' hI' hg'
        have hB' := Ints.below_grown (wr := wr.drewN _) HI.out (below_quiet hBl _) hsz hg'
        clear hg' hBl
        have HI' := Lib.hid hI'
        clear hI'
        have HS2 := Lib.hid (HST.out (x + y - z - borrow + 65536) 1 (by omega) (by omega) (by omega))
        go_wp2_with fail
        refine ⟨⟨k + 1, g', cap', _, _, by omega, by simp, rfl, by rw [HOL.out], HS2.out, HI'.out, hB'⟩, by simp [intOf]; omega⟩
      · have t1 : ¬ x + y - z - borrow + 65536 < 65536 := by omega
        have t2 : 65536 ≤ x + y - z - borrow + 65536 := by omega
        go_wp2_with fail
        go_quiet (fail)
        go_wp2_with (at_builtin; refine append_int rfl _ _ rfl w1.heap.size _ out (x + y - z - borrow) wr.heap.size rfl ?d0 rfl ?d1 ?d2 ?d3 ?_)
        case d0 => exact Ints.alloc (w := wr.drewN _) HI.out _
        case d1 => exact World.cell?_alloc_new (wr.drewN _) _ _ 0
        case d2 => rw [HOL.out]; omega
        case d3 => simp; omega
        intro g' cap' w' hI' hg'
        have hB' := Ints.below_grown (wr := wr.drewN _) HI.out (below_quiet hBl _) hsz hg'
        clear hg' hBl
        have HI' := Lib.hid hI'
        clear hI'
        have HS2 := Lib.hid (HST.out (x + y - z - borrow) 0 (by omega) (by omega) (by omega))
        go_wp2_with fail
        refine ⟨⟨k + 1, g', cap', _, _, by omega, by simp, rfl, by rw [HOL.out], HS2.out, HI'.out, hB'⟩, by simp [intOf]; omega⟩
    · obtain rfl : k = 16 := by omega
      have hol : out.length = 16 := HV.out.1
      have hleft := left_ref_any _ out hol (fun d hd => by have := HV.out.2.1 d hd; omega) wr (by have := HI.out.at (by rw [hol]; omega); exact this)
      have hval := sub_done HLA.out HLB.out HLT.out HV.out
      rw [hval] at hleft
      have HLF := Lib.hid hleft
      clear hleft hval hol
      go_wp2_with fail
      refine HLF.out.mono ?_
      rintro e w2 ⟨v2, out2, rfl, l2, s2, e2, i2, b2⟩
      go_wp2_with fail
      go_ret
      exact ⟨v2, out2, rfl, l2, s2, e2, World.ownsRow.mono i2 (Nat.le_trans hsz1 hsz), (HB1.out.trans (hBl.mono hsz1)).trans (b2.mono (Nat.le_trans hsz1 hsz))⟩
end Go.Proofs.YthjlhcmdpeinpaaGreatDoor

/- The reference's numbers, said by their value alone: sixteen digits that lie somewhere and tell x. -/
namespace Go.Proofs.YthjlhcmdpeinpaaGreatDoor
set_option maxRecDepth 100000
open Go.RowKit
/-- the value is a row of sixteen digits that tells x -/
def Dig (w : World) (v : Value) (x : Int) : Prop := ∃ l : List Int, l.length = 16 ∧ Small l ∧ valD l = x ∧ LIntsAt w v l
theorem Dig.below {w w' : World} {v : Value} {x : Int} (h : Dig w v x) (hb : Below w.heap.size w w') : Dig w' v x := by
  obtain ⟨l, h1, h2, h3, h4⟩ := h
  exact ⟨l, h1, h2, h3, h4.below hb (Nat.le_refl _)⟩
def DigPost (x : Int) (w : World) (e : Ending) (w' : World) : Prop := ∃ v, e = .returned v ∧ Dig w' v x ∧ Below w.heap.size w w'
theorem RefPost.dig {x : Int} {w w' : World} {e : Ending} (h : RefPost x w e w') : DigPost x w e w' := by
  obtain ⟨v, out, he, l, s, hx, hI, hb⟩ := h
  exact ⟨v, he, ⟨out, l, s, hx, hI.at (by rw [l]; omega)⟩, hb⟩

theorem digDigits (s : ByteArray) (hs : s.size = 32) (w : World) : Calls Tryz.prog 95 #[.string s] w (DigPost (leNum s) w) := by
  refine (ldigits_any s hs w).mono ?_
  rintro e w' ⟨v, he, hI, hb⟩
  exact ⟨v, he, ⟨digs s 16, digs_length s 16, digs_small s 16, digs_val s hs, hI.at (by rw [digs_length]; omega)⟩, hb⟩
theorem digLeft {w : World} {v : Value} {x : Int} (h : Dig w v x) : Calls Tryz.prog 94 #[v] w (DigPost (x % Pr) w) := by
  obtain ⟨l, h1, h2, rfl, h4⟩ := h
  refine (left_ref_any v l h1 (fun d hd => by have := h2 d hd; omega) w h4).mono ?_
  rintro e w' ⟨v', out, he, l', s', hx, hI, hb⟩
  exact ⟨v', he, ⟨out, l', s', hx, hI.at (by rw [l']; omega)⟩, hb⟩
theorem digText {w : World} {v : Value} {x : Int} (h : Dig w v x) : Calls Tryz.prog 72 #[v] w fun e w' => e = .returned (.string (leStr x)) ∧ Below w.heap.size w w' := by
  obtain ⟨l, h1, h2, rfl, h4⟩ := h
  exact text_any v l h1 h2 w h4
theorem digAdd {w : World} {a b : Value} {x y : Int} (ha : Dig w a x) (hb : Dig w b y) : Calls Tryz.prog 139 #[a, b] w (DigPost ((x + y) % Pr) w) := by
  obtain ⟨l, h1, h2, rfl, h4⟩ := ha
  obtain ⟨l', h1', h2', rfl, h4'⟩ := hb
  exact (refAdd_any a b l l' h1 h1' h2 h2' w h4 h4').mono fun _ _ h => h.dig
theorem digSub {w : World} {a b : Value} {x y : Int} (ha : Dig w a x) (hb : Dig w b y) (hy : y < Pr) : Calls Tryz.prog 140 #[a, b] w (DigPost ((x - y) % Pr) w) := by
  obtain ⟨l, h1, h2, rfl, h4⟩ := ha
  obtain ⟨l', h1', h2', rfl, h4'⟩ := hb
  exact (refSub_any a b l l' h1 h1' h2 h2' hy w h4 h4').mono fun _ _ h => h.dig
theorem digMul {w : World} {a b : Value} {x y : Int} (ha : Dig w a x) (hb : Dig w b y) : Calls Tryz.prog 99 #[a, b] w (DigPost ((x * y) % Pr) w) := by
  obtain ⟨l, h1, h2, rfl, h4⟩ := ha
  obtain ⟨l', h1', h2', rfl, h4'⟩ := hb
  exact (refMul_any a b l l' h1 h1' h2 h2' w h4 h4').mono fun _ _ h => h.dig
theorem digInv {w : World} {a : Value} {x : Int} (ha : Dig w a x) : Calls Tryz.prog 100 #[a] w (DigPost (x ^ ExpN % Pr) w) := by
  obtain ⟨l, h1, h2, rfl, h4⟩ := ha
  exact (refInv_any a l h1 h2 w h4).mono fun _ _ h => h.dig
end Go.Proofs.YthjlhcmdpeinpaaGreatDoor
