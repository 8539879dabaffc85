/- Two keys share a point: the numbers that the ladder tells. -/
import Derived.Test.YtccjhlipcgpkmaaDoorShare
import Derived.Test.YtccjhlipcgpkmaaDoorLclampx
namespace Go.Proofs.YtccjhlipcgpkmaaDoor
open Go.RowKit Go.PlainAid Curve

def toA (l : Lad) : LadA (Fin pN) := ⟨phi l.x2, phi l.z2, phi l.x3, phi l.z3⟩
theorem toA_swap (b : Bool) (l : Lad) : (toA (l.swap b) : LadA (Fin pN)) = swapA b (toA l) := by cases b <;> rfl
theorem toA_step (u : Int) (l : Lad) : (toA (l.step u) : LadA (Fin pN)) = stepA (phi 121665) (phi u) (toA l) := by
  unfold toA stepA Lad.step
  simp only [nX2, nZ2, nX3, nZ3, sE, sDA, sCB, sSq, sA, sB, phi_mod, phi_mul, phi_add, phi_sub]
  congr 1
  grind
theorem toA_round (u : Int) (l : Lad) (b : Bool) : (toA (l.round u b) : LadA (Fin pN)) = roundA (phi 121665) (phi u) (toA l) b := by
  unfold Lad.round roundA
  rw [toA_swap, toA_step, toA_swap]
theorem toA_fold (u : Int) : ∀ (bs : List Bool) (l : Lad), (toA (bs.foldl (Lad.round u) l) : LadA (Fin pN)) = bs.foldl (roundA (phi 121665) (phi u)) (toA l)
  | [], _ => rfl
  | b :: bs, l => by
    show toA (bs.foldl (Lad.round u) (l.round u b)) = bs.foldl _ (roundA _ _ (toA l) b)
    rw [toA_fold u bs, toA_round]
theorem toA_run (u : Int) (bs : List Bool) : (toA (Lad.run u bs) : LadA (Fin pN)) = runA (phi 121665) (phi u) bs := by
  unfold Lad.run runA
  rw [toA_fold]
  congr 1

theorem phi_ladOut (u : Int) (bs : List Bool) : (phi (ladOut u bs)) = outA (crv) (phi u) bs := by
  have h := toA_run u bs
  unfold ladOut outA
  rw [phi_mod, phi_mul, ← invA_phi]
  show phi (Lad.run u bs).x2 * invA (phi (Lad.run u bs).z2) = (runA (phi 121665) (phi u) bs).x2 * invA (runA (phi 121665) (phi u) bs).z2
  rw [← h]
  rfl

def gxN : Int := 9771384041963202563870679428059935816164187996444183106833894008023910952347
def gyN : Int := 46316835694926478169428394003475163141307993866256225615783033603165251855960
theorem base_on : On (crv) ⟨phi gxN, phi gyN⟩ := by
  show (phi gxN) * phi gxN * (phi gyN * phi gyN) = phi (cN : Int) * (phi gxN * phi gxN + phi gyN * phi gyN - 1)
  rw [← phi_one, ← phi_mul, ← phi_mul, ← phi_mul, ← phi_add, ← phi_sub, ← phi_mul]
  exact phi_ext.2 (by decide +kernel)
theorem base_is : Is (phi 9) ⟨phi gxN, phi gyN⟩ := by
  show (phi 9) * (1 - phi gyN) = 1 + phi gyN
  rw [← phi_one, ← phi_sub, ← phi_add, ← phi_mul]
  exact phi_ext.2 (by decide +kernel)

theorem shares_int (a b : List Bool)
    (ha : ∃ t, a = true :: t) (hb : ∃ t, b = true :: t) (hae : ∃ t, a = t ++ [false]) (hbe : ∃ t, b = t ++ [false]) :
    ladOut (ladOut 9 b) a = ladOut (ladOut 9 a) b := by
  have h := shares (crv) base_on (u := phi 9) base_is (phi_ne (by decide +kernel)) a b ha hb hae hbe
  rw [← phi_ladOut, ← phi_ladOut, ← phi_ladOut, ← phi_ladOut] at h
  have h1 := phi_ext.1 h
  unfold ladOut at h1 ⊢
  rw [Int.emod_emod, Int.emod_emod] at h1
  exact h1

theorem clamp_last (k : ByteArray) : ∃ t, bitsUp (clampB k) 255 = t ++ [false] := by
  refine ⟨bitsUp (clampB k) 254, ?_⟩
  rw [bitsUp_succ]
  congr 2
  unfold bitAt
  rw [clampB_bt k _ (by omega)]
  unfold clampAt
  have := bt_nonneg k 0
  rw [if_pos (by omega)]
  simp
  omega
theorem clamp_first (k : ByteArray) : ∃ t, bitsUp (clampB k) 255 = true :: t := by
  have e : bitAt (clampB k) 254 = true := by
    unfold bitAt
    rw [clampB_bt k _ (by omega)]
    unfold clampAt
    have h0 := bt_nonneg k 31
    rw [if_neg (by omega), if_pos (by omega)]
    simp
    omega
  refine ⟨((List.range 254).map (· + 1)).map (fun j => bitAt (clampB k) (254 - j)), ?_⟩
  unfold bitsUp
  rw [List.range_succ_eq_map, List.map_cons, Nat.sub_zero, e]

theorem low_point (s : ByteArray) (hs : s.size = 32) (h : bt s 31 < 128) : pointB s = s := by
  have h0 := bt_nonneg s 31
  refine bytes_ext (by unfold pointB; rw [row32_size, hs]) fun i hi => ?_
  have hi' : i < 32 := by unfold pointB at hi; rw [row32_size] at hi; exact hi
  rw [pointB_bt s i hi']
  unfold pointAt
  split
  · rename_i e; subst e; omega
  · rfl
theorem low_byte (y : Int) (hy : Rd y) : bt (leStr y) 31 < 128 := by
  have h := hy.num
  have h2 := hy.2
  rw [leNum_bt _ (leStr_size y)] at h
  simp only [valLE] at h
  have z := fun i => bt_nonneg (leStr y) i
  have z0 := z 0; have z1 := z 1; have z2 := z 2; have z3 := z 3; have z4 := z 4; have z5 := z 5; have z6 := z 6; have z7 := z 7; have z8 := z 8; have z9 := z 9; have z10 := z 10; have z11 := z 11; have z12 := z 12; have z13 := z 13; have z14 := z 14; have z15 := z 15
  have z16 := z 16; have z17 := z 17; have z18 := z 18; have z19 := z 19; have z20 := z 20; have z21 := z 21; have z22 := z 22; have z23 := z 23; have z24 := z 24; have z25 := z 25; have z26 := z 26; have z27 := z 27; have z28 := z 28; have z29 := z 29; have z30 := z 30; have z31 := z 31
  unfold Pr at h2
  clear z
  omega
theorem mult_of (k : ByteArray) (y : Int) (hy : Rd y) : multN k (leStr y) = ladOut y (bitsUp (clampB k) 255) := by
  unfold multN
  rw [low_point _ (leStr_size y) (low_byte y hy), hy.num, Int.emod_eq_of_lt hy.1 hy.2]
theorem out_rd (u : Int) (bs : List Bool) : Rd (ladOut u bs) := Rd.mod _
theorem mult_shares (a b : ByteArray) : multN a (leStr (multN b (leStr 9))) = multN b (leStr (multN a (leStr 9))) := by
  have h9 : Rd 9 := Rd.lit (by omega) (by omega)
  rw [mult_of a 9 h9, mult_of b 9 h9, mult_of a _ (out_rd _ _), mult_of b _ (out_rd _ _)]
  exact shares_int _ _ (clamp_first a) (clamp_first b) (clamp_last a) (clamp_last b)
end Go.Proofs.YtccjhlipcgpkmaaDoor
