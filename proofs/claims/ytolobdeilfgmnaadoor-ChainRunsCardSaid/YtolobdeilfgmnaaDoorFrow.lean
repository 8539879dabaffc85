/- The contract of derive's row. -/
import Derived.Test.YtolobdeilfgmnaaDoorFhash
import Derived.Test.YtolobdeilfgmnaaDoorEw
import Derived.Test.YtolobdeilfgmnaaDoorEwrite
import Derived.Test.YtolobdeilfgmnaaDoorKa
import Derived.Test.YtolobdeilfgmnaaDoorKs
namespace Go.Proofs.YtolobdeilfgmnaaDoor
open Go.RowKit
set_option maxRecDepth 100000
/-- Tn, by a secret and a word -/
def lastT (k wd : List UInt8) : Nat → List UInt8
  | 0 => []
  | n + 1 => tagL k (lastT k wd n ++ wd ++ [UInt8.ofNat (n + 1)])
def rowT (k wd : List UInt8) : Nat → List ByteArray
  | 0 => []
  | n + 1 => rowT k wd n ++ [strL (lastT k wd (n + 1))]
theorem rowT_length (k wd : List UInt8) (n : Nat) : (rowT k wd n).length = n := by
  induction n with
  | zero => rfl
  | succ n ih => simp [rowT, ih]
theorem lastT_length (k wd : List UInt8) (n : Nat) : (lastT k wd n).length ≤ 32 := by
  cases n with
  | zero => simp [lastT]
  | succ n => rw [lastT]; exact Nat.le_of_eq (ofL_length _)

def RowRel (V : World) (n1 : Nat) (k wd : List UInt8) (n : Nat) (v8 v9 i : Value) (wr : World) : Prop :=
  ∃ j g cap : Nat, j ≤ n ∧ i = .int .i64 (j : Int) ∧ v9 = .string (strL (lastT k wd j)) ∧ v8 = .slice (some ⟨g, 0, none⟩) j cap ∧ OwnS wr n1 v8 (rowT k wd j) ∧ Below n1 V wr

set_option maxHeartbeats 4000000 in
theorem row_any (k wd : ByteArray) (n : Nat) (hk : k.size ≤ 1000000) (hwd : wd.size ≤ 80000) (hn : n ≤ 255) (w : World) (hF : FirstAt w) (hK : KeysAt w) :
    Calls Tryd.prog 33 #[.string k, .string wd, .int .i64 (n : Int)] w fun e w' => ∃ g cap, e = .returned (.slice (some ⟨g, 0, none⟩) n cap) ∧ StrsAt w' (.slice (some ⟨g, 0, none⟩) n cap) (rowT (bl k) (bl wd) n) ∧ n ≤ cap ∧ Below w.heap.size w w' := by
  have HB := Lib.hid (begin_any k hk w hF hK)
  obtain ⟨M, hM, hmk⟩ := make_strs n (by omega)
  have n0 : (0 : Int) ≤ (n : Int) := by omega
  go_enter Tryd.func33, Tryd.ntmps33
  go_wp2_with fail
  refine HB.out.mono ?_
  rintro e w1 ⟨v, rfl, hv, hb1⟩
  clear HB
  have HV := Lib.hid hv
  have hK1 := hK.on hb1
  obtain ⟨gi, oi, ci, xi, go, oo, co, xo, rfl, -⟩ := hv
  go_upto_region 4 with fail
  have h7 : ((w1.alloc (.cells #[.slice (some ⟨gi, oi, none⟩) 8 ci, .string xi, .int .u64 64, .slice (some ⟨go, oo, none⟩) 8 co, .string xo, .int .u64 64] 74)).alloc (.cells M 9)).heap[w1.heap.size]? = some (.cells #[.slice (some ⟨gi, oi, none⟩) 8 ci, .string xi, .int .u64 64, .slice (some ⟨go, oo, none⟩) 8 co, .string xo, .int .u64 64] 74) := heap_alloc2_old _ _ _
  have hO0 : OwnS ((w1.alloc (.cells #[.slice (some ⟨gi, oi, none⟩) 8 ci, .string xi, .int .u64 64, .slice (some ⟨go, oo, none⟩) 8 co, .string xo, .int .u64 64] 74)).alloc (.cells M 9)) (w1.heap.size + 1) (.slice (some ⟨w1.heap.size + 1, 0, none⟩) 0 n) [] := by
    have := OwnS.made (w1.alloc (.cells #[.slice (some ⟨gi, oi, none⟩) 8 ci, .string xi, .int .u64 64, .slice (some ⟨go, oo, none⟩) 8 co, .string xo, .int .u64 64] 74)) M (w1.heap.size + 1) n hM (by simp) (by omega)
    simpa using this
  have hBV : Below w1.heap.size w1 ((w1.alloc (.cells #[.slice (some ⟨gi, oi, none⟩) 8 ci, .string xi, .int .u64 64, .slice (some ⟨go, oo, none⟩) 8 co, .string xo, .int .u64 64] 74)).alloc (.cells M 9)) := by go_grown
  have hsV : w1.heap.size + 1 ≤ ((w1.alloc (.cells #[.slice (some ⟨gi, oi, none⟩) 8 ci, .string xi, .int .u64 64, .slice (some ⟨go, oo, none⟩) 8 co, .string xo, .int .u64 64] 74)).alloc (.cells M 9)).heap.size := by simp
  generalize World.alloc (World.alloc w1 _) _ = V at h7 hO0 hBV hsV ⊢
  have H7 := Lib.hid h7; have HO := Lib.hid hO0; have HBV := Lib.hid hBV; have HK1 := Lib.hid hK1; have HB1 := Lib.hid hb1
  clear h7 hO0 hBV hK1 hb1 hF hK hmk hM
  go_wp2_with fail
  go_loopw [8, 9, 16] (RowRel V (w1.heap.size + 1) (bl k) (bl wd) n) (fun _ _ i _ => n - (intOf i).toNat)
  case atStart => exact ⟨0, _, _, by omega, rfl, rfl, rfl, HO.out, Below.refl _ _⟩
  case round =>
    clear HO
    obtain ⟨j, g, cap, hj, rfl, rfl, rfl, hO, hB⟩ := hrel
    have hsz := hB.size
    by_cases hlt : j < n
    · have l1 : (j : Int) < (n : Int) := by omega
      have h7 : wr.heap[w1.heap.size]? = some (.cells #[.slice (some ⟨gi, oi, none⟩) 8 ci, .string xi, .int .u64 64, .slice (some ⟨go, oo, none⟩) 8 co, .string xo, .int .u64 64] 74) := by rw [hB.block _ (by omega)]; exact H7.out
      have c0 : wr.cell? ⟨w1.heap.size, 0, none⟩ = some (.slice (some ⟨gi, oi, none⟩) 8 ci) := by rw [cell_of_row _ _ _ _ _ _ h7]; rfl
      have c1 : wr.cell? ⟨w1.heap.size, 1, none⟩ = some (.string xi) := by rw [cell_of_row _ _ _ _ _ _ h7]; rfl
      have c2 : wr.cell? ⟨w1.heap.size, 2, none⟩ = some (.int .u64 64) := by rw [cell_of_row _ _ _ _ _ _ h7]; rfl
      have c3 : wr.cell? ⟨w1.heap.size, 3, none⟩ = some (.slice (some ⟨go, oo, none⟩) 8 co) := by rw [cell_of_row _ _ _ _ _ _ h7]; rfl
      have c4 : wr.cell? ⟨w1.heap.size, 4, none⟩ = some (.string xo) := by rw [cell_of_row _ _ _ _ _ _ h7]; rfl
      have c5 : wr.cell? ⟨w1.heap.size, 5, none⟩ = some (.int .u64 64) := by rw [cell_of_row _ _ _ _ _ _ h7]; rfl
      have hB1r : Below w1.heap.size w1 wr := HBV.out.trans (hB.mono (by omega))
      obtain ⟨y, hy⟩ : ∃ y, UInt8.ofNat (j + 1) = y := ⟨_, rfl⟩
      have hyv : ((j : Int) + 1) = (y.toNat : Int) := by
        have h := byte_of (j + 1)
        rw [hy] at h
        rw [← h, IntKind.wrap_u8]
        omega
      have hone := one_text y ((j : Int) + 1) hyv
      have w8 : IntKind.u8.wrap ((j : Int) + 1) = (j : Int) + 1 := by rw [IntKind.wrap_u8]; omega
      have w64 : IntKind.i64.wrap ((j : Int) + 1) = (j : Int) + 1 := IntWalk.i64_in _ (by omega)
      have hfl : flat [strL (lastT (bl k) (bl wd) j), wd, strL [y]] = lastT (bl k) (bl wd) j ++ bl wd ++ [UInt8.ofNat (j + 1)] := by
        rw [hy]; simp [flat, bl_strL]
      have hnx : strL (tagL (bl k) (flat [strL (lastT (bl k) (bl wd) j), wd, strL [y]])) = strL (lastT (bl k) (bl wd) (j + 1)) := by rw [hfl]; rfl
      have hfll : (flat [strL (lastT (bl k) (bl wd) j), wd, strL [y]]).length ≤ 90000 := by
        rw [hfl, List.length_append, List.length_append, bl_length]
        have := lastT_length (bl k) (bl wd) j
        simp; omega
      obtain ⟨la, hla⟩ : ∃ la, strL (lastT (bl k) (bl wd) j) = la := ⟨_, rfl⟩
      rw [hla] at hnx hfll ⊢
      have htg := fun tv W a b c => tag_any (.agg #[.slice (some ⟨gi, oi, none⟩) 8 ci, .string xi, .int .u64 64, .slice (some ⟨go, oo, none⟩) 8 co, .string xo, .int .u64 64]) tv (bl k) [la, wd, strL [y]] hfll (by simp) W a b c
      obtain ⟨S, hS⟩ : ∃ S, strL (lastT (bl k) (bl wd) (j + 1)) = S := ⟨_, rfl⟩
      rw [hnx, hS] at htg
      have hrow : rowT (bl k) (bl wd) (j + 1) = rowT (bl k) (bl wd) j ++ [S] := by rw [← hS]; rfl
      have hrl := rowT_length (bl k) (bl wd) j
      have HTG := Lib.hid htg; have HS := Lib.hid hS; have HROW := Lib.hid hrow; have HRL := Lib.hid hrl; have HO := Lib.hid hO; have HLA := Lib.hid hla; have HVR := Lib.hid (HV.out.on hB1r); have HKR := Lib.hid (HK1.out.on hB1r)
      clear htg hS hrow hrl hO hla hfl hnx hfll h7 hy hyv
      obtain ⟨R, hR⟩ : ∃ R, rowT (bl k) (bl wd) j = R := ⟨_, rfl⟩
      rw [hR] at HROW HRL HO
      have HR := Lib.hid hR
      clear hR
      go_wp2_with fail
      have hb2 : Below wr.heap.size wr ((wr.alloc (.cells #[.int .u8 ((j : Int) + 1)] 5)).alloc (.cells #[.string la, .string wd, .string (strL [y])] 9)) := by go_grown
      have hst : StrsAt ((wr.alloc (.cells #[.int .u8 ((j : Int) + 1)] 5)).alloc (.cells #[.string la, .string wd, .string (strL [y])] 9)) (.slice (some ⟨wr.heap.size + 1, 0, none⟩) 3 3) [la, wd, strL [y]] := by
        have := StrsAt.three (wr.alloc (.cells #[.int .u8 ((j : Int) + 1)] 5)) la wd (strL [y]) 9
        simpa using this
      have hcall := HTG.out _ ((wr.alloc (.cells #[.int .u8 ((j : Int) + 1)] 5)).alloc (.cells #[.string la, .string wd, .string (strL [y])] 9)) (HVR.out.on hb2) hst (HKR.out.on hb2)
      refine hcall.mono ?_
      rintro e w4 ⟨rfl, hb4⟩
      clear hcall hst HTG
      have hb24 : Below wr.heap.size wr w4 := hb2.trans (hb4.mono hb2.size)
      have HO4 := Lib.hid (HO.out.on hb24)
      have hB4 : Below (w1.heap.size + 1) V w4 := hB.trans (hb24.mono (by omega))
      have hs4 := hB4.size
      clear hb2 hb4 hb24 HO hB c0 c1 c2 c3 c4 c5
      have hRL := HRL.out
      go_wp2_with (at_builtin; refine append_s rfl _ _ rfl (w1.heap.size + 1) _ R S w4.heap.size rfl (by rw [← hRL]; exact OwnS.alloc (by rw [hRL]; exact HO4.out) _) rfl (by simp) (by omega) (by first | omega | (simp; omega)) ?_)
      intro g' cap' w5 hO5 hg5
      have hB5 := HO4.out.below hB4 (by omega) hg5
      rw [← HROW.out] at hO5
      have HO5 := Lib.hid hO5
      clear hO5 hg5 hB4
      go_wp2_with fail
      exact ⟨⟨j + 1, g', cap', by omega, by simp, by rw [HS.out], by first | rfl | rw [hRL], by first | exact HO5.out | (rw [hRL] at HO5; exact HO5.out), hB5⟩, by simp [intOf]; omega⟩
    · obtain rfl : j = n := by omega
      have l1 : ¬ (j : Int) < (j : Int) := by omega
      have hstr := hO.strs (rowT_length _ _ _).symm
      have hcap := hO.cap (rowT_length _ _ _).symm
      have hend : Below w.heap.size w wr := HB1.out.trans ((HBV.out.trans (hB.mono (by omega))).mono HB1.out.size)
      have HSTR := Lib.hid hstr; have HEND := Lib.hid hend
      clear hstr hend hO hB HV HK1 HBV HB1 H7
      go_wp2_with fail
      go_ret
      exact ⟨_, _, rfl, HSTR.out, hcap, HEND.out⟩
end Go.Proofs.YtolobdeilfgmnaaDoor