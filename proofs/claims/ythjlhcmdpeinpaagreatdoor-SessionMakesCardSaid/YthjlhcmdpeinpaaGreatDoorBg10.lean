/- The texts Frow, Fexa, Fref, one behind the other. -/
import Derived.Test.YthjlhcmdpeinpaaGreatDoorBg9
import Derived.Test.YthjlhcmdpeinpaaGreatDoorBg6
import Derived.Test.YthjlhcmdpeinpaaGreatDoorBg7
import Derived.Test.YthjlhcmdpeinpaaGreatDoorBg1
import Derived.Test.YthjlhcmdpeinpaaGreatDoorFmask
import Derived.Test.YthjlhcmdpeinpaaGreatDoorBg8
import Derived.Test.YthjlhcmdpeinpaaGreatDoorBg3
/- The contract of derive's row. -/
namespace Go.Proofs.YthjlhcmdpeinpaaGreatDoor
open Go.RowKit
set_option maxRecDepth 100000
/-- Tn, by a secret and a word -/
def lastT (k wd : List UInt8) : Nat → List UInt8
  | 0 => []
  | n + 1 => tagL k (lastT k wd n ++ wd ++ [UInt8.ofNat (n + 1)])
def rowT (k wd : List UInt8) : Nat → List ByteArray
  | 0 => []
  | n + 1 => rowT k wd n ++ [strL (lastT k wd (n + 1))]
theorem rowT_length (k wd : List UInt8) (n : Nat) : (rowT k wd n).length = n := by
  induction n with
  | zero => rfl
  | succ n ih => simp [rowT, ih]
theorem lastT_length (k wd : List UInt8) (n : Nat) : (lastT k wd n).length ≤ 32 := by
  cases n with
  | zero => simp [lastT]
  | succ n => rw [lastT]; exact Nat.le_of_eq (ofL_length _)

def RowRel (V : World) (n1 : Nat) (k wd : List UInt8) (n : Nat) (v8 v9 i : Value) (wr : World) : Prop :=
  ∃ j g cap : Nat, j ≤ n ∧ i = .int .i64 (j : Int) ∧ v9 = .string (strL (lastT k wd j)) ∧ v8 = .slice (some ⟨g, 0, none⟩) j cap ∧ OwnS wr n1 v8 (rowT k wd j) ∧ Below n1 V wr

set_option maxHeartbeats 4000000 in
theorem row_any (k wd : ByteArray) (n : Nat) (hk : k.size ≤ 1000000) (hwd : wd.size ≤ 80000) (hn : n ≤ 255) (w : World) (hF : FirstAt w) (hK : KeysAt w) :
    Calls Tryz.prog 168 #[.string k, .string wd, .int .i64 (n : Int)] w fun e w' => ∃ g cap, e = .returned (.slice (some ⟨g, 0, none⟩) n cap) ∧ StrsAt w' (.slice (some ⟨g, 0, none⟩) n cap) (rowT (bl k) (bl wd) n) ∧ n ≤ cap ∧ Below w.heap.size w w' := by
  have HB := Lib.hid (begin_any k hk w hF hK)
  obtain ⟨M, hM, hmk⟩ := make_strs n (by omega)
  have n0 : (0 : Int) ≤ (n : Int) := by omega
  go_enter Tryz.func168, Tryz.ntmps168
  go_wp2_with fail
  refine HB.out.mono ?_
  rintro e w1 ⟨v, rfl, hv, hb1⟩
  clear HB
  have HV := Lib.hid hv
  have hK1 := hK.on hb1
  obtain ⟨gi, oi, ci, xi, go, oo, co, xo, rfl, -⟩ := hv
  go_upto_region 4 with fail
  have h7 : ((w1.alloc (.cells #[.slice (some ⟨gi, oi, none⟩) 8 ci, .string xi, .int .u64 64, .slice (some ⟨go, oo, none⟩) 8 co, .string xo, .int .u64 64] 131)).alloc (.cells M 9)).heap[w1.heap.size]? = some (.cells #[.slice (some ⟨gi, oi, none⟩) 8 ci, .string xi, .int .u64 64, .slice (some ⟨go, oo, none⟩) 8 co, .string xo, .int .u64 64] 131) := heap_alloc2_old _ _ _
  have hO0 : OwnS ((w1.alloc (.cells #[.slice (some ⟨gi, oi, none⟩) 8 ci, .string xi, .int .u64 64, .slice (some ⟨go, oo, none⟩) 8 co, .string xo, .int .u64 64] 131)).alloc (.cells M 9)) (w1.heap.size + 1) (.slice (some ⟨w1.heap.size + 1, 0, none⟩) 0 n) [] := by
    have := OwnS.made (w1.alloc (.cells #[.slice (some ⟨gi, oi, none⟩) 8 ci, .string xi, .int .u64 64, .slice (some ⟨go, oo, none⟩) 8 co, .string xo, .int .u64 64] 131)) M (w1.heap.size + 1) n hM (by simp) (by omega)
    simpa using this
  have hBV : Below w1.heap.size w1 ((w1.alloc (.cells #[.slice (some ⟨gi, oi, none⟩) 8 ci, .string xi, .int .u64 64, .slice (some ⟨go, oo, none⟩) 8 co, .string xo, .int .u64 64] 131)).alloc (.cells M 9)) := by go_grown
  have hsV : w1.heap.size + 1 ≤ ((w1.alloc (.cells #[.slice (some ⟨gi, oi, none⟩) 8 ci, .string xi, .int .u64 64, .slice (some ⟨go, oo, none⟩) 8 co, .string xo, .int .u64 64] 131)).alloc (.cells M 9)).heap.size := by simp
  generalize World.alloc (World.alloc w1 _) _ = V at h7 hO0 hBV hsV ⊢
  have H7 := Lib.hid h7; have HO := Lib.hid hO0; have HBV := Lib.hid hBV; have HK1 := Lib.hid hK1; have HB1 := Lib.hid hb1
  clear h7 hO0 hBV hK1 hb1 hF hK hmk hM
  go_wp2_with fail
  go_loopw [8, 9, 16] (RowRel V (w1.heap.size + 1) (bl k) (bl wd) n) (fun _ _ i _ => n - (intOf i).toNat)
  case atStart => exact ⟨0, _, _, by omega, rfl, rfl, rfl, HO.out, Below.refl _ _⟩
  case round =>
    clear HO
    obtain ⟨j, g, cap, hj, rfl, rfl, rfl, hO, hB⟩ := hrel
    have hsz := hB.size
    by_cases hlt : j < n
    · have l1 : (j : Int) < (n : Int) := by omega
      have h7 : wr.heap[w1.heap.size]? = some (.cells #[.slice (some ⟨gi, oi, none⟩) 8 ci, .string xi, .int .u64 64, .slice (some ⟨go, oo, none⟩) 8 co, .string xo, .int .u64 64] 131) := by rw [hB.block _ (by omega)]; exact H7.out
      have c0 : wr.cell? ⟨w1.heap.size, 0, none⟩ = some (.slice (some ⟨gi, oi, none⟩) 8 ci) := by rw [cell_of_row _ _ _ _ _ _ h7]; rfl
      have c1 : wr.cell? ⟨w1.heap.size, 1, none⟩ = some (.string xi) := by rw [cell_of_row _ _ _ _ _ _ h7]; rfl
      have c2 : wr.cell? ⟨w1.heap.size, 2, none⟩ = some (.int .u64 64) := by rw [cell_of_row _ _ _ _ _ _ h7]; rfl
      have c3 : wr.cell? ⟨w1.heap.size, 3, none⟩ = some (.slice (some ⟨go, oo, none⟩) 8 co) := by rw [cell_of_row _ _ _ _ _ _ h7]; rfl
      have c4 : wr.cell? ⟨w1.heap.size, 4, none⟩ = some (.string xo) := by rw [cell_of_row _ _ _ _ _ _ h7]; rfl
      have c5 : wr.cell? ⟨w1.heap.size, 5, none⟩ = some (.int .u64 64) := by rw [cell_of_row _ _ _ _ _ _ h7]; rfl
      have hB1r : Below w1.heap.size w1 wr := HBV.out.trans (hB.mono (by omega))
      obtain ⟨y, hy⟩ : ∃ y, UInt8.ofNat (j + 1) = y := ⟨_, rfl⟩
      have hyv : ((j : Int) + 1) = (y.toNat : Int) := by
        have h := byte_of (j + 1)
        rw [hy] at h
        rw [← h, IntKind.wrap_u8]
        omega
      have hone := one_text y ((j : Int) + 1) hyv
      have w8 : IntKind.u8.wrap ((j : Int) + 1) = (j : Int) + 1 := by rw [IntKind.wrap_u8]; omega
      have w64 : IntKind.i64.wrap ((j : Int) + 1) = (j : Int) + 1 := IntWalk.i64_in _ (by omega)
      have hfl : flat [strL (lastT (bl k) (bl wd) j), wd, strL [y]] = lastT (bl k) (bl wd) j ++ bl wd ++ [UInt8.ofNat (j + 1)] := by
        rw [hy]; simp [flat, bl_strL]
      have hnx : strL (tagL (bl k) (flat [strL (lastT (bl k) (bl wd) j), wd, strL [y]])) = strL (lastT (bl k) (bl wd) (j + 1)) := by rw [hfl]; rfl
      have hfll : (flat [strL (lastT (bl k) (bl wd) j), wd, strL [y]]).length ≤ 90000 := by
        rw [hfl, List.length_append, List.length_append, bl_length]
        have := lastT_length (bl k) (bl wd) j
        simp; omega
      obtain ⟨la, hla⟩ : ∃ la, strL (lastT (bl k) (bl wd) j) = la := ⟨_, rfl⟩
      rw [hla] at hnx hfll ⊢
      have htg := fun tv W a b c => tag_any (.agg #[.slice (some ⟨gi, oi, none⟩) 8 ci, .string xi, .int .u64 64, .slice (some ⟨go, oo, none⟩) 8 co, .string xo, .int .u64 64]) tv (bl k) [la, wd, strL [y]] hfll (by simp) W a b c
      obtain ⟨S, hS⟩ : ∃ S, strL (lastT (bl k) (bl wd) (j + 1)) = S := ⟨_, rfl⟩
      rw [hnx, hS] at htg
      have hrow : rowT (bl k) (bl wd) (j + 1) = rowT (bl k) (bl wd) j ++ [S] := by rw [← hS]; rfl
      have hrl := rowT_length (bl k) (bl wd) j
      have HTG := Lib.hid htg; have HS := Lib.hid hS; have HROW := Lib.hid hrow; have HRL := Lib.hid hrl; have HO := Lib.hid hO; have HLA := Lib.hid hla; have HVR := Lib.hid (HV.out.on hB1r); have HKR := Lib.hid (HK1.out.on hB1r)
      clear htg hS hrow hrl hO hla hfl hnx hfll h7 hy hyv
      obtain ⟨R, hR⟩ : ∃ R, rowT (bl k) (bl wd) j = R := ⟨_, rfl⟩
      rw [hR] at HROW HRL HO
      have HR := Lib.hid hR
      clear hR
      go_wp2_with fail
      have hb2 : Below wr.heap.size wr ((wr.alloc (.cells #[.int .u8 ((j : Int) + 1)] 5)).alloc (.cells #[.string la, .string wd, .string (strL [y])] 9)) := by go_grown
      have hst : StrsAt ((wr.alloc (.cells #[.int .u8 ((j : Int) + 1)] 5)).alloc (.cells #[.string la, .string wd, .string (strL [y])] 9)) (.slice (some ⟨wr.heap.size + 1, 0, none⟩) 3 3) [la, wd, strL [y]] := by
        have := StrsAt.three (wr.alloc (.cells #[.int .u8 ((j : Int) + 1)] 5)) la wd (strL [y]) 9
        simpa using this
      have hcall := HTG.out _ ((wr.alloc (.cells #[.int .u8 ((j : Int) + 1)] 5)).alloc (.cells #[.string la, .string wd, .string (strL [y])] 9)) (HVR.out.on hb2) hst (HKR.out.on hb2)
      refine hcall.mono ?_
      rintro e w4 ⟨rfl, hb4⟩
      clear hcall hst HTG
      have hb24 : Below wr.heap.size wr w4 := hb2.trans (hb4.mono hb2.size)
      have HO4 := Lib.hid (HO.out.on hb24)
      have hB4 : Below (w1.heap.size + 1) V w4 := hB.trans (hb24.mono (by omega))
      have hs4 := hB4.size
      clear hb2 hb4 hb24 HO hB c0 c1 c2 c3 c4 c5
      have hRL := HRL.out
      go_wp2_with (at_builtin; refine append_s rfl _ _ rfl (w1.heap.size + 1) _ R S w4.heap.size rfl (by rw [← hRL]; exact OwnS.alloc (by rw [hRL]; exact HO4.out) _) rfl (by simp) (by omega) (by first | omega | (simp; omega)) ?_)
      intro g' cap' w5 hO5 hg5
      have hB5 := HO4.out.below hB4 (by omega) hg5
      rw [← HROW.out] at hO5
      have HO5 := Lib.hid hO5
      clear hO5 hg5 hB4
      go_wp2_with fail
      exact ⟨⟨j + 1, g', cap', by omega, by simp, by rw [HS.out], by first | rfl | rw [hRL], by first | exact HO5.out | (rw [hRL] at HO5; exact HO5.out), hB5⟩, by simp [intOf]; omega⟩
    · obtain rfl : j = n := by omega
      have l1 : ¬ (j : Int) < (j : Int) := by omega
      have hstr := hO.strs (rowT_length _ _ _).symm
      have hcap := hO.cap (rowT_length _ _ _).symm
      have hend : Below w.heap.size w wr := HB1.out.trans ((HBV.out.trans (hB.mono (by omega))).mono HB1.out.size)
      have HSTR := Lib.hid hstr; have HEND := Lib.hid hend
      clear hstr hend hO hB HV HK1 HBV HB1 H7
      go_wp2_with fail
      go_ret
      exact ⟨_, _, rfl, HSTR.out, hcap, HEND.out⟩
end Go.Proofs.YthjlhcmdpeinpaaGreatDoor

/- What is expanded, as plain lists; the contracts of derive's Split. -/
namespace Go.Proofs.YthjlhcmdpeinpaaGreatDoor
open Go.RowKit
set_option maxRecDepth 100000
theorem flat_row (k wd : List UInt8) (n : Nat) : (flat (rowT k wd n)).length = 32 * n := by
  induction n with
  | zero => rfl
  | succ n ih =>
    unfold flat at *
    rw [rowT, List.flatMap_append, List.length_append, ih, List.flatMap_singleton, bl_strL, lastT]
    rw [show (tagL k (lastT k wd n ++ wd ++ [UInt8.ofNat (n + 1)])).length = 32 from ofL_length _]
    omega
/-- a secret expanded to m bytes -/
def expL (k wd : List UInt8) (m : Nat) : List UInt8 := (flat (rowT k wd ((m + 31) / 32))).take m
set_option maxHeartbeats 1000000 in
theorem split_good (k wd : ByteArray) (n : Nat) (hk : k.size ≤ 1000000) (hwd : wd.size ≤ 80000) (hn : n ≤ 255) (w : World) (hF : FirstAt w) (hK : KeysAt w) :
    Calls Tryz.prog 133 #[.string k, .string wd, .int .i64 (n : Int)] w fun e w' => ∃ g cap, e = .returned (.tuple #[.slice (some ⟨g, 0, none⟩) n cap, .int .i64 0]) ∧ StrsAt w' (.slice (some ⟨g, 0, none⟩) n cap) (rowT (bl k) (bl wd) n) ∧ n ≤ cap ∧ Below w.heap.size w w' := by
  have HR := Lib.hid (row_any k wd n hk hwd hn w hF hK)
  have b0 : decide ((n : Int) < 0) = false := by simp
  have b1 : decide (255 < (n : Int)) = false := by simp; omega
  go_enter Tryz.func133, Tryz.ntmps133
  go_wp2_with fail
  refine HR.out.mono ?_
  rintro e w1 ⟨g, cap, rfl, hs, hc, hb⟩
  have HS := Lib.hid hs
  clear HR hs
  go_wp2_with fail
  go_ret2
  exact ⟨g, cap, rfl, HS.out, hc, hb⟩
end Go.Proofs.YthjlhcmdpeinpaaGreatDoor

/- The contracts of the reference 04's key and Tag. -/
namespace Go.Proofs.YthjlhcmdpeinpaaGreatDoor
open Go.RowKit Go.Sort
set_option maxRecDepth 100000
theorem mask_step (l : List UInt8) (c : UInt8) (k : Nat) (h : k < l.length) : (l.take (k + 1)).map (fun x => x ^^^ c) = (l.take k).map (fun x => x ^^^ c) ++ [l.getD k 0 ^^^ c] := by
  have hg : l.getD k 0 = l[k] := by simp [List.getD, h]
  rw [List.take_succ_eq_append_getElem h, List.map_append, hg]
  rfl
theorem padK_get (l : List UInt8) (k : Nat) : (padK l).getD k 0 = l.getD k 0 := by
  unfold padK
  rw [List.getD_eq_getElem?_getD, List.getD_eq_getElem?_getD]
  by_cases h : k < l.length
  · rw [List.getElem?_append_left h]
  · rw [List.getElem?_append_right (by omega), List.getElem?_eq_none (l := l) (by omega), List.getElem?_replicate]
    split <;> rfl

def KeyRel (w : World) (y : ByteArray) (c : UInt8) (v i : Value) (wr : World) : Prop :=
  ∃ k g cap : Nat, k ≤ 64 ∧ i = .int .i64 (k : Int) ∧ v = .slice (some ⟨g, 0, none⟩) k cap ∧ Own wr w.heap.size v (((padK (bl y)).take k).map fun x => x ^^^ c) ∧ Below w.heap.size w wr

set_option maxHeartbeats 4000000 in
theorem key_any (kv : Value) (x : ByteArray) (hx : x.size ≤ 1000000) (c : UInt8) (w : World) (hk : KAt w kv) :
    Calls Tryz.prog 135 #[kv, .string x, .int .u8 (c.toNat : Int)] w fun e w' => e = .returned (.string (strL (maskL (bl x) c))) ∧ Below w.heap.size w w' := by
  have hKA := id hk
  obtain ⟨k0, k1, rfl, hK0, hK1⟩ := hk
  obtain ⟨g0, o0, c0, rfl, hg0, -⟩ := hK0
  obtain ⟨g1, o1, c1, rfl, hg1, -⟩ := hK1
  simp only [S8.l_length, keysL_length] at hKA ⊢
  have hb0 : Below w.heap.size w (w.alloc (.cells #[.slice (some ⟨g0, o0, none⟩) 64 c0, .slice (some ⟨g1, o1, none⟩) 8 c1] 39)) := by go_grown
  have hc0 : (w.alloc (.cells #[.slice (some ⟨g0, o0, none⟩) 64 c0, .slice (some ⟨g1, o1, none⟩) 8 c1] 39)).heap[w.heap.size]? = some (.cells #[.slice (some ⟨g0, o0, none⟩) 64 c0, .slice (some ⟨g1, o1, none⟩) 8 c1] 39) := heap_alloc_new _ _
  have hKA0 := hKA.on hb0
  have hrof := fun W h => refof_any (.agg #[.slice (some ⟨g0, o0, none⟩) 64 c0, .slice (some ⟨g1, o1, none⟩) 8 c1]) x hx W h
  have HKA := Lib.hid hKA0; have HROF := Lib.hid hrof
  clear hKA hKA0 hrof
  go_enter Tryz.func135, Tryz.ntmps135
  go_upto_region 1 with fail
  generalize World.alloc w _ = W at hb0 hc0 HKA ⊢
  have e0 : W.cell? ⟨w.heap.size, 0, none⟩ = some (.slice (some ⟨g0, o0, none⟩) 64 c0) := by rw [cell_of_row _ _ _ _ _ _ hc0]; rfl
  have e1 : W.cell? ⟨w.heap.size, 1, none⟩ = some (.slice (some ⟨g1, o1, none⟩) 8 c1) := by rw [cell_of_row _ _ _ _ _ _ hc0]; rfl
  clear hc0
  by_cases hlt : x.size ≤ 64
  · have l1 : ¬ (64 : Int) < (x.size : Int) := by omega
    have hg : decide ((64 : Int) < (x.size : Int)) = false := by simp; omega
    go_upto_region 3 with fail
    obtain ⟨y, hxy⟩ : ∃ y, y = x := ⟨_, rfl⟩
    have hyl : bl y = keyL (bl x) := by unfold keyL; rw [if_pos (by rw [bl_length]; exact hlt), hxy]
    have hys : y.size ≤ 64 := by rw [hxy]; exact hlt
    obtain ⟨V, rfl⟩ : ∃ V : World, V = W := ⟨_, rfl⟩
    have hbl := hb0
    have hsx : Value.string x = .string y := by rw [hxy]
    rw [hsx]
    clear hxy hsx hlt l1 hg e0 e1 HKA HROF hb0
    have hpl : (padK (bl y)).length = 64 := padK_length _ (by rw [bl_length]; exact hys)
    have hmk : maskL (bl x) c = (padK (bl y)).map fun z => z ^^^ c := by unfold maskL; rw [← hyl]
    have HMK := Lib.hid hmk
    have hget := padK_get (bl y)
    have hstp := mask_step (padK (bl y)) c
    have HG := Lib.hid hget; have HSTP := Lib.hid hstp
    clear hyl hmk hget hstp
    have hO0 := Own.empty V w.heap.size hbl.size
    have hb1 : Below w.heap.size w (V.alloc (.cells #[] 5)) := hbl.alloc hbl.size _
    have HO := Lib.hid hO0
    clear hO0 hbl
    go_wp2_with fail
    go_loopw [7, 8] (KeyRel w y c) (fun _ i _ => 64 - (intOf i).toNat)
    case atStart => exact ⟨0, _, _, by omega, rfl, rfl, HO.out, hb1⟩
    case round =>
      clear HO hb1
      obtain ⟨k, g, cap, hk, rfl, rfl, hO, hB⟩ := hrel
      have hsz := hB.size
      by_cases hkl : k < 64
      · have l1 : (k : Int) < 64 := by omega
        have hlen : (((padK (bl y)).take k).map fun z => z ^^^ c).length = k := by rw [List.length_map, List.length_take, hpl]; omega
        have hst := HSTP.out k (by omega)
        rw [HG.out k] at hst
        obtain ⟨l, hl⟩ : ∃ l, ((padK (bl y)).take k).map (fun z => z ^^^ c) = l := ⟨_, rfl⟩
        rw [hl] at hO hst hlen
        obtain ⟨b, hb⟩ : ∃ b, (bl y).getD k 0 = b := ⟨_, rfl⟩
        rw [hb] at hst
        have hx8 := bits_xor8 b c
        obtain ⟨z, hz⟩ : ∃ z, b ^^^ c = z := ⟨_, rfl⟩
        rw [hz] at hst hx8
        have HO := Lib.hid hO; have HST := Lib.hid hst; have HLEN := Lib.hid hlen
        clear hO hst hl hz
        have fin : ∀ (g' cap' : Nat) (w' : World), Own w' w.heap.size (.slice (some ⟨g', 0, none⟩) (k + 1) cap') (l ++ [z]) → (wr.alloc (.cells #[.int .u8 (z.toNat : Int)] 5)).grownBy w' (Value.slice (some ⟨g, 0, none⟩) k cap).ownBlock → KeyRel w y c (.slice (some ⟨g', 0, none⟩) (k + 1) cap') (.int .i64 ((k : Int) + 1)) w' := by
          intro g' cap' w' h1 h2
          have hbel := (show Own wr w.heap.size (.slice (some ⟨g, 0, none⟩) k cap) l from HO.out).below hB hsz h2
          exact ⟨k + 1, g', cap', by omega, by simp, rfl, by rw [HST.out]; exact h1, hbel⟩
        have FIN := Lib.hid fin
        clear fin
        by_cases hky : k < y.size
        · have l2 : (k : Int) < (y.size : Int) := by omega
          have hix := str_index y (k : Int) k rfl hky
          rw [← bl_get y k hky, hb] at hix
          clear hb
          go_wp2_with (at_builtin; refine append_bytes rfl _ _ rfl w.heap.size _ l [z] wr.heap.size rfl (by exact Own.alloc HO.out _) 1 rfl rfl (by omega) (lit_bytes wr [z] _ _ rfl) (by omega) (by first | omega | (simp; omega)) ?_)
          intro g' cap' w' hO3 hg'
          have hf := FIN.out g' cap' w' hO3 hg'
          have HF := Lib.hid hf
          clear hf hO3 hg'
          go_wp2_with fail
          exact ⟨HF.out, by simp [intOf]; omega⟩
        · have l2 : ¬ (k : Int) < (y.size : Int) := by omega
          have hb0 : b = 0 := by rw [← hb, List.getD_eq_getElem?_getD, List.getElem?_eq_none (by rw [bl_length]; omega)]; rfl
          subst hb0
          have h00 : ((((0 : UInt8)).toNat : Nat) : Int) = 0 := rfl
          rw [h00] at hx8
          clear hb h00
          go_wp2_with (at_builtin; refine append_bytes rfl _ _ rfl w.heap.size _ l [z] wr.heap.size rfl (by exact Own.alloc HO.out _) 1 rfl rfl (by omega) (lit_bytes wr [z] _ _ rfl) (by omega) (by first | omega | (simp; omega)) ?_)
          intro g' cap' w' hO3 hg'
          have hf := FIN.out g' cap' w' hO3 hg'
          have HF := Lib.hid hf
          clear hf hO3 hg'
          go_wp2_with fail
          exact ⟨HF.out, by simp [intOf]; omega⟩
      · obtain rfl : k = 64 := by omega
        have l1 : ¬ (64 : Int) < 64 := by omega
        rw [List.take_of_length_le (by omega)] at hO
        have htx := hO.text (by rw [List.length_map]; exact hpl.symm)
        have HTX := Lib.hid (show strL (maskL (bl x) c) = (⟨((padK (bl y)).map fun z => z ^^^ c).toArray⟩ : ByteArray) by rw [HMK.out]; rfl)
        generalize (⟨((padK (bl y)).map fun z => z ^^^ c).toArray⟩ : ByteArray) = S at htx HTX
        clear hO HMK HG HSTP
        go_wp2_with fail
        go_ret
        exact ⟨by rw [HTX.out]; rfl, hB⟩
  · have l1 : (64 : Int) < (x.size : Int) := by omega
    have hg : decide ((64 : Int) < (x.size : Int)) = true := by simpa using l1
    have hof := HROF.out W HKA.out
    obtain ⟨y, hy⟩ : ∃ y, strL (sumL (mixAll firstS (bl x)) (restOf (bl x)) x.size) = y := ⟨_, rfl⟩
    have hyl : bl y = keyL (bl x) := by unfold keyL; rw [if_neg (by rw [bl_length]; omega), ← hy, bl_strL, ← bl_length]; rfl
    have hys : y.size ≤ 64 := by rw [← bl_length, hyl]; exact keyL_length _
    rw [hy] at hof
    have HOF := Lib.hid hof
    clear hof hy hlt HROF
    go_upto_region 3 with (go_at_call 134; refine HOF.out.mono ?_; rintro e V ⟨rfl, hb1⟩)
    have hbl : Below w.heap.size w V := hb0.trans (hb1.mono hb0.size)
    clear HOF hb0 hb1 e0 e1 HKA l1 hg
    have hpl : (padK (bl y)).length = 64 := padK_length _ (by rw [bl_length]; exact hys)
    have hmk : maskL (bl x) c = (padK (bl y)).map fun z => z ^^^ c := by unfold maskL; rw [← hyl]
    have HMK := Lib.hid hmk
    have hget := padK_get (bl y)
    have hstp := mask_step (padK (bl y)) c
    have HG := Lib.hid hget; have HSTP := Lib.hid hstp
    clear hyl hmk hget hstp
    have hO0 := Own.empty V w.heap.size hbl.size
    have hb1 : Below w.heap.size w (V.alloc (.cells #[] 5)) := hbl.alloc hbl.size _
    have HO := Lib.hid hO0
    clear hO0 hbl
    go_wp2_with fail
    go_loopw [7, 8] (KeyRel w y c) (fun _ i _ => 64 - (intOf i).toNat)
    case atStart => exact ⟨0, _, _, by omega, rfl, rfl, HO.out, hb1⟩
    case round =>
      clear HO hb1
      obtain ⟨k, g, cap, hk, rfl, rfl, hO, hB⟩ := hrel
      have hsz := hB.size
      by_cases hkl : k < 64
      · have l1 : (k : Int) < 64 := by omega
        have hlen : (((padK (bl y)).take k).map fun z => z ^^^ c).length = k := by rw [List.length_map, List.length_take, hpl]; omega
        have hst := HSTP.out k (by omega)
        rw [HG.out k] at hst
        obtain ⟨l, hl⟩ : ∃ l, ((padK (bl y)).take k).map (fun z => z ^^^ c) = l := ⟨_, rfl⟩
        rw [hl] at hO hst hlen
        obtain ⟨b, hb⟩ : ∃ b, (bl y).getD k 0 = b := ⟨_, rfl⟩
        rw [hb] at hst
        have hx8 := bits_xor8 b c
        obtain ⟨z, hz⟩ : ∃ z, b ^^^ c = z := ⟨_, rfl⟩
        rw [hz] at hst hx8
        have HO := Lib.hid hO; have HST := Lib.hid hst; have HLEN := Lib.hid hlen
        clear hO hst hl hz
        have fin : ∀ (g' cap' : Nat) (w' : World), Own w' w.heap.size (.slice (some ⟨g', 0, none⟩) (k + 1) cap') (l ++ [z]) → (wr.alloc (.cells #[.int .u8 (z.toNat : Int)] 5)).grownBy w' (Value.slice (some ⟨g, 0, none⟩) k cap).ownBlock → KeyRel w y c (.slice (some ⟨g', 0, none⟩) (k + 1) cap') (.int .i64 ((k : Int) + 1)) w' := by
          intro g' cap' w' h1 h2
          have hbel := (show Own wr w.heap.size (.slice (some ⟨g, 0, none⟩) k cap) l from HO.out).below hB hsz h2
          exact ⟨k + 1, g', cap', by omega, by simp, rfl, by rw [HST.out]; exact h1, hbel⟩
        have FIN := Lib.hid fin
        clear fin
        by_cases hky : k < y.size
        · have l2 : (k : Int) < (y.size : Int) := by omega
          have hix := str_index y (k : Int) k rfl hky
          rw [← bl_get y k hky, hb] at hix
          clear hb
          go_wp2_with (at_builtin; refine append_bytes rfl _ _ rfl w.heap.size _ l [z] wr.heap.size rfl (by exact Own.alloc HO.out _) 1 rfl rfl (by omega) (lit_bytes wr [z] _ _ rfl) (by omega) (by first | omega | (simp; omega)) ?_)
          intro g' cap' w' hO3 hg'
          have hf := FIN.out g' cap' w' hO3 hg'
          have HF := Lib.hid hf
          clear hf hO3 hg'
          go_wp2_with fail
          exact ⟨HF.out, by simp [intOf]; omega⟩
        · have l2 : ¬ (k : Int) < (y.size : Int) := by omega
          have hb0 : b = 0 := by rw [← hb, List.getD_eq_getElem?_getD, List.getElem?_eq_none (by rw [bl_length]; omega)]; rfl
          subst hb0
          have h00 : ((((0 : UInt8)).toNat : Nat) : Int) = 0 := rfl
          rw [h00] at hx8
          clear hb h00
          go_wp2_with (at_builtin; refine append_bytes rfl _ _ rfl w.heap.size _ l [z] wr.heap.size rfl (by exact Own.alloc HO.out _) 1 rfl rfl (by omega) (lit_bytes wr [z] _ _ rfl) (by omega) (by first | omega | (simp; omega)) ?_)
          intro g' cap' w' hO3 hg'
          have hf := FIN.out g' cap' w' hO3 hg'
          have HF := Lib.hid hf
          clear hf hO3 hg'
          go_wp2_with fail
          exact ⟨HF.out, by simp [intOf]; omega⟩
      · obtain rfl : k = 64 := by omega
        have l1 : ¬ (64 : Int) < 64 := by omega
        rw [List.take_of_length_le (by omega)] at hO
        have htx := hO.text (by rw [List.length_map]; exact hpl.symm)
        have HTX := Lib.hid (show strL (maskL (bl x) c) = (⟨((padK (bl y)).map fun z => z ^^^ c).toArray⟩ : ByteArray) by rw [HMK.out]; rfl)
        generalize (⟨((padK (bl y)).map fun z => z ^^^ c).toArray⟩ : ByteArray) = S at htx HTX
        clear hO HMK HG HSTP
        go_wp2_with fail
        go_ret
        exact ⟨by rw [HTX.out]; rfl, hB⟩

set_option maxHeartbeats 4000000 in
theorem reftag_any (kv : Value) (k x : ByteArray) (hk0 : k.size ≤ 1000000) (hx : x.size ≤ 80000) (w : World) (hk : KAt w kv) :
    Calls Tryz.prog 92 #[kv, .string k, .string x] w fun e w' => e = .returned (.string (strL (tagL (bl k) (bl x)))) ∧ Below w.heap.size w w' := by
  have hKA := id hk
  obtain ⟨k0, k1, rfl, hK0, hK1⟩ := hk
  obtain ⟨g0, o0, c0, rfl, hg0, -⟩ := hK0
  obtain ⟨g1, o1, c1, rfl, hg1, -⟩ := hK1
  simp only [S8.l_length, keysL_length] at hKA ⊢
  have hb0 : Below w.heap.size w (w.alloc (.cells #[.slice (some ⟨g0, o0, none⟩) 64 c0, .slice (some ⟨g1, o1, none⟩) 8 c1] 39)) := by go_grown
  have hc0 : (w.alloc (.cells #[.slice (some ⟨g0, o0, none⟩) 64 c0, .slice (some ⟨g1, o1, none⟩) 8 c1] 39)).heap[w.heap.size]? = some (.cells #[.slice (some ⟨g0, o0, none⟩) 64 c0, .slice (some ⟨g1, o1, none⟩) 8 c1] 39) := heap_alloc_new _ _
  have hKA0 := hKA.on hb0
  obtain ⟨W, hW⟩ : ∃ W, w.alloc (.cells #[.slice (some ⟨g0, o0, none⟩) 64 c0, .slice (some ⟨g1, o1, none⟩) 8 c1] 39) = W := ⟨_, rfl⟩
  rw [hW] at hb0 hc0 hKA0
  have h92 : (((92 : UInt8).toNat : Nat) : Int) = 92 := rfl
  have h54 : (((54 : UInt8).toNat : Nat) : Int) = 54 := rfl
  have hk1 := fun (d : Nat) (os : Array Obj) => key_any (.agg #[.slice (some ⟨g0, o0, none⟩) 64 c0, .slice (some ⟨g1, o1, none⟩) 8 c1]) k hk0 92 (grow (redrawn W d) os) (hKA0.on (below_regrown W d os))
  have hk2 := fun (d : Nat) (os : Array Obj) => key_any (.agg #[.slice (some ⟨g0, o0, none⟩) 64 c0, .slice (some ⟨g1, o1, none⟩) 8 c1]) k hk0 54 (grow (redrawn W d) os) (hKA0.on (below_regrown W d os))
  rw [h92] at hk1
  rw [h54] at hk2
  obtain ⟨p, hp⟩ : ∃ p, strL (maskL (bl k) 92) = p := ⟨_, rfl⟩
  obtain ⟨q, hq⟩ : ∃ q, strL (maskL (bl k) 54) = q := ⟨_, rfl⟩
  have hps : p.size = 64 := by rw [← hp, strL_size, maskL_length]
  have hqs : q.size = 64 := by rw [← hq, strL_size, maskL_length]
  rw [hp] at hk1
  rw [hq] at hk2
  obtain ⟨r, hr⟩ : ∃ r, q ++ x = r := ⟨_, rfl⟩
  have hrs : r.size ≤ 100000 := by rw [← hr, ByteArray.size_append]; omega
  have hcat1 : ∀ W : World, (Op.stringOp .add q x).run Tryz.prog W = .ok (.string r) W := fun W => by rw [run_string_add_sum W _ _ (by omega), hr]
  have hns1 : (9223372036854775807 < q.size + x.size) = False := by simp; omega
  have ho1 := fun (d : Nat) (os : Array Obj) => refof_any (.agg #[.slice (some ⟨g0, o0, none⟩) 64 c0, .slice (some ⟨g1, o1, none⟩) 8 c1]) r (by omega) (grow (redrawn W d) os) (hKA0.on (below_regrown W d os))
  obtain ⟨s, hs⟩ : ∃ s, strL (sumL (mixAll firstS (bl r)) (restOf (bl r)) r.size) = s := ⟨_, rfl⟩
  have hss : s.size = 32 := by rw [← hs, strL_size, sumL_length]
  have hsb : bl s = ofL (bl r) := by rw [← hs, bl_strL, ← bl_length]; rfl
  rw [hs] at ho1
  obtain ⟨t, ht⟩ : ∃ t, p ++ s = t := ⟨_, rfl⟩
  have hts : t.size ≤ 1000 := by rw [← ht, ByteArray.size_append]; omega
  have hcat2 : ∀ W : World, (Op.stringOp .add p s).run Tryz.prog W = .ok (.string t) W := fun W => by rw [run_string_add_sum W _ _ (by omega), ht]
  have hns2 : (9223372036854775807 < p.size + s.size) = False := by simp; omega
  have ho2 := fun (d : Nat) (os : Array Obj) => refof_any (.agg #[.slice (some ⟨g0, o0, none⟩) 64 c0, .slice (some ⟨g1, o1, none⟩) 8 c1]) t (by omega) (grow (redrawn W d) os) (hKA0.on (below_regrown W d os))
  obtain ⟨S, hS⟩ : ∃ S, strL (sumL (mixAll firstS (bl t)) (restOf (bl t)) t.size) = S := ⟨_, rfl⟩
  rw [hS] at ho2
  have hfin : strL (tagL (bl k) (bl x)) = S := by
    rw [← hS, ← bl_length]
    have e : bl t = maskL (bl k) 92 ++ ofL (maskL (bl k) 54 ++ bl x) := by
      rw [← ht, bl_append, hsb, ← hr, bl_append, ← hp, ← hq, bl_strL, bl_strL]
    rw [e]; rfl
  have HFIN := Lib.hid hfin; have H1 := Lib.hid hk1; have H2 := Lib.hid hk2; have H3 := Lib.hid ho1; have H4 := Lib.hid ho2; have HB0 := Lib.hid hb0
  have e0 : W.cell? ⟨w.heap.size, 0, none⟩ = some (.slice (some ⟨g0, o0, none⟩) 64 c0) := by rw [cell_of_row _ _ _ _ _ _ hc0]; rfl
  have e1 : W.cell? ⟨w.heap.size, 1, none⟩ = some (.slice (some ⟨g1, o1, none⟩) 8 c1) := by rw [cell_of_row _ _ _ _ _ _ hc0]; rfl
  have q0 := cell_regrown e0; have q1 := cell_regrown e1
  have HW := Lib.hid hW
  clear hfin hk1 hk2 ho1 ho2 hb0 hc0 hKA hKA0 h92 h54 hp hq hr hs hsb ht hS hW e0 e1
  go_enter Tryz.func92, Tryz.ntmps92
  go_upto_region 1 with fail
  rw [HW.out]
  refine wp_region_quiet_below (by kernel_rfl) (by kernel_rfl) ?_
  iterate 14 (quiet_step (first | (go_at_call 135; first | with_reducible exact Calls.regrown_of (H1.out _ _) | with_reducible exact Calls.regrown_of (H2.out _ _)) | (go_at_call 134; first | with_reducible exact Calls.regrown_of (H3.out _ _) | with_reducible exact Calls.regrown_of (H4.out _ _))))
  refine wpQuiet_nil ?_
  intro _ hw'
  obtain ⟨⟨dq, osq⟩, hw''⟩ := hw'
  subst hw''
  have hb := below_regrown W dq osq
  have hbb := HB0.out.trans (hb.mono HB0.out.size)
  clear q0 q1 hb H1 H2 H3 H4
  generalize grow (redrawn W dq) osq = W1 at hbb ⊢
  go_wp2_with fail
  go_ret
  exact ⟨by rw [HFIN.out]; rfl, hbb⟩
end Go.Proofs.YthjlhcmdpeinpaaGreatDoor
