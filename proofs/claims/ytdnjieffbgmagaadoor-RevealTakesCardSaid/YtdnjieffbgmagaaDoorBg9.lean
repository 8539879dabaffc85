/- The texts Fref, Ks, Frow, Hf, Hh, Hi, Kt, Oa, Ob, one behind the other. -/
import Derived.Test.YtdnjieffbgmagaaDoorFmask
import Derived.Test.YtdnjieffbgmagaaDoorBg8
import Derived.Test.YtdnjieffbgmagaaDoorBg3
import Derived.Test.YtdnjieffbgmagaaDoorRows
import Derived.Test.YtdnjieffbgmagaaDoorBg1
import Derived.Test.YtdnjieffbgmagaaDoorFhash
import Derived.Test.YtdnjieffbgmagaaDoorBg6
import Derived.Test.YtdnjieffbgmagaaDoorBg7
import Derived.Test.YtdnjieffbgmagaaDoorQl
import Derived.Orders
import Derived.Shelf.Abstract
import Derived.WalkKit
import Derived.Test.YtdnjieffbgmagaaDoorProg
/- The contracts of the reference 04's key and Tag. -/
namespace Go.Proofs.YtdnjieffbgmagaaDoor
open Go.RowKit Go.Sort
set_option maxRecDepth 100000
theorem mask_step (l : List UInt8) (c : UInt8) (k : Nat) (h : k < l.length) : (l.take (k + 1)).map (fun x => x ^^^ c) = (l.take k).map (fun x => x ^^^ c) ++ [l.getD k 0 ^^^ c] := by
  have hg : l.getD k 0 = l[k] := by simp [List.getD, h]
  rw [List.take_succ_eq_append_getElem h, List.map_append, hg]
  rfl
theorem padK_get (l : List UInt8) (k : Nat) : (padK l).getD k 0 = l.getD k 0 := by
  unfold padK
  rw [List.getD_eq_getElem?_getD, List.getD_eq_getElem?_getD]
  by_cases h : k < l.length
  · rw [List.getElem?_append_left h]
  · rw [List.getElem?_append_right (by omega), List.getElem?_eq_none (l := l) (by omega), List.getElem?_replicate]
    split <;> rfl

def KeyRel (w : World) (y : ByteArray) (c : UInt8) (v i : Value) (wr : World) : Prop :=
  ∃ k g cap : Nat, k ≤ 64 ∧ i = .int .i64 (k : Int) ∧ v = .slice (some ⟨g, 0, none⟩) k cap ∧ Own wr w.heap.size v (((padK (bl y)).take k).map fun x => x ^^^ c) ∧ Below w.heap.size w wr

set_option maxHeartbeats 4000000 in
theorem key_any (kv : Value) (x : ByteArray) (hx : x.size ≤ 1000000) (c : UInt8) (w : World) (hk : KAt w kv) :
    Calls Tryd.prog 68 #[kv, .string x, .int .u8 (c.toNat : Int)] w fun e w' => e = .returned (.string (strL (maskL (bl x) c))) ∧ Below w.heap.size w w' := by
  have hKA := id hk
  obtain ⟨k0, k1, rfl, hK0, hK1⟩ := hk
  obtain ⟨g0, o0, c0, rfl, hg0, -⟩ := hK0
  obtain ⟨g1, o1, c1, rfl, hg1, -⟩ := hK1
  simp only [S8.l_length, keysL_length] at hKA ⊢
  have hb0 : Below w.heap.size w (w.alloc (.cells #[.slice (some ⟨g0, o0, none⟩) 64 c0, .slice (some ⟨g1, o1, none⟩) 8 c1] 49)) := by go_grown
  have hc0 : (w.alloc (.cells #[.slice (some ⟨g0, o0, none⟩) 64 c0, .slice (some ⟨g1, o1, none⟩) 8 c1] 49)).heap[w.heap.size]? = some (.cells #[.slice (some ⟨g0, o0, none⟩) 64 c0, .slice (some ⟨g1, o1, none⟩) 8 c1] 49) := heap_alloc_new _ _
  have hKA0 := hKA.on hb0
  have hrof := fun W h => refof_any (.agg #[.slice (some ⟨g0, o0, none⟩) 64 c0, .slice (some ⟨g1, o1, none⟩) 8 c1]) x hx W h
  have HKA := Lib.hid hKA0; have HROF := Lib.hid hrof
  clear hKA hKA0 hrof
  go_enter Tryd.func68, Tryd.ntmps68
  go_upto_region 1 with fail
  generalize World.alloc w _ = W at hb0 hc0 HKA ⊢
  have e0 : W.cell? ⟨w.heap.size, 0, none⟩ = some (.slice (some ⟨g0, o0, none⟩) 64 c0) := by rw [cell_of_row _ _ _ _ _ _ hc0]; rfl
  have e1 : W.cell? ⟨w.heap.size, 1, none⟩ = some (.slice (some ⟨g1, o1, none⟩) 8 c1) := by rw [cell_of_row _ _ _ _ _ _ hc0]; rfl
  clear hc0
  by_cases hlt : x.size ≤ 64
  · have l1 : ¬ (64 : Int) < (x.size : Int) := by omega
    have hg : decide ((64 : Int) < (x.size : Int)) = false := by simp; omega
    go_upto_region 3 with fail
    obtain ⟨y, hxy⟩ : ∃ y, y = x := ⟨_, rfl⟩
    have hyl : bl y = keyL (bl x) := by unfold keyL; rw [if_pos (by rw [bl_length]; exact hlt), hxy]
    have hys : y.size ≤ 64 := by rw [hxy]; exact hlt
    obtain ⟨V, rfl⟩ : ∃ V : World, V = W := ⟨_, rfl⟩
    have hbl := hb0
    have hsx : Value.string x = .string y := by rw [hxy]
    rw [hsx]
    clear hxy hsx hlt l1 hg e0 e1 HKA HROF hb0
    have hpl : (padK (bl y)).length = 64 := padK_length _ (by rw [bl_length]; exact hys)
    have hmk : maskL (bl x) c = (padK (bl y)).map fun z => z ^^^ c := by unfold maskL; rw [← hyl]
    have HMK := Lib.hid hmk
    have hget := padK_get (bl y)
    have hstp := mask_step (padK (bl y)) c
    have HG := Lib.hid hget; have HSTP := Lib.hid hstp
    clear hyl hmk hget hstp
    have hO0 := Own.empty V w.heap.size hbl.size
    have hb1 : Below w.heap.size w (V.alloc (.cells #[] 5)) := hbl.alloc hbl.size _
    have HO := Lib.hid hO0
    clear hO0 hbl
    go_wp2_with fail
    go_loopw [7, 8] (KeyRel w y c) (fun _ i _ => 64 - (intOf i).toNat)
    case atStart => exact ⟨0, _, _, by omega, rfl, rfl, HO.out, hb1⟩
    case round =>
      clear HO hb1
      obtain ⟨k, g, cap, hk, rfl, rfl, hO, hB⟩ := hrel
      have hsz := hB.size
      by_cases hkl : k < 64
      · have l1 : (k : Int) < 64 := by omega
        have hlen : (((padK (bl y)).take k).map fun z => z ^^^ c).length = k := by rw [List.length_map, List.length_take, hpl]; omega
        have hst := HSTP.out k (by omega)
        rw [HG.out k] at hst
        obtain ⟨l, hl⟩ : ∃ l, ((padK (bl y)).take k).map (fun z => z ^^^ c) = l := ⟨_, rfl⟩
        rw [hl] at hO hst hlen
        obtain ⟨b, hb⟩ : ∃ b, (bl y).getD k 0 = b := ⟨_, rfl⟩
        rw [hb] at hst
        have hx8 := bits_xor8 b c
        obtain ⟨z, hz⟩ : ∃ z, b ^^^ c = z := ⟨_, rfl⟩
        rw [hz] at hst hx8
        have HO := Lib.hid hO; have HST := Lib.hid hst; have HLEN := Lib.hid hlen
        clear hO hst hl hz
        have fin : ∀ (g' cap' : Nat) (w' : World), Own w' w.heap.size (.slice (some ⟨g', 0, none⟩) (k + 1) cap') (l ++ [z]) → (wr.alloc (.cells #[.int .u8 (z.toNat : Int)] 5)).grownBy w' (Value.slice (some ⟨g, 0, none⟩) k cap).ownBlock → KeyRel w y c (.slice (some ⟨g', 0, none⟩) (k + 1) cap') (.int .i64 ((k : Int) + 1)) w' := by
          intro g' cap' w' h1 h2
          have hbel := (show Own wr w.heap.size (.slice (some ⟨g, 0, none⟩) k cap) l from HO.out).below hB hsz h2
          exact ⟨k + 1, g', cap', by omega, by simp, rfl, by rw [HST.out]; exact h1, hbel⟩
        have FIN := Lib.hid fin
        clear fin
        by_cases hky : k < y.size
        · have l2 : (k : Int) < (y.size : Int) := by omega
          have hix := str_index y (k : Int) k rfl hky
          rw [← bl_get y k hky, hb] at hix
          clear hb
          go_wp2_with (at_builtin; refine append_bytes rfl _ _ rfl w.heap.size _ l [z] wr.heap.size rfl (by exact Own.alloc HO.out _) 1 rfl rfl (by omega) (lit_bytes wr [z] _ _ rfl) (by omega) (by first | omega | (simp; omega)) ?_)
          intro g' cap' w' hO3 hg'
          have hf := FIN.out g' cap' w' hO3 hg'
          have HF := Lib.hid hf
          clear hf hO3 hg'
          go_wp2_with fail
          exact ⟨HF.out, by simp [intOf]; omega⟩
        · have l2 : ¬ (k : Int) < (y.size : Int) := by omega
          have hb0 : b = 0 := by rw [← hb, List.getD_eq_getElem?_getD, List.getElem?_eq_none (by rw [bl_length]; omega)]; rfl
          subst hb0
          have h00 : ((((0 : UInt8)).toNat : Nat) : Int) = 0 := rfl
          rw [h00] at hx8
          clear hb h00
          go_wp2_with (at_builtin; refine append_bytes rfl _ _ rfl w.heap.size _ l [z] wr.heap.size rfl (by exact Own.alloc HO.out _) 1 rfl rfl (by omega) (lit_bytes wr [z] _ _ rfl) (by omega) (by first | omega | (simp; omega)) ?_)
          intro g' cap' w' hO3 hg'
          have hf := FIN.out g' cap' w' hO3 hg'
          have HF := Lib.hid hf
          clear hf hO3 hg'
          go_wp2_with fail
          exact ⟨HF.out, by simp [intOf]; omega⟩
      · obtain rfl : k = 64 := by omega
        have l1 : ¬ (64 : Int) < 64 := by omega
        rw [List.take_of_length_le (by omega)] at hO
        have htx := hO.text (by rw [List.length_map]; exact hpl.symm)
        have HTX := Lib.hid (show strL (maskL (bl x) c) = (⟨((padK (bl y)).map fun z => z ^^^ c).toArray⟩ : ByteArray) by rw [HMK.out]; rfl)
        generalize (⟨((padK (bl y)).map fun z => z ^^^ c).toArray⟩ : ByteArray) = S at htx HTX
        clear hO HMK HG HSTP
        go_wp2_with fail
        go_ret
        exact ⟨by rw [HTX.out]; rfl, hB⟩
  · have l1 : (64 : Int) < (x.size : Int) := by omega
    have hg : decide ((64 : Int) < (x.size : Int)) = true := by simpa using l1
    have hof := HROF.out W HKA.out
    obtain ⟨y, hy⟩ : ∃ y, strL (sumL (mixAll firstS (bl x)) (restOf (bl x)) x.size) = y := ⟨_, rfl⟩
    have hyl : bl y = keyL (bl x) := by unfold keyL; rw [if_neg (by rw [bl_length]; omega), ← hy, bl_strL, ← bl_length]; rfl
    have hys : y.size ≤ 64 := by rw [← bl_length, hyl]; exact keyL_length _
    rw [hy] at hof
    have HOF := Lib.hid hof
    clear hof hy hlt HROF
    go_upto_region 3 with (go_at_call 67; refine HOF.out.mono ?_; rintro e V ⟨rfl, hb1⟩)
    have hbl : Below w.heap.size w V := hb0.trans (hb1.mono hb0.size)
    clear HOF hb0 hb1 e0 e1 HKA l1 hg
    have hpl : (padK (bl y)).length = 64 := padK_length _ (by rw [bl_length]; exact hys)
    have hmk : maskL (bl x) c = (padK (bl y)).map fun z => z ^^^ c := by unfold maskL; rw [← hyl]
    have HMK := Lib.hid hmk
    have hget := padK_get (bl y)
    have hstp := mask_step (padK (bl y)) c
    have HG := Lib.hid hget; have HSTP := Lib.hid hstp
    clear hyl hmk hget hstp
    have hO0 := Own.empty V w.heap.size hbl.size
    have hb1 : Below w.heap.size w (V.alloc (.cells #[] 5)) := hbl.alloc hbl.size _
    have HO := Lib.hid hO0
    clear hO0 hbl
    go_wp2_with fail
    go_loopw [7, 8] (KeyRel w y c) (fun _ i _ => 64 - (intOf i).toNat)
    case atStart => exact ⟨0, _, _, by omega, rfl, rfl, HO.out, hb1⟩
    case round =>
      clear HO hb1
      obtain ⟨k, g, cap, hk, rfl, rfl, hO, hB⟩ := hrel
      have hsz := hB.size
      by_cases hkl : k < 64
      · have l1 : (k : Int) < 64 := by omega
        have hlen : (((padK (bl y)).take k).map fun z => z ^^^ c).length = k := by rw [List.length_map, List.length_take, hpl]; omega
        have hst := HSTP.out k (by omega)
        rw [HG.out k] at hst
        obtain ⟨l, hl⟩ : ∃ l, ((padK (bl y)).take k).map (fun z => z ^^^ c) = l := ⟨_, rfl⟩
        rw [hl] at hO hst hlen
        obtain ⟨b, hb⟩ : ∃ b, (bl y).getD k 0 = b := ⟨_, rfl⟩
        rw [hb] at hst
        have hx8 := bits_xor8 b c
        obtain ⟨z, hz⟩ : ∃ z, b ^^^ c = z := ⟨_, rfl⟩
        rw [hz] at hst hx8
        have HO := Lib.hid hO; have HST := Lib.hid hst; have HLEN := Lib.hid hlen
        clear hO hst hl hz
        have fin : ∀ (g' cap' : Nat) (w' : World), Own w' w.heap.size (.slice (some ⟨g', 0, none⟩) (k + 1) cap') (l ++ [z]) → (wr.alloc (.cells #[.int .u8 (z.toNat : Int)] 5)).grownBy w' (Value.slice (some ⟨g, 0, none⟩) k cap).ownBlock → KeyRel w y c (.slice (some ⟨g', 0, none⟩) (k + 1) cap') (.int .i64 ((k : Int) + 1)) w' := by
          intro g' cap' w' h1 h2
          have hbel := (show Own wr w.heap.size (.slice (some ⟨g, 0, none⟩) k cap) l from HO.out).below hB hsz h2
          exact ⟨k + 1, g', cap', by omega, by simp, rfl, by rw [HST.out]; exact h1, hbel⟩
        have FIN := Lib.hid fin
        clear fin
        by_cases hky : k < y.size
        · have l2 : (k : Int) < (y.size : Int) := by omega
          have hix := str_index y (k : Int) k rfl hky
          rw [← bl_get y k hky, hb] at hix
          clear hb
          go_wp2_with (at_builtin; refine append_bytes rfl _ _ rfl w.heap.size _ l [z] wr.heap.size rfl (by exact Own.alloc HO.out _) 1 rfl rfl (by omega) (lit_bytes wr [z] _ _ rfl) (by omega) (by first | omega | (simp; omega)) ?_)
          intro g' cap' w' hO3 hg'
          have hf := FIN.out g' cap' w' hO3 hg'
          have HF := Lib.hid hf
          clear hf hO3 hg'
          go_wp2_with fail
          exact ⟨HF.out, by simp [intOf]; omega⟩
        · have l2 : ¬ (k : Int) < (y.size : Int) := by omega
          have hb0 : b = 0 := by rw [← hb, List.getD_eq_getElem?_getD, List.getElem?_eq_none (by rw [bl_length]; omega)]; rfl
          subst hb0
          have h00 : ((((0 : UInt8)).toNat : Nat) : Int) = 0 := rfl
          rw [h00] at hx8
          clear hb h00
          go_wp2_with (at_builtin; refine append_bytes rfl _ _ rfl w.heap.size _ l [z] wr.heap.size rfl (by exact Own.alloc HO.out _) 1 rfl rfl (by omega) (lit_bytes wr [z] _ _ rfl) (by omega) (by first | omega | (simp; omega)) ?_)
          intro g' cap' w' hO3 hg'
          have hf := FIN.out g' cap' w' hO3 hg'
          have HF := Lib.hid hf
          clear hf hO3 hg'
          go_wp2_with fail
          exact ⟨HF.out, by simp [intOf]; omega⟩
      · obtain rfl : k = 64 := by omega
        have l1 : ¬ (64 : Int) < 64 := by omega
        rw [List.take_of_length_le (by omega)] at hO
        have htx := hO.text (by rw [List.length_map]; exact hpl.symm)
        have HTX := Lib.hid (show strL (maskL (bl x) c) = (⟨((padK (bl y)).map fun z => z ^^^ c).toArray⟩ : ByteArray) by rw [HMK.out]; rfl)
        generalize (⟨((padK (bl y)).map fun z => z ^^^ c).toArray⟩ : ByteArray) = S at htx HTX
        clear hO HMK HG HSTP
        go_wp2_with fail
        go_ret
        exact ⟨by rw [HTX.out]; rfl, hB⟩

set_option maxHeartbeats 4000000 in
theorem reftag_any (kv : Value) (k x : ByteArray) (hk0 : k.size ≤ 1000000) (hx : x.size ≤ 80000) (w : World) (hk : KAt w kv) :
    Calls Tryd.prog 51 #[kv, .string k, .string x] w fun e w' => e = .returned (.string (strL (tagL (bl k) (bl x)))) ∧ Below w.heap.size w w' := by
  have hKA := id hk
  obtain ⟨k0, k1, rfl, hK0, hK1⟩ := hk
  obtain ⟨g0, o0, c0, rfl, hg0, -⟩ := hK0
  obtain ⟨g1, o1, c1, rfl, hg1, -⟩ := hK1
  simp only [S8.l_length, keysL_length] at hKA ⊢
  have hb0 : Below w.heap.size w (w.alloc (.cells #[.slice (some ⟨g0, o0, none⟩) 64 c0, .slice (some ⟨g1, o1, none⟩) 8 c1] 49)) := by go_grown
  have hc0 : (w.alloc (.cells #[.slice (some ⟨g0, o0, none⟩) 64 c0, .slice (some ⟨g1, o1, none⟩) 8 c1] 49)).heap[w.heap.size]? = some (.cells #[.slice (some ⟨g0, o0, none⟩) 64 c0, .slice (some ⟨g1, o1, none⟩) 8 c1] 49) := heap_alloc_new _ _
  have hKA0 := hKA.on hb0
  obtain ⟨W, hW⟩ : ∃ W, w.alloc (.cells #[.slice (some ⟨g0, o0, none⟩) 64 c0, .slice (some ⟨g1, o1, none⟩) 8 c1] 49) = W := ⟨_, rfl⟩
  rw [hW] at hb0 hc0 hKA0
  have h92 : (((92 : UInt8).toNat : Nat) : Int) = 92 := rfl
  have h54 : (((54 : UInt8).toNat : Nat) : Int) = 54 := rfl
  have hk1 := fun (d : Nat) (os : Array Obj) => key_any (.agg #[.slice (some ⟨g0, o0, none⟩) 64 c0, .slice (some ⟨g1, o1, none⟩) 8 c1]) k hk0 92 (grow (redrawn W d) os) (hKA0.on (below_regrown W d os))
  have hk2 := fun (d : Nat) (os : Array Obj) => key_any (.agg #[.slice (some ⟨g0, o0, none⟩) 64 c0, .slice (some ⟨g1, o1, none⟩) 8 c1]) k hk0 54 (grow (redrawn W d) os) (hKA0.on (below_regrown W d os))
  rw [h92] at hk1
  rw [h54] at hk2
  obtain ⟨p, hp⟩ : ∃ p, strL (maskL (bl k) 92) = p := ⟨_, rfl⟩
  obtain ⟨q, hq⟩ : ∃ q, strL (maskL (bl k) 54) = q := ⟨_, rfl⟩
  have hps : p.size = 64 := by rw [← hp, strL_size, maskL_length]
  have hqs : q.size = 64 := by rw [← hq, strL_size, maskL_length]
  rw [hp] at hk1
  rw [hq] at hk2
  obtain ⟨r, hr⟩ : ∃ r, q ++ x = r := ⟨_, rfl⟩
  have hrs : r.size ≤ 100000 := by rw [← hr, ByteArray.size_append]; omega
  have hcat1 : ∀ W : World, (Op.stringOp .add q x).run Tryd.prog W = .ok (.string r) W := fun W => by rw [run_string_add_sum W _ _ (by omega), hr]
  have hns1 : (9223372036854775807 < q.size + x.size) = False := by simp; omega
  have ho1 := fun (d : Nat) (os : Array Obj) => refof_any (.agg #[.slice (some ⟨g0, o0, none⟩) 64 c0, .slice (some ⟨g1, o1, none⟩) 8 c1]) r (by omega) (grow (redrawn W d) os) (hKA0.on (below_regrown W d os))
  obtain ⟨s, hs⟩ : ∃ s, strL (sumL (mixAll firstS (bl r)) (restOf (bl r)) r.size) = s := ⟨_, rfl⟩
  have hss : s.size = 32 := by rw [← hs, strL_size, sumL_length]
  have hsb : bl s = ofL (bl r) := by rw [← hs, bl_strL, ← bl_length]; rfl
  rw [hs] at ho1
  obtain ⟨t, ht⟩ : ∃ t, p ++ s = t := ⟨_, rfl⟩
  have hts : t.size ≤ 1000 := by rw [← ht, ByteArray.size_append]; omega
  have hcat2 : ∀ W : World, (Op.stringOp .add p s).run Tryd.prog W = .ok (.string t) W := fun W => by rw [run_string_add_sum W _ _ (by omega), ht]
  have hns2 : (9223372036854775807 < p.size + s.size) = False := by simp; omega
  have ho2 := fun (d : Nat) (os : Array Obj) => refof_any (.agg #[.slice (some ⟨g0, o0, none⟩) 64 c0, .slice (some ⟨g1, o1, none⟩) 8 c1]) t (by omega) (grow (redrawn W d) os) (hKA0.on (below_regrown W d os))
  obtain ⟨S, hS⟩ : ∃ S, strL (sumL (mixAll firstS (bl t)) (restOf (bl t)) t.size) = S := ⟨_, rfl⟩
  rw [hS] at ho2
  have hfin : strL (tagL (bl k) (bl x)) = S := by
    rw [← hS, ← bl_length]
    have e : bl t = maskL (bl k) 92 ++ ofL (maskL (bl k) 54 ++ bl x) := by
      rw [← ht, bl_append, hsb, ← hr, bl_append, ← hp, ← hq, bl_strL, bl_strL]
    rw [e]; rfl
  have HFIN := Lib.hid hfin; have H1 := Lib.hid hk1; have H2 := Lib.hid hk2; have H3 := Lib.hid ho1; have H4 := Lib.hid ho2; have HB0 := Lib.hid hb0
  have e0 : W.cell? ⟨w.heap.size, 0, none⟩ = some (.slice (some ⟨g0, o0, none⟩) 64 c0) := by rw [cell_of_row _ _ _ _ _ _ hc0]; rfl
  have e1 : W.cell? ⟨w.heap.size, 1, none⟩ = some (.slice (some ⟨g1, o1, none⟩) 8 c1) := by rw [cell_of_row _ _ _ _ _ _ hc0]; rfl
  have q0 := cell_regrown e0; have q1 := cell_regrown e1
  have HW := Lib.hid hW
  clear hfin hk1 hk2 ho1 ho2 hb0 hc0 hKA hKA0 h92 h54 hp hq hr hs hsb ht hS hW e0 e1
  go_enter Tryd.func51, Tryd.ntmps51
  go_upto_region 1 with fail
  rw [HW.out]
  refine wp_region_quiet_below (by kernel_rfl) (by kernel_rfl) ?_
  iterate 14 (quiet_step (first | (go_at_call 68; first | with_reducible exact Calls.regrown_of (H1.out _ _) | with_reducible exact Calls.regrown_of (H2.out _ _)) | (go_at_call 67; first | with_reducible exact Calls.regrown_of (H3.out _ _) | with_reducible exact Calls.regrown_of (H4.out _ _))))
  refine wpQuiet_nil ?_
  intro _ hw'
  obtain ⟨⟨dq, osq⟩, hw''⟩ := hw'
  subst hw''
  have hb := below_regrown W dq osq
  have hbb := HB0.out.trans (hb.mono HB0.out.size)
  clear q0 q1 hb H1 H2 H3 H4
  generalize grow (redrawn W dq) osq = W1 at hbb ⊢
  go_wp2_with fail
  go_ret
  exact ⟨by rw [HFIN.out]; rfl, hbb⟩
end Go.Proofs.YtdnjieffbgmagaaDoor

/- Slices of texts of a call's own. -/
namespace Go.Proofs.YtdnjieffbgmagaaDoor
open Go.RowKit
set_option maxRecDepth 100000
def Sv (l : List ByteArray) : List Value := l.map Value.string
/-- a slice of texts of the call's own that reads as l -/
def OwnS (w : World) (base : Nat) (v : Value) (l : List ByteArray) : Prop := w.ownsRow base 9 1 v l.length (Sv l)
theorem OwnS.alloc {w : World} {base : Nat} {v : Value} {l : List ByteArray} (h : OwnS w base v l) (o : Obj) : OwnS (w.alloc o) base v l := World.ownsRow.alloc h o
theorem OwnS.on {w w' : World} {base : Nat} {v : Value} {l : List ByteArray} (h : OwnS w base v l) (hb : Below w.heap.size w w') : OwnS w' base v l := by
  refine ⟨h.1, ?_⟩
  rcases h.2 with h2 | ⟨g, cap, cur, e, hg, hc, h3⟩
  · exact Or.inl h2
  · exact Or.inr ⟨g, cap, cur, e, hg, by rw [hb.block g (Array.getElem?_eq_some_iff.1 hc).1]; exact hc, h3⟩
theorem OwnS.strs {w : World} {base g n cap : Nat} {l : List ByteArray} (h : OwnS w base (.slice (some ⟨g, 0, none⟩) n cap) l) (hn : n = l.length) : StrsAt w (.slice (some ⟨g, 0, none⟩) n cap) l := by
  subst hn
  have hlt : g < w.heap.size := by
    rcases h.2 with ⟨e, -⟩ | ⟨g', cap', cur, e, -, hc, -⟩
    · cases e
    · cases e; exact (Array.getElem?_eq_some_iff.1 hc).1
  refine ⟨g, 0, cap, rfl, hlt, fun i hi => ?_⟩
  have := World.ownsRow.cellAt h i (by omega)
  rw [Nat.zero_add, this]
  simp [Sv, List.getD, hi]
theorem OwnS.cap {w : World} {base g n cap : Nat} {l : List ByteArray} (h : OwnS w base (.slice (some ⟨g, 0, none⟩) n cap) l) (hn : n = l.length) : n ≤ cap := by
  subst hn
  rcases h.2 with ⟨e, -⟩ | ⟨g', cap', cur, e, -, -, hc, -⟩
  · cases e
  · cases e; exact hc
theorem infoS : (Tryd.prog.info? 9).map (fun i => (i.zero, i.size, i.bytes)) = some (some (.string ⟨#[]⟩), 1, 16) := by kernel_rfl
/-- one text put behind a slice of the call's own -/
theorem append_s {ops : Array Oper} {rest : List Oper} {o : Oper} {a : Act} {Q : Exit → Act → World → Prop} {w : World} (hgd : o.guard = none) (s x : Operand)
    (ho : o.op = .call { callee := .builtin .append, args := #[s, x], argTypes := #[24, 24] })
    (base : Nat) (v : Value) (l : List ByteArray) (y : ByteArray) (B : Nat) (hs : a.eval s = v) (hown : OwnS w base v l) (hx : a.eval x = .slice (some ⟨B, 0, none⟩) 1 1)
    (hc : w.cell? ⟨B, 0, none⟩ = some (.string y)) (hl : l.length ≤ 1000) (hbase : base ≤ w.heap.size)
    (h : ∀ g cap w', OwnS w' base (.slice (some ⟨g, 0, none⟩) (l.length + 1) cap) (l ++ [y]) → w.grownBy w' v.ownBlock → wpList Tryd.prog ops Q rest (a.put o.dst (.slice (some ⟨g, 0, none⟩) (l.length + 1) cap)) w') :
    wpList Tryd.prog ops Q (o :: rest) a w := by
  obtain ⟨i0, hi, hz0, hz1, hz2⟩ := info_parts infoS
  refine wpList_append_own w hgd s x 24 ho base 9 i0 (.string ⟨#[]⟩) 1 16 Tryd.underlying24 hi hz0 hz1 hz2 rfl (by decide) v l.length (Sv l) hs hown ⟨B, 0, none⟩ 1 1 [.string y] hx rfl ?_ ?_ (by unfold maxLen; omega) (by omega) hbase ?_
  · intro j u hu
    rcases j with _ | j
    · simp at hu; subst hu; simpa [Addr.add] using hc
    · simp at hu
  · intro u hu; simp at hu; subst hu; rfl
  · intro v' w' ho' hg _
    obtain ⟨g, cap, rfl, -, -⟩ := World.ownsRow.form ho' (by omega)
    exact h g cap w' (by unfold OwnS; simpa [Sv] using ho') hg
theorem OwnS.below {w wr w' : World} {n : Nat} {v : Value} {l : List ByteArray} {o : Obj} (hI : OwnS wr n v l) (hB : Below n w wr) (hn : n ≤ wr.heap.size) (hg : (wr.alloc o).grownBy w' v.ownBlock) : Below n w w' :=
  (hB.alloc hn o).grown hg (by simp; omega) fun k hk => (World.ownsRow.lt hI k hk).1
/-- make([]string, 0, c) -/
theorem make_strs (c : Nat) (hc : c ≤ 1000) : ∃ M : Array Value, M.size = c ∧ ∀ W : World,
    (Instr.makeSlice 24 (.int .i64 0) (.int .i64 (c : Int))).run Tryd.prog W = .ok (.slice (some ⟨W.heap.size, 0, none⟩) 0 c) (W.alloc (.cells M 9)) := by
  obtain ⟨i0, hi, hz0, hz1, hz2⟩ := info_parts infoS
  refine ⟨madeCells (Value.string ⟨#[]⟩).cells (c * i0.size), by rw [size_madeCells, hz1]; simp, fun W => ?_⟩
  have h := run_make (P := Tryd.prog) W 24 9 i0 (.string ⟨#[]⟩) Tryd.underlying24 hi hz0 .i64 .i64 (0 : Int) (c : Int) (by omega) (by omega) (by rw [hz2]; omega) (by omega)
  simp only [Int.toNat_natCast] at h
  exact h
theorem OwnS.made (W : World) (M : Array Value) (base c : Nat) (hM : M.size = c) (hb : base ≤ W.heap.size) (hc : c ≤ 1000) : OwnS (W.alloc (.cells M 9)) base (.slice (some ⟨W.heap.size, 0, none⟩) 0 c) [] :=
  ⟨rfl, .inr ⟨W.heap.size, c, M, rfl, hb, heap_alloc_new W _, Nat.zero_le _, by unfold maxLen; omega, by rw [hM, Nat.mul_one], by simp [Sv]⟩⟩
theorem OwnS.empty (w : World) (base : Nat) (hb : base ≤ w.heap.size) : OwnS (w.alloc (.cells #[] 9)) base (.slice (some ⟨w.heap.size, 0, none⟩) 0 0) [] :=
  World.ownsRow_lit w #[] 0 hb (by decide) rfl
/-- a slice of texts, nil or not, that reads as l -/
def SSl (w : World) (a : Option Addr) (l : List ByteArray) : Prop :=
  0 < l.length → ∃ b off : Nat, a = some ⟨b, off, none⟩ ∧ b < w.heap.size ∧ ∀ i, i < l.length → w.cell? ⟨b, off + i, none⟩ = some (.string (l.getD i ⟨#[]⟩))
theorem SSl.on {w w' : World} {a : Option Addr} {l : List ByteArray} (h : SSl w a l) (hb : Below w.heap.size w w') : SSl w' a l := by
  intro h0
  obtain ⟨b, off, ha, hlt, hc⟩ := h h0
  exact ⟨b, off, ha, Nat.lt_of_lt_of_le hlt hb.size, fun i hi => by rw [hb.cell (p := ⟨b, off + i, none⟩) hlt]; exact hc i hi⟩
/-- texts of whatever bytes that can be -/
def Fit (l : List ByteArray) : Prop := ∀ s ∈ l, s.size ≤ maxLen
theorem Fit.take {l : List ByteArray} (h : Fit l) (k : Nat) : Fit (l.take k) := fun s hs => h s (List.mem_of_mem_take hs)
theorem SSl.take {w : World} {a : Option Addr} {l : List ByteArray} (h : SSl w a l) (k : Nat) : SSl w a (l.take k) := by
  intro h0
  obtain ⟨b, off, ha, hlt, hc⟩ := h (by rw [List.length_take] at h0; omega)
  refine ⟨b, off, ha, hlt, fun i hi => ?_⟩
  rw [List.length_take] at hi
  rw [hc i (by omega)]
  simp [List.getD, show i < k by omega]
end Go.Proofs.YtdnjieffbgmagaaDoor

/- The contract of derive's row. -/
namespace Go.Proofs.YtdnjieffbgmagaaDoor
open Go.RowKit
set_option maxRecDepth 100000
/-- Tn, by a secret and a word -/
def lastT (k wd : List UInt8) : Nat → List UInt8
  | 0 => []
  | n + 1 => tagL k (lastT k wd n ++ wd ++ [UInt8.ofNat (n + 1)])
end Go.Proofs.YtdnjieffbgmagaaDoor

/- A block of bytes, known whole: loads, stores, results; a word out of a row of sixteen. -/
namespace Go.Proofs.YtdnjieffbgmagaaDoor
open Go.RowKit
set_option maxRecDepth 100000
theorem BlkB.fresh (w : World) (t : TypeId) (l : List UInt8) (cs : Array Value) (hc : cs = (Lib.byteCells l).toArray) (n : Nat) (hn : n = w.heap.size) : BlkB (w.alloc (.cells cs t)) n t l := by
  subst hn hc; exact heap_alloc_new w _
theorem BlkB.below {n : Nat} {w w' : World} {B : Nat} {t : TypeId} {l : List UInt8} (h : BlkB w B t l) (hb : Below n w w') (hB : B < n) : BlkB w' B t l := by
  unfold BlkB
  rw [hb.block B hB]; exact h
theorem BlkB.far {w : World} {B : Nat} {t : TypeId} {l : List UInt8} (h : BlkB w B t l) (a : Addr) (hne : B ≠ a.block) (v : Value) : BlkB (w.setCell a v) B t l := by
  unfold BlkB
  rw [heap_setCell_other w a B v hne]; exact h
theorem BlkB.alloc {w : World} {B : Nat} {t : TypeId} {l : List UInt8} (h : BlkB w B t l) (o : Obj) : BlkB (w.alloc o) B t l :=
  h.below ((Below.refl _ _).alloc (Nat.le_refl _) o) h.lt
theorem BlkB.stored {w : World} {B : Nat} {t : TypeId} {l : List UInt8} (h : BlkB w B t l) (l' : List UInt8) (hl : l'.length = l.length) : BlkB (w.setCells B 0 (Lib.byteCells l')) B t l' := by
  have := heap_setCells_all B t (Lib.byteCells l') [] (Lib.byteCells l) w (by simp [Lib.byteCells, hl]) h
  simpa [BlkB] using this
theorem BlkB.there {w : World} {B : Nat} {t : TypeId} {l : List UInt8} (h : BlkB w B t l) (n : Nat) (hn : n ≤ l.length) : w.there B 0 n := by
  intro j hj
  rw [Nat.zero_add, h.cell j (by omega), h.frozen j]
  exact ⟨rfl, rfl⟩
theorem BlkB.range {w : World} {B : Nat} {t : TypeId} {l : List UInt8} (h : BlkB w B t l) : w.rangeAt B 0 (Lib.byteCells l) := by
  intro j v hv
  rw [Nat.zero_add, cell_of_row w B j _ t (0, 0) h]
  simpa using hv
end Go.Proofs.YtdnjieffbgmagaaDoor

/- The contracts of stream's Block and flow. -/
namespace Go.Proofs.YtdnjieffbgmagaaDoor
open Go.RowKit
set_option maxRecDepth 100000
theorem BlkW.grown {w w' : World} {B : Nat} {t : TypeId} {l : List (BitVec 32)} {row : Option Nat} (h : BlkW w B t l) (hg : w.grownBy w' row) (hne : some B ≠ row) : BlkW w' B t l := by
  unfold BlkW
  rw [hg.block B h.lt hne]; exact h
theorem Own.take {w : World} {base g n cap : Nat} {l : List UInt8} (h : Own w base (.slice (some ⟨g, 0, none⟩) n cap) l) (m : Nat) (hm : m ≤ l.length) : Own w base (.slice (some ⟨g, 0, none⟩) m cap) (l.take m) ∧ m ≤ cap ∧ l.length ≤ cap := by
  rcases h.2 with ⟨e, -⟩ | ⟨g', cap', cur, e, hb, hc, h1, h2, h3, h4⟩
  · cases e
  · cases e
    refine ⟨?_, by omega, h1⟩
    have hl : (l.take m).length = m := by rw [List.length_take]; omega
    unfold Own
    rw [hl]
    refine ⟨by rw [Lib.byteCells_length, hl, Nat.mul_one], .inr ⟨g, cap, cur, rfl, hb, hc, by omega, h2, h3, ?_⟩⟩
    rw [Nat.mul_one] at h4 ⊢
    have h5 := congrArg (List.take m) h4
    rw [List.take_take, Nat.min_eq_left hm] at h5
    rw [h5]
    simp [Lib.byteCells, List.map_take]
end Go.Proofs.YtdnjieffbgmagaaDoor

/- The contracts of stream's Stream and Xor. -/
namespace Go.Proofs.YtdnjieffbgmagaaDoor
open Go.RowKit
set_option maxRecDepth 100000
theorem Own.cell {w : World} {base G n cap : Nat} {l : List UInt8} (h : Own w base (.slice (some ⟨G, 0, none⟩) n cap) l) (hn : n = l.length) (j : Nat) (hj : j < l.length) : w.cell? ⟨G, j, none⟩ = some (.int .u8 ((l.getD j 0).toNat : Int)) := by
  subst hn
  have := World.ownsRow.cellAt h j (by omega)
  rw [this]
  simp [List.getD, hj, Lib.byteCells]
theorem Own.frozen {w : World} {base g n cap : Nat} {l : List UInt8} (h : Own w base (.slice (some ⟨g, 0, none⟩) n cap) l) (i : Nat) : w.frozen? ⟨g, i, none⟩ = false := by
  rcases h.2 with ⟨e, -⟩ | ⟨g', cap', cur, e, -, hc, -⟩
  · cases e
  · cases e; exact frozen_of_row _ _ _ _ _ hc
theorem Own.set {w : World} {base g n cap : Nat} {l : List UInt8} (h : Own w base (.slice (some ⟨g, 0, none⟩) n cap) l) (i : Nat) (_hi : i < l.length) (x : UInt8) : Own (w.setCell ⟨g, i, none⟩ (.int .u8 (x.toNat : Int))) base (.slice (some ⟨g, 0, none⟩) n cap) (l.set i x) := by
  unfold Own at *
  rw [List.length_set]
  refine ⟨by simp [Lib.byteCells], ?_⟩
  rcases h.2 with ⟨e, -⟩ | ⟨g', cap', cur, e, hb, hc, h1, h2, h3, h4⟩
  · cases e
  · cases e
    refine Or.inr ⟨g, cap, cur.setIfInBounds i (.int .u8 (x.toNat : Int)), rfl, hb, heap_setCell_same w g i _ _ _ hc, h1, h2, by simpa using h3, ?_⟩
    rw [Array.toList_setIfInBounds, List.take_set, h4]
    simp [Lib.byteCells, List.map_set]
theorem Own.base {w : World} {base g n cap : Nat} {l : List UInt8} (h : Own w base (.slice (some ⟨g, 0, none⟩) n cap) l) : base ≤ g := by
  rcases h.2 with ⟨e, -⟩ | ⟨g', cap', cur, e, hb, -⟩
  · cases e
  · cases e; exact hb
end Go.Proofs.YtdnjieffbgmagaaDoor

/- Structs of two cells in memory; more of rows of the call's own. -/
namespace Go.Proofs.YtdnjieffbgmagaaDoor
open Go.RowKit
set_option maxRecDepth 100000
theorem OwnS.form {w : World} {base : Nat} {v : Value} {l : List ByteArray} (h : OwnS w base v l) : ∃ a c, v = .slice a l.length c ∧ l.length ≤ c ∧ (0 < l.length → ∃ g, a = some ⟨g, 0, none⟩) := by
  rcases h.2 with ⟨e, h0⟩ | ⟨g, cap, cur, e, -, -, hc, -⟩
  · exact ⟨none, 0, by rw [e, h0], by omega, fun h => by omega⟩
  · exact ⟨_, _, e, hc, fun _ => ⟨g, rfl⟩⟩
end Go.Proofs.YtdnjieffbgmagaaDoor

/- lock's smallest functions: whether a key, a text, and what is locked may be; a head's size as two bytes. -/
namespace Go.Proofs.YtdnjieffbgmagaaDoor
open Go.RowKit
set_option maxRecDepth 100000
theorem isKey_any (s : ByteArray) (w : World) :
    Calls Tryd.prog 61 #[.string s] w fun e w' => e = .returned (.bool (decide (s.size = 32))) ∧ w = w' := by
  have h : ((s.size : Int) == 32) = decide (s.size = 32) := by
    rw [Bool.eq_iff_iff, beq_iff_eq, decide_eq_true_iff]; omega
  go_enter Tryd.func61, Tryd.ntmps61
  go_wp2
  go_ret
  exact ⟨rfl, rfl⟩
theorem isText_any (s : ByteArray) (w : World) :
    Calls Tryd.prog 62 #[.string s] w fun e w' => e = .returned (.bool (decide (s.size ≤ 1024))) ∧ w = w' := by
  have h : decide ((s.size : Int) ≤ 1024) = decide (s.size ≤ 1024) := by
    rw [decide_eq_decide]; omega
  go_enter Tryd.func62, Tryd.ntmps62
  go_wp2
  go_ret
  exact ⟨rfl, rfl⟩
/-- how many bytes a head has, as two bytes -/
def sizeL (n : Nat) : List UInt8 := [UInt8.ofNat (n / 256), UInt8.ofNat n]
theorem two_text (x y : UInt8) (u v : Int) (hu : u = (x.toNat : Int)) (hv : v = (y.toNat : Int)) (W : World) :
    (convert 74 9 (.slice (some ⟨W.heap.size, 0, none⟩) 2 2)).run Tryd.prog (W.alloc (.cells #[.int .u8 u, .int .u8 v] 5)) = .ok (.string (strL [x, y])) (W.alloc (.cells #[.int .u8 u, .int .u8 v] 5)) := by
  subst hu hv
  exact run_convert_bytes_back (P := Tryd.prog) (W.alloc (.cells #[.int .u8 (x.toNat : Int), .int .u8 (y.toNat : Int)] 5)) 74 9 5 ⟨W.heap.size, 0, none⟩ 2 [x, y] Tryd.underlying74 Tryd.underlying5 Tryd.underlying9 (fun j hj => by
    rcases j with _ | _ | j
    · simp [Addr.add]
    · simp [Addr.add]
    · exfalso; simp at hj; omega)
theorem size_hi (n : Nat) (h : n ≤ 1024) : ((n : Int) / 256) = ((UInt8.ofNat (n / 256)).toNat : Int) := by
  rw [UInt8.toNat_ofNat', Nat.mod_eq_of_lt (by omega)]; omega
theorem size_lo (n : Nat) : ((n : Int) % 256) = ((UInt8.ofNat n).toNat : Int) := by
  rw [UInt8.toNat_ofNat']; omega
set_option maxHeartbeats 400000 in
theorem sizeOf_any (s : ByteArray) (hs : s.size ≤ 1024) (w : World) :
    Calls Tryd.prog 81 #[.string s] w fun e w' => e = .returned (.string (strL (sizeL s.size))) ∧ Below w.heap.size w w' := by
  have h := two_text (UInt8.ofNat (s.size / 256)) (UInt8.ofNat s.size) _ _ (size_hi s.size hs) (size_lo s.size) w
  go_enter Tryd.func81, Tryd.ntmps81
  go_wp2_with fail
  go_ret
  exact ⟨rfl, by go_grown⟩
end Go.Proofs.YtdnjieffbgmagaaDoor

/- lock's tag of a head and of bytes, and these bytes with it. -/
namespace Go.Proofs.YtdnjieffbgmagaaDoor
open Go.RowKit Go.Sort
set_option maxRecDepth 100000
/-- the tag of a head and of bytes -/
def tagOfL (t h b : List UInt8) : List UInt8 := tagL t (sizeL h.length ++ h ++ b)
/-- bytes, and behind them the tag -/
def againL (t h b : List UInt8) : List UInt8 := b ++ tagOfL t h b
theorem tagOfL_length (t h b : List UInt8) : (tagOfL t h b).length = 32 := ofL_length _
/-- texts in a row: the sums that a drawn region wants, laid in advance -/
theorem cat_ex (s h b : ByteArray) (hn : s.size + h.size + b.size ≤ 100000) : ∃ p t : ByteArray, (∀ W : World, (Op.stringOp .add s h).run Tryd.prog W = .ok (.string p) W) ∧ (∀ W : World, (Op.stringOp .add p b).run Tryd.prog W = .ok (.string t) W) ∧
    (9223372036854775807 < s.size + h.size) = False ∧ (9223372036854775807 < p.size + b.size) = False ∧ s ++ h = p ∧ p ++ b = t ∧ p.size = s.size + h.size ∧ t.size = s.size + h.size + b.size ∧ bl t = bl s ++ bl h ++ bl b := by
  have e : (s ++ h).size = s.size + h.size := ByteArray.size_append
  refine ⟨s ++ h, s ++ h ++ b, fun W => ?_, fun W => ?_, by simp; omega, by rw [e]; simp; omega, rfl, rfl, e, by rw [ByteArray.size_append, e], by rw [bl_append, bl_append]⟩
  · rw [run_string_add_sum W _ _ (by omega)]
  · rw [run_string_add_sum W _ _ (by omega)]

set_option maxHeartbeats 4000000 in
theorem tagOf_any (x y z h b : ByteArray) (hy : y.size ≤ 1000000) (hh : h.size ≤ 1024) (hb : b.size ≤ 1100) (w : World) (hF : FirstAt w) (hK : KeysAt w) :
    Calls Tryd.prog 74 #[.agg #[.string x, .string y, .string z, .string h], .string b] w fun e w' => e = .returned (.string (strL (tagOfL (bl y) (bl h) (bl b)))) ∧ Below w.heap.size w w' := by
  have hb0 : Below w.heap.size w (w.alloc (.cells #[.string x, .string y, .string z, .string h] 107)) := by go_grown
  have hc0 : (w.alloc (.cells #[.string x, .string y, .string z, .string h] 107)).heap[w.heap.size]? = some (.cells #[.string x, .string y, .string z, .string h] 107) := heap_alloc_new _ _
  have hF0 := hF.on hb0; have hK0 := hK.on hb0
  obtain ⟨W, hW⟩ : ∃ W, w.alloc (.cells #[.string x, .string y, .string z, .string h] 107) = W := ⟨_, rfl⟩
  rw [hW] at hb0 hc0 hF0 hK0
  have hs := fun (d : Nat) (os : Array Obj) => sizeOf_any h hh (grow (redrawn W d) os)
  obtain ⟨s, es⟩ : ∃ s, strL (sizeL h.size) = s := ⟨_, rfl⟩
  have hss : s.size = 2 := by rw [← es, strL_size]; rfl
  have hsb : bl s = sizeL (bl h).length := by rw [← es, bl_strL, bl_length]
  rw [es] at hs
  obtain ⟨p, t, hcat1, hcat2, hns1, hns2, -, -, hps, hts, htb⟩ := cat_ex s h b (by omega)
  have ht := fun (d : Nat) (os : Array Obj) => tagd_any y t hy (by omega) (grow (redrawn W d) os) (hF0.on (below_regrown W d os)) (hK0.on (below_regrown W d os))
  obtain ⟨S, eS⟩ : ∃ S, strL (tagL (bl y) (bl t)) = S := ⟨_, rfl⟩
  have hfin : strL (tagOfL (bl y) (bl h) (bl b)) = S := by rw [← eS, htb, hsb]; rfl
  rw [eS] at ht
  have HFIN := Lib.hid hfin; have H1 := Lib.hid hs; have H2 := Lib.hid ht; have HB0 := Lib.hid hb0
  have e1 : W.cell? ⟨w.heap.size, 1, none⟩ = some (.string y) := by rw [cell_of_row _ _ _ _ _ _ hc0]; rfl
  have e3 : W.cell? ⟨w.heap.size, 3, none⟩ = some (.string h) := by rw [cell_of_row _ _ _ _ _ _ hc0]; rfl
  have q1 := cell_regrown e1; have q3 := cell_regrown e3
  have HW := Lib.hid hW
  clear hfin hs ht hb0 hc0 hF0 hK0 hF hK es hss hsb hps hts htb eS hW e1 e3 hy hh hb
  go_enter Tryd.func74, Tryd.ntmps74
  go_upto_region 1 with fail
  rw [HW.out]
  refine wp_region_quiet_below (by kernel_rfl) (by kernel_rfl) ?_
  iterate 13 (quiet_step (first | (go_at_call 81; exact Calls.regrown_of (H1.out _ _)) | (go_at_call 80; exact Calls.regrown_of (H2.out _ _))))
  refine wpQuiet_nil ?_
  intro _ hw'
  obtain ⟨⟨dq, osq⟩, hw''⟩ := hw'
  subst hw''
  have hb := below_regrown W dq osq
  have hbb := HB0.out.trans (hb.mono HB0.out.size)
  clear q1 q3 hb H1 H2 hcat1 hcat2 hns1 hns2
  generalize grow (redrawn W dq) osq = W1 at hbb ⊢
  go_wp2_with fail
  go_ret
  exact ⟨by rw [HFIN.out]; rfl, hbb⟩

set_option maxHeartbeats 1000000 in
theorem tagged_any (x y z h b : ByteArray) (hy : y.size ≤ 1000000) (hh : h.size ≤ 1024) (hb : b.size ≤ 1100) (w : World) (hF : FirstAt w) (hK : KeysAt w) :
    Calls Tryd.prog 63 #[.agg #[.string x, .string y, .string z, .string h], .string b] w fun e w' => e = .returned (.string (strL (againL (bl y) (bl h) (bl b)))) ∧ Below w.heap.size w w' := by
  have hb0 : Below w.heap.size w (w.alloc (.cells #[.string x, .string y, .string z, .string h] 107)) := by go_grown
  have ht := tagOf_any x y z h b hy hh hb _ (hF.on hb0) (hK.on hb0)
  obtain ⟨S, eS⟩ : ∃ S, strL (tagOfL (bl y) (bl h) (bl b)) = S := ⟨_, rfl⟩
  have hSs : S.size = 32 := by rw [← eS, strL_size, tagOfL_length]
  have hfin : b ++ S = strL (againL (bl y) (bl h) (bl b)) := bl_inj (by rw [bl_append, bl_strL, ← eS, bl_strL]; rfl)
  rw [eS] at ht
  have HT := Lib.hid ht; have HFIN := Lib.hid hfin; have HB0 := Lib.hid hb0
  have hns : (9223372036854775807 < b.size + S.size) = False := by simp; omega
  have hcat : ∀ W : World, (Op.stringOp .add b S).run Tryd.prog W = .ok (.string (b ++ S)) W := fun W => by rw [run_string_add_sum W _ _ (by omega)]
  clear ht hfin hb0 eS hSs hF hK hy hh hb
  go_enter Tryd.func63, Tryd.ntmps63
  go_wp2_with fail
  refine HT.out.mono ?_
  rintro e w1 ⟨rfl, hb1⟩
  have hbb := HB0.out.trans (hb1.mono HB0.out.size)
  clear HT HB0 hb1
  go_wp2_with fail
  go_ret
  exact ⟨by rw [← HFIN.out]; rfl, hbb⟩
end Go.Proofs.YtdnjieffbgmagaaDoor
