/- The package reveal's closure, and changed: a text's bytes, each made another one, and tagged. -/
import Derived.Test.YtdnjieffbgmagaaDoorZa
import Derived.Test.YtdnjieffbgmagaaDoorBg10
import Derived.Test.YtdnjieffbgmagaaDoorBg3
import Derived.BigQuiet
namespace Go.Proofs.YtdnjieffbgmagaaDoor
open Go.RowKit Go.Sort
set_option maxRecDepth 100000

set_option maxHeartbeats 1000000 in
theorem closure_any (k : Nat) (b : UInt8) (o t : ByteArray) (ho : k < o.size) (ht : k < t.size) (B D : Nat) (w : World) (c1 : w.cell? ⟨B, 0, none⟩ = some (.string o)) (c2 : w.cell? ⟨D, 0, none⟩ = some (.string t)) :
    Calls Tryd.prog 33 #[.int .i64 (k : Int), .int .u8 (b.toNat : Int), .pointer (some ⟨B, 0, none⟩), .pointer (some ⟨D, 0, none⟩)] w fun e w' => e = .returned (.int .u8 ((b ^^^ (bl o).getD k 0 ^^^ (bl t).getD k 0).toNat : Int)) ∧ Below w.heap.size w w' := by
  have hi1 := str_index o (k : Int) k rfl ho
  have hi2 := str_index t (k : Int) k rfl ht
  rw [bl_get o k ho, bl_get t k ht]
  obtain ⟨x, ex⟩ : ∃ x, o[k] = x := ⟨_, rfl⟩
  obtain ⟨y, ey⟩ : ∃ y, t[k] = y := ⟨_, rfl⟩
  simp only [ex] at hi1 ⊢
  simp only [ey] at hi2 ⊢
  have hx1 := bits_xor8 b x
  obtain ⟨z, ez⟩ : ∃ z, b ^^^ x = z := ⟨_, rfl⟩
  rw [ez] at hx1 ⊢
  have hx2 := bits_xor8 z y
  obtain ⟨u, eu⟩ : ∃ u, z ^^^ y = u := ⟨_, rfl⟩
  rw [eu] at hx2 ⊢
  clear ex ey ez eu ho ht
  go_enter Tryd.func33, Tryd.ntmps33
  go_upto_region 1 with fail
  go_quiet (fail)
  go_wp2_with fail
  go_ret
  exact ⟨rfl, below_drewN (Below.refl _ _) _⟩
theorem xor3_get (a b c : List UInt8) (k : Nat) (h : k < a.length) : (xor3 a b c).getD k 0 = a.getD k 0 ^^^ b.getD k 0 ^^^ c.getD k 0 := by
  unfold xor3
  rw [List.getD_eq_getElem?_getD, List.getElem?_map, List.getElem?_range h]
  rfl
/-- the first k bytes are others -/
def mixK (a m : List UInt8) (k : Nat) : List UInt8 := m.take k ++ a.drop k
theorem mixK_length (a m : List UInt8) (k : Nat) (hk : k ≤ a.length) (hm : m.length = a.length) : (mixK a m k).length = a.length := by
  unfold mixK; rw [List.length_append, List.length_take, List.length_drop]; omega
theorem mixK_get (a m : List UInt8) (k : Nat) (hk : k < a.length) (hm : m.length = a.length) : (mixK a m k).getD k 0 = a.getD k 0 := by
  unfold mixK
  have e : (m.take k).length = k := by rw [List.length_take]; omega
  rw [List.getD_eq_getElem?_getD, List.getElem?_append_right (by omega), e, Nat.sub_self, List.getElem?_drop, Nat.add_zero, ← List.getD_eq_getElem?_getD]
theorem mixK_set (a m : List UInt8) (k : Nat) (hk : k < a.length) (hm : m.length = a.length) : (mixK a m k).set k (m.getD k 0) = mixK a m (k + 1) := by
  unfold mixK
  have e : (m.take k).length = k := by rw [List.length_take]; omega
  have hg : m.getD k 0 = m[k]'(by omega) := by simp [List.getD, (show k < m.length by omega)]
  rw [List.set_append_right _ _ (by omega), e, Nat.sub_self, List.drop_eq_getElem_cons hk, List.set_cons_zero, hg, List.take_succ_eq_append_getElem (by omega), List.append_assoc, List.singleton_append]
theorem mixK_zero (a m : List UInt8) : mixK a m 0 = a := by simp [mixK]
theorem mixK_all (a m : List UInt8) (hm : m.length = a.length) : mixK a m a.length = m := by
  unfold mixK; rw [List.drop_length, List.append_nil, List.take_of_length_le (by omega)]
def ChRel (w : World) (g : Nat) (a m : List UInt8) (L : List Value) (i : Value) (wr : World) : Prop :=
  ∃ k : Nat, k ≤ a.length ∧ i = .int .i64 (k : Int) ∧ BytesAt wr g (mixK a m k) ∧ Below w.heap.size w wr ∧ BlkV wr w.heap.size 64 L
set_option maxHeartbeats 4000000 in
theorem changed_any (h x y q o t : ByteArray) (hh : h.size ≤ 1024) (hx : x.size ≤ 1024) (hq : q.size = 32) (ho : o.size = x.size) (ht : t.size = x.size) (B D : Nat) (w : World) (hF : FirstAt w) (hK : KeysAt w) (c1 : w.cell? ⟨B, 0, none⟩ = some (.string o)) (c2 : w.cell? ⟨D, 0, none⟩ = some (.string t)) :
    Calls Tryd.prog 32 #[.agg #[.string h, .string x, .string y], .string q, .func (.func 33) #[] #[.pointer (some ⟨B, 0, none⟩), .pointer (some ⟨D, 0, none⟩)]] w fun e w' => e = .returned (.string (againS q h (strL (xor3 (bl x) (bl o) (bl t))))) ∧ Below w.heap.size w w' := by
  obtain ⟨M, eM⟩ : ∃ M, xor3 (bl x) (bl o) (bl t) = M := ⟨_, rfl⟩
  have hml : M.length = (bl x).length := by rw [← eM, xor3_length]
  have hmg : ∀ k, k < x.size → M.getD k 0 = (bl x).getD k 0 ^^^ (bl o).getD k 0 ^^^ (bl t).getD k 0 := fun k hk => by rw [← eM]; exact xor3_get _ _ _ k hk
  have hsm : (strL M).size ≤ 1024 := by rw [strL_size, hml, bl_length]; exact hx
  rw [eM]
  have hag := fun (W : World) (hW : Below w.heap.size w W) => Again_good q h (strL M) hq hh hsm W (hF.on hW) (hK.on hW)
  obtain ⟨R, eR⟩ : ∃ R, againS q h (strL M) = R := ⟨_, rfl⟩
  have eR' : strL (againL (bl q) (bl h) (bl (strL M))) = R := eR
  rw [eR'] at hag
  rw [eR]
  obtain ⟨V, eV⟩ : ∃ V, w.alloc (.cells #[.string h, .string x, .string y] 64) = V := ⟨_, rfl⟩
  have zV : V.heap.size = w.heap.size + 1 := by rw [← eV]; simp
  have hbV : Below w.heap.size w V := by rw [← eV]; exact (Below.refl _ _).alloc (Nat.le_refl _) _
  have hX : BlkV V w.heap.size 64 [.string h, .string x, .string y] := by rw [← eV]; exact BlkV.fresh _ _ _ _ rfl _ rfl
  obtain ⟨cc, W, hrun, hwy, hwb, -⟩ := made_of x V
  have d1 : V.cell? ⟨w.heap.size, 1, none⟩ = some (.string x) := hX.cell 1 _ rfl
  rw [zV] at hwy hrun
  have HAG := Lib.hid hag; have HX := Lib.hid (hX.on hwb); have HBY := Lib.hid hwy; have HB := Lib.hid (hbV.trans (hwb.mono hbV.size)); have HM := Lib.hid (And.intro hml hmg)
  have HC := Lib.hid (And.intro c1 c2); have HS := Lib.hid (And.intro hx (And.intro ho ht)); have HE := Lib.hid eV
  clear hag hX hwy hwb hbV eV eM eR eR' hsm hh hx hq ho ht hF hK c1 c2 zV hml hmg
  go_enter Tryd.func32, Tryd.ntmps32
  go_upto_region 1 with fail
  generalize hG : World.alloc w _ = G
  obtain rfl : V = G := by rw [← hG, ← HE.out]
  clear hG HE
  go_wp2_with fail
  clear hrun d1
  go_loopw [17] (ChRel w (w.heap.size + 1) (bl x) M [.string h, .string x, .string y]) (fun i _ => x.size - (intOf i).toNat)
  case atStart => exact ⟨0, Nat.zero_le _, rfl, by rw [mixK_zero]; exact HBY.out, HB.out, HX.out⟩
  case round =>
    clear HBY HB HX
    obtain ⟨k, hk, rfl, hA, hB, hX⟩ := hrel
    rw [bl_length] at hk
    obtain ⟨hxs, hos, hts⟩ := HS.out
    by_cases hlt : k < x.size
    · have h1 : (k : Int) < (x.size : Int) := by omega
      have h1k : (k : Int) < 1024 := by omega
      have hkl : k < (mixK (bl x) M k).length := by rw [mixK_length _ _ _ (by rw [bl_length]; omega) HM.out.1, bl_length]; exact hlt
      have hcell := hA.cell k hkl
      have hgk : (mixK (bl x) M k).getD k 0 = (bl x).getD k 0 := mixK_get (bl x) M k hlt HM.out.1
      rw [hgk] at hcell
      have hcl := closure_any k ((bl x).getD k 0) o t (by omega) (by omega) B D wr (by rw [hB.cell (p := ⟨B, 0, none⟩) (World.block_lt_of_cell? w _ HC.out.1)]; exact HC.out.1) (by rw [hB.cell (p := ⟨D, 0, none⟩) (World.block_lt_of_cell? w _ HC.out.2)]; exact HC.out.2)
      rw [← HM.out.2 k hlt] at hcl
      have hst := mixK_set (bl x) M k hlt HM.out.1
      obtain ⟨b, eb⟩ : ∃ b, (bl x).getD k 0 = b := ⟨_, rfl⟩
      obtain ⟨z, ez⟩ : ∃ z, M.getD k 0 = z := ⟨_, rfl⟩
      rw [eb] at hcell hcl
      rw [ez] at hcl hst
      obtain ⟨g, eg⟩ : ∃ g, w.heap.size + 1 = g := ⟨_, rfl⟩
      have hgs : w.heap.size < g := by omega
      rw [eg] at hcell hA ⊢
      have HCL := Lib.hid hcl; have HA := Lib.hid hA; have HB := Lib.hid hB; have HX := Lib.hid hX; have HST := Lib.hid hst; have HG := Lib.hid (And.intro hgs hkl)
      clear hcl hA hB hX hst eb ez hxs hos hts hkl hgs
      go_wp2_with fail
      refine HCL.out.mono ?_
      rintro e w1 ⟨rfl, hb⟩
      have hA1 := HA.out.on hb
      have e1 := hA1.cell k HG.out.2
      have y1 := hA1.free k HG.out.2
      have hA2 := hA1.set k z
      rw [HST.out] at hA2
      have hB2 := (HB.out.trans (hb.mono HB.out.size)).setCell (p := ⟨g, k, none⟩) (show w.heap.size ≤ g by have := HG.out.1; omega) (.int .u8 (z.toNat : Int))
      have hX2 := (HX.out.on hb).far ⟨g, k, none⟩ (show w.heap.size ≠ g by have := HG.out.1; omega) (.int .u8 (z.toNat : Int))
      have HA2 := Lib.hid hA2; have HB2 := Lib.hid hB2; have HX2 := Lib.hid hX2
      clear hA1 hA2 hB2 hX2 hb hcell HCL HA HB HX
      go_wp2_with fail
      exact ⟨⟨k + 1, by rw [bl_length]; omega, by simp, HA2.out, HB2.out, HX2.out⟩, by simp [intOf]; omega⟩
    · obtain rfl : k = x.size := by omega
      have hn : ¬ (x.size : Int) < (x.size : Int) := by omega
      have he : mixK (bl x) M x.size = M := mixK_all (bl x) M HM.out.1
      rw [he] at hA
      have htx := hA.text x.size cc (by rw [HM.out.1]; rfl)
      have d0 : wr.cell? ⟨w.heap.size, 0, none⟩ = some (.string h) := hX.cell 0 _ rfl
      have HA := Lib.hid (HAG.out wr hB); have HB := Lib.hid hB
      clear hA hB hX he HAG
      go_wp2_with fail
      refine HA.out.mono ?_
      rintro e w1 ⟨rfl, hb⟩
      have HB1 := Lib.hid (HB.out.trans (hb.mono HB.out.size))
      clear HA HB hb htx d0
      go_wp2_with fail
      go_ret
      exact ⟨rfl, HB1.out⟩
end Go.Proofs.YtdnjieffbgmagaaDoor
