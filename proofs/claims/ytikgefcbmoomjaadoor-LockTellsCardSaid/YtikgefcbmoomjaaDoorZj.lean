/- The texts Oa, Ob, one behind the other. -/
import Derived.Test.YtikgefcbmoomjaaDoorProg
import Derived.Test.YtikgefcbmoomjaaDoorZa
import Derived.Test.YtikgefcbmoomjaaDoorZb
import Derived.Test.YtikgefcbmoomjaaDoorZk
/- lock's smallest functions: whether a key, a text, and what is locked may be; a head's size as two bytes. -/
namespace Go.Proofs.YtikgefcbmoomjaaDoor
open Go.RowKit
set_option maxRecDepth 100000
theorem isKey_any (s : ByteArray) (w : World) :
    Calls Tryd.prog 18 #[.string s] w fun e w' => e = .returned (.bool (decide (s.size = 32))) ∧ w = w' := by
  have h : ((s.size : Int) == 32) = decide (s.size = 32) := by
    rw [Bool.eq_iff_iff, beq_iff_eq, decide_eq_true_iff]; omega
  go_enter Tryd.func18, Tryd.ntmps18
  go_wp2
  go_ret
  exact ⟨rfl, rfl⟩
theorem isText_any (s : ByteArray) (w : World) :
    Calls Tryd.prog 20 #[.string s] w fun e w' => e = .returned (.bool (decide (s.size ≤ 1024))) ∧ w = w' := by
  have h : decide ((s.size : Int) ≤ 1024) = decide (s.size ≤ 1024) := by
    rw [decide_eq_decide]; omega
  go_enter Tryd.func20, Tryd.ntmps20
  go_wp2
  go_ret
  exact ⟨rfl, rfl⟩
theorem isLocked_any (s : ByteArray) (w : World) :
    Calls Tryd.prog 27 #[.string s] w fun e w' => e = .returned (.bool (decide (32 ≤ s.size ∧ s.size ≤ 1056))) ∧ w = w' := by
  by_cases h0 : 32 ≤ s.size
  · by_cases h1 : s.size ≤ 1056
    · have l0 : (32 : Int) ≤ (s.size : Int) := by omega
      have l1 : (s.size : Int) ≤ 1056 := by omega
      have h := decide_eq_true (show 32 ≤ s.size ∧ s.size ≤ 1056 from ⟨h0, h1⟩)
      rw [h]
      clear h h0 h1
      go_enter Tryd.func27, Tryd.ntmps27
      go_wp2
      go_ret
      exact ⟨rfl, rfl⟩
    · have l0 : (32 : Int) ≤ (s.size : Int) := by omega
      have l1 : ¬ (s.size : Int) ≤ 1056 := by omega
      have h := decide_eq_false (show ¬ (32 ≤ s.size ∧ s.size ≤ 1056) from fun h => h1 h.2)
      rw [h]
      clear h h0 h1
      go_enter Tryd.func27, Tryd.ntmps27
      go_wp2
      go_ret
      exact ⟨rfl, rfl⟩
  · have l0 : ¬ (32 : Int) ≤ (s.size : Int) := by omega
    have h := decide_eq_false (show ¬ (32 ≤ s.size ∧ s.size ≤ 1056) from fun h => h0 h.1)
    rw [h]
    clear h h0
    go_enter Tryd.func27, Tryd.ntmps27
    go_wp2
    go_ret
    exact ⟨rfl, rfl⟩

/-- how many bytes a head has, as two bytes -/
def sizeL (n : Nat) : List UInt8 := [UInt8.ofNat (n / 256), UInt8.ofNat n]
theorem two_text (x y : UInt8) (u v : Int) (hu : u = (x.toNat : Int)) (hv : v = (y.toNat : Int)) (W : World) :
    (convert 42 9 (.slice (some ⟨W.heap.size, 0, none⟩) 2 2)).run Tryd.prog (W.alloc (.cells #[.int .u8 u, .int .u8 v] 5)) = .ok (.string (strL [x, y])) (W.alloc (.cells #[.int .u8 u, .int .u8 v] 5)) := by
  subst hu hv
  exact run_convert_bytes_back (P := Tryd.prog) (W.alloc (.cells #[.int .u8 (x.toNat : Int), .int .u8 (y.toNat : Int)] 5)) 42 9 5 ⟨W.heap.size, 0, none⟩ 2 [x, y] Tryd.underlying42 Tryd.underlying5 Tryd.underlying9 (fun j hj => by
    rcases j with _ | _ | j
    · simp [Addr.add]
    · simp [Addr.add]
    · exfalso; simp at hj; omega)
theorem size_hi (n : Nat) (h : n ≤ 1024) : ((n : Int) / 256) = ((UInt8.ofNat (n / 256)).toNat : Int) := by
  rw [UInt8.toNat_ofNat', Nat.mod_eq_of_lt (by omega)]; omega
theorem size_lo (n : Nat) : ((n : Int) % 256) = ((UInt8.ofNat n).toNat : Int) := by
  rw [UInt8.toNat_ofNat']; omega
set_option maxHeartbeats 400000 in
theorem sizeOf_any (s : ByteArray) (hs : s.size ≤ 1024) (w : World) :
    Calls Tryd.prog 40 #[.string s] w fun e w' => e = .returned (.string (strL (sizeL s.size))) ∧ Below w.heap.size w w' := by
  have h := two_text (UInt8.ofNat (s.size / 256)) (UInt8.ofNat s.size) _ _ (size_hi s.size hs) (size_lo s.size) w
  go_enter Tryd.func40, Tryd.ntmps40
  go_wp2_with fail
  go_ret
  exact ⟨rfl, by go_grown⟩
end Go.Proofs.YtikgefcbmoomjaaDoor

/- lock's tag of a head and of bytes, and these bytes with it. -/
namespace Go.Proofs.YtikgefcbmoomjaaDoor
open Go.RowKit Go.Sort
set_option maxRecDepth 100000
/-- the tag of a head and of bytes -/
def tagOfL (t h b : List UInt8) : List UInt8 := tagL t (sizeL h.length ++ h ++ b)
/-- bytes, and behind them the tag -/
def againL (t h b : List UInt8) : List UInt8 := b ++ tagOfL t h b
theorem tagOfL_length (t h b : List UInt8) : (tagOfL t h b).length = 32 := ofL_length _
theorem againL_length (t h b : List UInt8) : (againL t h b).length = b.length + 32 := by unfold againL; rw [List.length_append, tagOfL_length]
theorem again_inj (t h b c : List UInt8) (hc : c.length = b.length + 32) : againL t h b = c ↔ b = c.take b.length ∧ tagOfL t h b = c.drop b.length := by
  unfold againL
  constructor
  · rintro rfl
    rw [List.take_left, List.drop_left]
    exact ⟨rfl, rfl⟩
  · rintro ⟨h1, h2⟩
    rw [h2]
    conv => lhs; lhs; rw [h1]
    exact List.take_append_drop _ _
/-- texts in a row: the sums that a drawn region wants, laid in advance -/
theorem cat_ex (s h b : ByteArray) (hn : s.size + h.size + b.size ≤ 100000) : ∃ p t : ByteArray, (∀ W : World, (Op.stringOp .add s h).run Tryd.prog W = .ok (.string p) W) ∧ (∀ W : World, (Op.stringOp .add p b).run Tryd.prog W = .ok (.string t) W) ∧
    (9223372036854775807 < s.size + h.size) = False ∧ (9223372036854775807 < p.size + b.size) = False ∧ s ++ h = p ∧ p ++ b = t ∧ p.size = s.size + h.size ∧ t.size = s.size + h.size + b.size ∧ bl t = bl s ++ bl h ++ bl b := by
  have e : (s ++ h).size = s.size + h.size := ByteArray.size_append
  refine ⟨s ++ h, s ++ h ++ b, fun W => ?_, fun W => ?_, by simp; omega, by rw [e]; simp; omega, rfl, rfl, e, by rw [ByteArray.size_append, e], by rw [bl_append, bl_append]⟩
  · rw [run_string_add_sum W _ _ (by omega)]
  · rw [run_string_add_sum W _ _ (by omega)]

set_option maxHeartbeats 4000000 in
theorem tagOf_any (x y z h b : ByteArray) (hy : y.size ≤ 1000000) (hh : h.size ≤ 1024) (hb : b.size ≤ 1100) (w : World) (hF : FirstAt w) (hK : KeysAt w) :
    Calls Tryd.prog 29 #[.agg #[.string x, .string y, .string z, .string h], .string b] w fun e w' => e = .returned (.string (strL (tagOfL (bl y) (bl h) (bl b)))) ∧ Below w.heap.size w w' := by
  have hb0 : Below w.heap.size w (w.alloc (.cells #[.string x, .string y, .string z, .string h] 49)) := by go_grown
  have hc0 : (w.alloc (.cells #[.string x, .string y, .string z, .string h] 49)).heap[w.heap.size]? = some (.cells #[.string x, .string y, .string z, .string h] 49) := heap_alloc_new _ _
  have hF0 := hF.on hb0; have hK0 := hK.on hb0
  obtain ⟨W, hW⟩ : ∃ W, w.alloc (.cells #[.string x, .string y, .string z, .string h] 49) = W := ⟨_, rfl⟩
  rw [hW] at hb0 hc0 hF0 hK0
  have hs := fun (d : Nat) (os : Array Obj) => sizeOf_any h hh (grow (redrawn W d) os)
  obtain ⟨s, es⟩ : ∃ s, strL (sizeL h.size) = s := ⟨_, rfl⟩
  have hss : s.size = 2 := by rw [← es, strL_size]; rfl
  have hsb : bl s = sizeL (bl h).length := by rw [← es, bl_strL, bl_length]
  rw [es] at hs
  obtain ⟨p, t, hcat1, hcat2, hns1, hns2, -, -, hps, hts, htb⟩ := cat_ex s h b (by omega)
  have ht := fun (d : Nat) (os : Array Obj) => tagd_any y t hy (by omega) (grow (redrawn W d) os) (hF0.on (below_regrown W d os)) (hK0.on (below_regrown W d os))
  obtain ⟨S, eS⟩ : ∃ S, strL (tagL (bl y) (bl t)) = S := ⟨_, rfl⟩
  have hfin : strL (tagOfL (bl y) (bl h) (bl b)) = S := by rw [← eS, htb, hsb]; rfl
  rw [eS] at ht
  have HFIN := Lib.hid hfin; have H1 := Lib.hid hs; have H2 := Lib.hid ht; have HB0 := Lib.hid hb0
  have e1 : W.cell? ⟨w.heap.size, 1, none⟩ = some (.string y) := by rw [cell_of_row _ _ _ _ _ _ hc0]; rfl
  have e3 : W.cell? ⟨w.heap.size, 3, none⟩ = some (.string h) := by rw [cell_of_row _ _ _ _ _ _ hc0]; rfl
  have q1 := cell_regrown e1; have q3 := cell_regrown e3
  have HW := Lib.hid hW
  clear hfin hs ht hb0 hc0 hF0 hK0 hF hK es hss hsb hps hts htb eS hW e1 e3 hy hh hb
  go_enter Tryd.func29, Tryd.ntmps29
  go_upto_region 1 with fail
  rw [HW.out]
  refine wp_region_quiet_below (by kernel_rfl) (by kernel_rfl) ?_
  iterate 13 (quiet_step (first | (go_at_call 40; exact Calls.regrown_of (H1.out _ _)) | (go_at_call 39; exact Calls.regrown_of (H2.out _ _))))
  refine wpQuiet_nil ?_
  intro _ hw'
  obtain ⟨⟨dq, osq⟩, hw''⟩ := hw'
  subst hw''
  have hb := below_regrown W dq osq
  have hbb := HB0.out.trans (hb.mono HB0.out.size)
  clear q1 q3 hb H1 H2 hcat1 hcat2 hns1 hns2
  generalize grow (redrawn W dq) osq = W1 at hbb ⊢
  go_wp2_with fail
  go_ret
  exact ⟨by rw [HFIN.out]; rfl, hbb⟩

set_option maxHeartbeats 1000000 in
theorem tagged_any (x y z h b : ByteArray) (hy : y.size ≤ 1000000) (hh : h.size ≤ 1024) (hb : b.size ≤ 1100) (w : World) (hF : FirstAt w) (hK : KeysAt w) :
    Calls Tryd.prog 21 #[.agg #[.string x, .string y, .string z, .string h], .string b] w fun e w' => e = .returned (.string (strL (againL (bl y) (bl h) (bl b)))) ∧ Below w.heap.size w w' := by
  have hb0 : Below w.heap.size w (w.alloc (.cells #[.string x, .string y, .string z, .string h] 49)) := by go_grown
  have ht := tagOf_any x y z h b hy hh hb _ (hF.on hb0) (hK.on hb0)
  obtain ⟨S, eS⟩ : ∃ S, strL (tagOfL (bl y) (bl h) (bl b)) = S := ⟨_, rfl⟩
  have hSs : S.size = 32 := by rw [← eS, strL_size, tagOfL_length]
  have hfin : b ++ S = strL (againL (bl y) (bl h) (bl b)) := bl_inj (by rw [bl_append, bl_strL, ← eS, bl_strL]; rfl)
  rw [eS] at ht
  have HT := Lib.hid ht; have HFIN := Lib.hid hfin; have HB0 := Lib.hid hb0
  have hns : (9223372036854775807 < b.size + S.size) = False := by simp; omega
  have hcat : ∀ W : World, (Op.stringOp .add b S).run Tryd.prog W = .ok (.string (b ++ S)) W := fun W => by rw [run_string_add_sum W _ _ (by omega)]
  clear ht hfin hb0 eS hSs hF hK hy hh hb
  go_enter Tryd.func21, Tryd.ntmps21
  go_wp2_with fail
  refine HT.out.mono ?_
  rintro e w1 ⟨rfl, hb1⟩
  have hbb := HB0.out.trans (hb1.mono HB0.out.size)
  clear HT HB0 hb1
  go_wp2_with fail
  go_ret
  exact ⟨by rw [← HFIN.out]; rfl, hbb⟩
end Go.Proofs.YtikgefcbmoomjaaDoor
