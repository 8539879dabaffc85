/- The texts Oa, Ob, Oc, Od, Pa, Pb, one behind the other. -/
import Derived.Test.YthjlhcmdpeinpaaGreatDoorProg
import Derived.Test.YthjlhcmdpeinpaaGreatDoorBg1
import Derived.Test.YthjlhcmdpeinpaaGreatDoorBg3
import Derived.Test.YthjlhcmdpeinpaaGreatDoorBg9
import Derived.Test.YthjlhcmdpeinpaaGreatDoorGg1
import Derived.Test.YthjlhcmdpeinpaaGreatDoorBg10
import Derived.Test.YthjlhcmdpeinpaaGreatDoorBg12
import Derived.Test.YthjlhcmdpeinpaaGreatDoorFmask
import Derived.Test.YthjlhcmdpeinpaaGreatDoorRows
import Derived.Lib.BitFns
/- lock's smallest functions: whether a key, a text, and what is locked may be; a head's size as two bytes. -/
namespace Go.Proofs.YthjlhcmdpeinpaaGreatDoor
open Go.RowKit
set_option maxRecDepth 100000
theorem isKey_any (s : ByteArray) (w : World) :
    Calls Tryz.prog 107 #[.string s] w fun e w' => e = .returned (.bool (decide (s.size = 32))) ∧ w = w' := by
  have h : ((s.size : Int) == 32) = decide (s.size = 32) := by
    rw [Bool.eq_iff_iff, beq_iff_eq, decide_eq_true_iff]; omega
  go_enter Tryz.func107, Tryz.ntmps107
  go_wp2
  go_ret
  exact ⟨rfl, rfl⟩
theorem isText_any (s : ByteArray) (w : World) :
    Calls Tryz.prog 108 #[.string s] w fun e w' => e = .returned (.bool (decide (s.size ≤ 1024))) ∧ w = w' := by
  have h : decide ((s.size : Int) ≤ 1024) = decide (s.size ≤ 1024) := by
    rw [decide_eq_decide]; omega
  go_enter Tryz.func108, Tryz.ntmps108
  go_wp2
  go_ret
  exact ⟨rfl, rfl⟩
/-- how many bytes a head has, as two bytes -/
def sizeL (n : Nat) : List UInt8 := [UInt8.ofNat (n / 256), UInt8.ofNat n]
theorem two_text (x y : UInt8) (u v : Int) (hu : u = (x.toNat : Int)) (hv : v = (y.toNat : Int)) (W : World) :
    (convert 94 9 (.slice (some ⟨W.heap.size, 0, none⟩) 2 2)).run Tryz.prog (W.alloc (.cells #[.int .u8 u, .int .u8 v] 5)) = .ok (.string (strL [x, y])) (W.alloc (.cells #[.int .u8 u, .int .u8 v] 5)) := by
  subst hu hv
  exact run_convert_bytes_back (P := Tryz.prog) (W.alloc (.cells #[.int .u8 (x.toNat : Int), .int .u8 (y.toNat : Int)] 5)) 94 9 5 ⟨W.heap.size, 0, none⟩ 2 [x, y] Tryz.underlying94 Tryz.underlying5 Tryz.underlying9 (fun j hj => by
    rcases j with _ | _ | j
    · simp [Addr.add]
    · simp [Addr.add]
    · exfalso; simp at hj; omega)
theorem size_hi (n : Nat) (h : n ≤ 1024) : ((n : Int) / 256) = ((UInt8.ofNat (n / 256)).toNat : Int) := by
  rw [UInt8.toNat_ofNat', Nat.mod_eq_of_lt (by omega)]; omega
theorem size_lo (n : Nat) : ((n : Int) % 256) = ((UInt8.ofNat n).toNat : Int) := by
  rw [UInt8.toNat_ofNat']; omega
set_option maxHeartbeats 400000 in
theorem sizeOf_any (s : ByteArray) (hs : s.size ≤ 1024) (w : World) :
    Calls Tryz.prog 154 #[.string s] w fun e w' => e = .returned (.string (strL (sizeL s.size))) ∧ Below w.heap.size w w' := by
  have h := two_text (UInt8.ofNat (s.size / 256)) (UInt8.ofNat s.size) _ _ (size_hi s.size hs) (size_lo s.size) w
  go_enter Tryz.func154, Tryz.ntmps154
  go_wp2_with fail
  go_ret
  exact ⟨rfl, by go_grown⟩
end Go.Proofs.YthjlhcmdpeinpaaGreatDoor

/- lock's tag of a head and of bytes, and these bytes with it. -/
namespace Go.Proofs.YthjlhcmdpeinpaaGreatDoor
open Go.RowKit Go.Sort
set_option maxRecDepth 100000
/-- the tag of a head and of bytes -/
def tagOfL (t h b : List UInt8) : List UInt8 := tagL t (sizeL h.length ++ h ++ b)
/-- bytes, and behind them the tag -/
def againL (t h b : List UInt8) : List UInt8 := b ++ tagOfL t h b
theorem tagOfL_length (t h b : List UInt8) : (tagOfL t h b).length = 32 := ofL_length _
/-- texts in a row: the sums that a drawn region wants, laid in advance -/
theorem cat_ex (s h b : ByteArray) (hn : s.size + h.size + b.size ≤ 100000) : ∃ p t : ByteArray, (∀ W : World, (Op.stringOp .add s h).run Tryz.prog W = .ok (.string p) W) ∧ (∀ W : World, (Op.stringOp .add p b).run Tryz.prog W = .ok (.string t) W) ∧
    (9223372036854775807 < s.size + h.size) = False ∧ (9223372036854775807 < p.size + b.size) = False ∧ s ++ h = p ∧ p ++ b = t ∧ p.size = s.size + h.size ∧ t.size = s.size + h.size + b.size ∧ bl t = bl s ++ bl h ++ bl b := by
  have e : (s ++ h).size = s.size + h.size := ByteArray.size_append
  refine ⟨s ++ h, s ++ h ++ b, fun W => ?_, fun W => ?_, by simp; omega, by rw [e]; simp; omega, rfl, rfl, e, by rw [ByteArray.size_append, e], by rw [bl_append, bl_append]⟩
  · rw [run_string_add_sum W _ _ (by omega)]
  · rw [run_string_add_sum W _ _ (by omega)]

set_option maxHeartbeats 4000000 in
theorem tagOf_any (x y z h b : ByteArray) (hy : y.size ≤ 1000000) (hh : h.size ≤ 1024) (hb : b.size ≤ 1100) (w : World) (hF : FirstAt w) (hK : KeysAt w) :
    Calls Tryz.prog 122 #[.agg #[.string x, .string y, .string z, .string h], .string b] w fun e w' => e = .returned (.string (strL (tagOfL (bl y) (bl h) (bl b)))) ∧ Below w.heap.size w w' := by
  have hb0 : Below w.heap.size w (w.alloc (.cells #[.string x, .string y, .string z, .string h] 158)) := by go_grown
  have hc0 : (w.alloc (.cells #[.string x, .string y, .string z, .string h] 158)).heap[w.heap.size]? = some (.cells #[.string x, .string y, .string z, .string h] 158) := heap_alloc_new _ _
  have hF0 := hF.on hb0; have hK0 := hK.on hb0
  obtain ⟨W, hW⟩ : ∃ W, w.alloc (.cells #[.string x, .string y, .string z, .string h] 158) = W := ⟨_, rfl⟩
  rw [hW] at hb0 hc0 hF0 hK0
  have hs := fun (d : Nat) (os : Array Obj) => sizeOf_any h hh (grow (redrawn W d) os)
  obtain ⟨s, es⟩ : ∃ s, strL (sizeL h.size) = s := ⟨_, rfl⟩
  have hss : s.size = 2 := by rw [← es, strL_size]; rfl
  have hsb : bl s = sizeL (bl h).length := by rw [← es, bl_strL, bl_length]
  rw [es] at hs
  obtain ⟨p, t, hcat1, hcat2, hns1, hns2, -, -, hps, hts, htb⟩ := cat_ex s h b (by omega)
  have ht := fun (d : Nat) (os : Array Obj) => tagd_any y t hy (by omega) (grow (redrawn W d) os) (hF0.on (below_regrown W d os)) (hK0.on (below_regrown W d os))
  obtain ⟨S, eS⟩ : ∃ S, strL (tagL (bl y) (bl t)) = S := ⟨_, rfl⟩
  have hfin : strL (tagOfL (bl y) (bl h) (bl b)) = S := by rw [← eS, htb, hsb]; rfl
  rw [eS] at ht
  have HFIN := Lib.hid hfin; have H1 := Lib.hid hs; have H2 := Lib.hid ht; have HB0 := Lib.hid hb0
  have e1 : W.cell? ⟨w.heap.size, 1, none⟩ = some (.string y) := by rw [cell_of_row _ _ _ _ _ _ hc0]; rfl
  have e3 : W.cell? ⟨w.heap.size, 3, none⟩ = some (.string h) := by rw [cell_of_row _ _ _ _ _ _ hc0]; rfl
  have q1 := cell_regrown e1; have q3 := cell_regrown e3
  have HW := Lib.hid hW
  clear hfin hs ht hb0 hc0 hF0 hK0 hF hK es hss hsb hps hts htb eS hW e1 e3 hy hh hb
  go_enter Tryz.func122, Tryz.ntmps122
  go_upto_region 1 with fail
  rw [HW.out]
  refine wp_region_quiet_below (by kernel_rfl) (by kernel_rfl) ?_
  iterate 13 (quiet_step (first | (go_at_call 154; exact Calls.regrown_of (H1.out _ _)) | (go_at_call 49; exact Calls.regrown_of (H2.out _ _))))
  refine wpQuiet_nil ?_
  intro _ hw'
  obtain ⟨⟨dq, osq⟩, hw''⟩ := hw'
  subst hw''
  have hb := below_regrown W dq osq
  have hbb := HB0.out.trans (hb.mono HB0.out.size)
  clear q1 q3 hb H1 H2 hcat1 hcat2 hns1 hns2
  generalize grow (redrawn W dq) osq = W1 at hbb ⊢
  go_wp2_with fail
  go_ret
  exact ⟨by rw [HFIN.out]; rfl, hbb⟩

set_option maxHeartbeats 1000000 in
theorem tagged_any (x y z h b : ByteArray) (hy : y.size ≤ 1000000) (hh : h.size ≤ 1024) (hb : b.size ≤ 1100) (w : World) (hF : FirstAt w) (hK : KeysAt w) :
    Calls Tryz.prog 110 #[.agg #[.string x, .string y, .string z, .string h], .string b] w fun e w' => e = .returned (.string (strL (againL (bl y) (bl h) (bl b)))) ∧ Below w.heap.size w w' := by
  have hb0 : Below w.heap.size w (w.alloc (.cells #[.string x, .string y, .string z, .string h] 158)) := by go_grown
  have ht := tagOf_any x y z h b hy hh hb _ (hF.on hb0) (hK.on hb0)
  obtain ⟨S, eS⟩ : ∃ S, strL (tagOfL (bl y) (bl h) (bl b)) = S := ⟨_, rfl⟩
  have hSs : S.size = 32 := by rw [← eS, strL_size, tagOfL_length]
  have hfin : b ++ S = strL (againL (bl y) (bl h) (bl b)) := bl_inj (by rw [bl_append, bl_strL, ← eS, bl_strL]; rfl)
  rw [eS] at ht
  have HT := Lib.hid ht; have HFIN := Lib.hid hfin; have HB0 := Lib.hid hb0
  have hns : (9223372036854775807 < b.size + S.size) = False := by simp; omega
  have hcat : ∀ W : World, (Op.stringOp .add b S).run Tryz.prog W = .ok (.string (b ++ S)) W := fun W => by rw [run_string_add_sum W _ _ (by omega)]
  clear ht hfin hb0 eS hSs hF hK hy hh hb
  go_enter Tryz.func110, Tryz.ntmps110
  go_wp2_with fail
  refine HT.out.mono ?_
  rintro e w1 ⟨rfl, hb1⟩
  have hbb := HB0.out.trans (hb1.mono HB0.out.size)
  clear HT HB0 hb1
  go_wp2_with fail
  go_ret
  exact ⟨by rw [← HFIN.out]; rfl, hbb⟩
end Go.Proofs.YthjlhcmdpeinpaaGreatDoor

/- lock's keys of a message's key: the one that encrypts, the one that tags, and the nonce. -/
namespace Go.Proofs.YthjlhcmdpeinpaaGreatDoor
open Go.RowKit Go.Sort
set_option maxRecDepth 100000
def lockW : ByteArray := ⟨#[108, 111, 99, 107]⟩
/-- the key that encrypts -/
def hideL (k : List UInt8) : List UInt8 := lastT k (bl lockW) 1
/-- the key that tags -/
def tagkL (k : List UInt8) : List UInt8 := lastT k (bl lockW) 2
def nonL (k : List UInt8) : List UInt8 := (lastT k (bl lockW) 3).take 12
theorem hideL_length (k : List UInt8) : (hideL k).length = 32 := ofL_length _
theorem tagkL_length (k : List UInt8) : (tagkL k).length = 32 := ofL_length _
theorem nonL_length (k : List UInt8) : (nonL k).length = 12 := by
  unfold nonL
  rw [List.length_take, lastT, show (tagL k (lastT k (bl lockW) 2 ++ bl lockW ++ [UInt8.ofNat (2 + 1)])).length = 32 from ofL_length _]
  rfl
theorem cut12 (C D : ByteArray) (hC : C.size = 32) (hD : C.extract 0 12 = D) (W : World) : (Instr.slice 9 (.string C) none (some (.int .i64 12)) none).run Tryz.prog W = .ok (.string D) W := by
  have l1 : (12 : Int) ≤ (C.size : Int) := by omega
  clear hC
  rw [← hD]
  go_simp

set_option maxHeartbeats 4000000 in
theorem keysOf_any (k : ByteArray) (hk : k.size ≤ 1000000) (w : World) (hF : FirstAt w) (hK : KeysAt w) :
    Calls Tryz.prog 109 #[.string k] w fun e w' => e = .returned (.agg #[.string (strL (hideL (bl k))), .string (strL (tagkL (bl k))), .string (strL (nonL (bl k)))]) ∧ Below w.heap.size w w' := by
  have hb0 : Below w.heap.size w (w.alloc (.cells #[.string ⟨#[]⟩, .string ⟨#[]⟩, .string ⟨#[]⟩] 155)) := by go_grown
  have hr0 : (w.alloc (.cells #[.string ⟨#[]⟩, .string ⟨#[]⟩, .string ⟨#[]⟩] 155)).heap[w.heap.size]? = some (.cells #[.string ⟨#[]⟩, .string ⟨#[]⟩, .string ⟨#[]⟩] 155) := heap_alloc_new _ _
  have hs : Calls Tryz.prog 133 #[.string k, .string ⟨#[108, 111, 99, 107]⟩, .int .i64 3] (w.alloc (.cells #[.string ⟨#[]⟩, .string ⟨#[]⟩, .string ⟨#[]⟩] 155)) fun e w' => ∃ g cap, e = .returned (.tuple #[.slice (some ⟨g, 0, none⟩) 3 cap, .int .i64 0]) ∧ StrsAt w' (.slice (some ⟨g, 0, none⟩) 3 cap) (rowT (bl k) (bl lockW) 3) ∧ 3 ≤ cap ∧ Below (w.alloc (.cells #[.string ⟨#[]⟩, .string ⟨#[]⟩, .string ⟨#[]⟩] 155)).heap.size (w.alloc (.cells #[.string ⟨#[]⟩, .string ⟨#[]⟩, .string ⟨#[]⟩] 155)) w' :=
    split_good k lockW 3 hk (by decide) (by omega) _ (hF.on hb0) (hK.on hb0)
  have HS := Lib.hid hs; have HB0 := Lib.hid hb0; have HR0 := Lib.hid hr0
  clear hs hb0 hr0 hF hK hk
  go_enter Tryz.func109, Tryz.ntmps109
  go_wp2_with fail
  refine HS.out.mono ?_
  rintro e w1 ⟨g, cap, rfl, hl, -, hb1⟩
  have hBw := HB0.out.trans (hb1.mono HB0.out.size)
  have hr1 : w1.heap[w.heap.size]? = some (.cells #[.string ⟨#[]⟩, .string ⟨#[]⟩, .string ⟨#[]⟩] 155) := by rw [hb1.block _ (by simp)]; exact HR0.out
  obtain ⟨b, o, c, e0, hlt, hcl⟩ := hl
  obtain ⟨⟨rfl, rfl⟩, rfl⟩ : (g = b ∧ 0 = o) ∧ cap = c := by simpa [rowT] using e0
  have c0 := hcl 0 (by rw [rowT_length]; decide); have c1 := hcl 1 (by rw [rowT_length]; decide); have c2 := hcl 2 (by rw [rowT_length]; decide)
  obtain ⟨A, eA⟩ : ∃ A, strL (lastT (bl k) (bl lockW) 1) = A := ⟨_, rfl⟩
  obtain ⟨B, eB⟩ : ∃ B, strL (lastT (bl k) (bl lockW) 2) = B := ⟨_, rfl⟩
  obtain ⟨C, eC⟩ : ∃ C, strL (lastT (bl k) (bl lockW) 3) = C := ⟨_, rfl⟩
  have hrow : rowT (bl k) (bl lockW) 3 = [A, B, C] := by rw [← eA, ← eB, ← eC]; rfl
  rw [hrow] at c0 c1 c2
  replace c0 : w1.cell? ⟨g, 0, none⟩ = some (.string A) := c0
  replace c1 : w1.cell? ⟨g, 1, none⟩ = some (.string B) := c1
  replace c2 : w1.cell? ⟨g, 2, none⟩ = some (.string C) := c2
  have hCs : C.size = 32 := by rw [← eC, strL_size]; exact ofL_length _
  obtain ⟨D, eD⟩ : ∃ D, C.extract 0 12 = D := ⟨_, rfl⟩
  have hD : strL (nonL (bl k)) = D := bl_inj (by rw [← eD, bl_extract, List.drop_zero, ← eC, bl_strL, bl_strL]; rfl)
  have hsl := cut12 C D hCs eD
  have q0 := cell_regrown c0; have q1 := cell_regrown c1; have q2 := cell_regrown c2
  have HR1 := Lib.hid hr1; have HBW := Lib.hid hBw; have HD := Lib.hid hD; have HA := Lib.hid eA; have HBB := Lib.hid eB
  clear HS HB0 HR0 hb1 hBw hr1 e0 hcl hrow eA eB eC eD hD c0 c1 c2 hCs
  go_upto_region 2 with fail
  refine wp_region_last_below 11 _ (by kernel_rfl) rfl rfl rfl rfl (by kernel_rfl) (by kernel_rfl) ?_
  simp only [List.take_succ_cons, List.take_zero]
  iterate 11 (quiet_step (fail))
  refine wpQuiet_nil ?_
  intro _ hw'
  obtain ⟨⟨dq, osq⟩, hw''⟩ := hw'
  subst hw''
  have hb := below_regrown w1 dq osq
  have hR : w.heap.size < w1.heap.size := (Array.getElem?_eq_some_iff.1 HR1.out).1
  have hBW := HBW.out.trans (hb.mono HBW.out.size)
  have hr2 : (grow (redrawn w1 dq) osq).heap[w.heap.size]? = some (.cells #[.string ⟨#[]⟩, .string ⟨#[]⟩, .string ⟨#[]⟩] 155) := by rw [hb.block _ hR]; exact HR1.out
  clear q0 q1 q2 hb hR HR1 HBW hsl hlt
  generalize grow (redrawn w1 dq) osq = W1 at hBW hr2 ⊢
  have r0 : W1.cell? ⟨w.heap.size, 0, none⟩ = some (.string ⟨#[]⟩) := by rw [cell_of_row _ _ _ _ _ _ hr2]; rfl
  have r1 : W1.cell? ⟨w.heap.size, 1, none⟩ = some (.string ⟨#[]⟩) := by rw [cell_of_row _ _ _ _ _ _ hr2]; rfl
  have r2 : W1.cell? ⟨w.heap.size, 2, none⟩ = some (.string ⟨#[]⟩) := by rw [cell_of_row _ _ _ _ _ _ hr2]; rfl
  have f0 := frozen_of_row W1 w.heap.size 0 _ _ hr2
  have f1 := frozen_of_row W1 w.heap.size 1 _ _ hr2
  have f2 := frozen_of_row W1 w.heap.size 2 _ _ hr2
  have hS := set3 ⟨r0, r1, r2⟩ (.string A) (.string B) (.string D)
  have hBS := below3 hBW (Nat.le_refl _) (.string A) (.string B) (.string D)
  have HSS := Lib.hid hS; have HBS := Lib.hid hBS
  clear hS hBS hr2 hBW
  go_wp2_with fail
  clear r0 r1 r2 f0 f1 f2
  generalize World.setCell (World.setCell (World.setCell W1 _ _) _ _) _ _ = V at HSS HBS ⊢
  obtain ⟨s0, s1, s2⟩ := HSS.out
  refine bodyPost_ret (v := .agg #[.string A, .string B, .string D]) (by simp [results, Tryz.results109, go_sem, s0, s1, s2]) rfl ⟨?_, HBS.out⟩
  unfold hideL tagkL
  rw [HA.out, HBB.out, HD.out]
end Go.Proofs.YthjlhcmdpeinpaaGreatDoor

/- The contracts of lock's Keys, Lock, Again and Open. -/
namespace Go.Proofs.YthjlhcmdpeinpaaGreatDoor
open Go.RowKit Go.Sort
set_option maxRecDepth 100000
set_option maxHeartbeats 1000000 in
theorem turned_any (x y z s : ByteArray) (hx : x.size = 32) (hz : z.size = 12) (hs : s.size ≤ 4096) (w : World) :
    Calls Tryz.prog 111 #[.agg #[.string x, .string y, .string z], .string s] w fun e w' => e = .returned (.string (strL (xorC (bl x) (bl z) (bl s)))) ∧ Below w.heap.size w w' := by
  have hX := Xor_any x z s hx hz hs
  have hb0 : Below w.heap.size w (w.alloc (.cells #[.string x, .string y, .string z] 155)) := by go_grown
  have HX := Lib.hid hX; have HB0 := Lib.hid hb0
  clear hX hb0 hx hz hs
  go_enter Tryz.func111, Tryz.ntmps111
  go_wp2_with fail
  refine (HX.out _).mono ?_
  rintro e w1 ⟨rfl, hb1⟩
  have hbb := HB0.out.trans (hb1.mono HB0.out.size)
  clear HX HB0 hb1
  go_wp2_with fail
  go_ret
  exact ⟨rfl, hbb⟩
/-- a text locked -/
def lockL (k h x : List UInt8) : List UInt8 := againL (tagkL k) h (xorC (hideL k) (nonL k) x)
set_option maxHeartbeats 4000000 in
theorem Lock_good (k h x : ByteArray) (hk : k.size = 32) (hh : h.size ≤ 1024) (hx : x.size ≤ 1024) (w : World) (hF : FirstAt w) (hK : KeysAt w) :
    Calls Tryz.prog 69 #[.string k, .string h, .string x] w fun e w' => e = .returned (.tuple #[.string (strL (lockL (bl k) (bl h) (bl x))), .int .i64 0]) ∧ Below w.heap.size w w' := by
  have h1 := isKey_any k; have h2 := isText_any h; have h3 := isText_any x
  rw [decide_eq_true hk] at h1
  rw [decide_eq_true hh] at h2
  rw [decide_eq_true hx] at h3
  have H1 := Lib.hid h1; have H2 := Lib.hid h2; have H3 := Lib.hid h3
  obtain ⟨A, eA⟩ : ∃ A, strL (hideL (bl k)) = A := ⟨_, rfl⟩
  obtain ⟨B, eB⟩ : ∃ B, strL (tagkL (bl k)) = B := ⟨_, rfl⟩
  obtain ⟨D, eD⟩ : ∃ D, strL (nonL (bl k)) = D := ⟨_, rfl⟩
  have lA : A.size = 32 := by rw [← eA, strL_size, hideL_length]
  have lB : B.size = 32 := by rw [← eB, strL_size, tagkL_length]
  have lD : D.size = 12 := by rw [← eD, strL_size, nonL_length]
  have bA : hideL (bl k) = bl A := by rw [← eA, bl_strL]
  have bB : tagkL (bl k) = bl B := by rw [← eB, bl_strL]
  have bD : nonL (bl k) = bl D := by rw [← eD, bl_strL]
  have hko := keysOf_any k (by omega) w hF hK
  rw [eA, eB, eD] at hko
  obtain ⟨X, eX⟩ : ∃ X, strL (xorC (bl A) (bl D) (bl x)) = X := ⟨_, rfl⟩
  have hXs : X.size = x.size := by rw [← eX, strL_size, xorC_length]; rfl
  have hfin : strL (lockL (bl k) (bl h) (bl x)) = strL (againL (bl B) (bl h) (bl X)) := by unfold lockL; rw [bA, bB, bD, ← eX, bl_strL]
  have htu := fun W => turned_any A B D x lA lD (by omega) W
  rw [eX] at htu
  have htg := fun W p q => tagged_any A B D h X (by omega) hh (by omega) W p q
  rw [hfin]
  obtain ⟨S, eS⟩ : ∃ S, strL (againL (bl B) (bl h) (bl X)) = S := ⟨_, rfl⟩
  rw [eS] at htg ⊢
  have HKO := Lib.hid hko; have HTU := Lib.hid htu; have HTG := Lib.hid htg; have HF := Lib.hid hF; have HK := Lib.hid hK
  clear h1 h2 h3 hko htu htg hfin hF hK hk hh hx eA eB eD eX eS lA lB lD bA bB bD hXs
  go_enter Tryz.func69, Tryz.ntmps69
  go_wp2_with (first | (go_at_call 107; with_reducible refine (H1.out _).mono ?_; rintro e w' ⟨rfl, rfl⟩) | (go_at_call_of 108 (Value.string h); with_reducible refine (H2.out _).mono ?_; rintro e w' ⟨rfl, rfl⟩) | (go_at_call 108; with_reducible refine (H3.out _).mono ?_; rintro e w' ⟨rfl, rfl⟩))
  refine HKO.out.mono ?_
  rintro e w1 ⟨rfl, hb1⟩
  have hb2 : Below w.heap.size w (w1.alloc (.cells #[.string A, .string B, .string D, .string h] 158)) := hb1.alloc hb1.size _
  have hc : (w1.alloc (.cells #[.string A, .string B, .string D, .string h] 158)).heap[w1.heap.size]? = some (.cells #[.string A, .string B, .string D, .string h] 158) := heap_alloc_new _ _
  clear hb1 HKO H1 H2 H3
  go_upto_region 4 with fail
  generalize World.alloc w1 _ = W at hb2 hc ⊢
  have e0 : W.cell? ⟨w1.heap.size, 0, none⟩ = some (.string A) := by rw [cell_of_row _ _ _ _ _ _ hc]; rfl
  have e1 : W.cell? ⟨w1.heap.size, 1, none⟩ = some (.string B) := by rw [cell_of_row _ _ _ _ _ _ hc]; rfl
  have e2 : W.cell? ⟨w1.heap.size, 2, none⟩ = some (.string D) := by rw [cell_of_row _ _ _ _ _ _ hc]; rfl
  have e3 : W.cell? ⟨w1.heap.size, 3, none⟩ = some (.string h) := by rw [cell_of_row _ _ _ _ _ _ hc]; rfl
  have q0 := cell_regrown e0; have q1 := cell_regrown e1; have q2 := cell_regrown e2; have q3 := cell_regrown e3
  have hFW := HF.out.on hb2; have hKW := HK.out.on hb2
  have htg2 := fun (d : Nat) (os : Array Obj) => HTG.out (grow (redrawn W d) os) (hFW.on (below_regrown W d os)) (hKW.on (below_regrown W d os))
  have HTG2 := Lib.hid htg2; have HB2 := Lib.hid hb2
  clear e0 e1 e2 e3 hc htg2 hFW hKW HTG hb2 HF HK
  refine wp_region_quiet_below (by kernel_rfl) (by kernel_rfl) ?_
  iterate 8 (quiet_step (first | (go_at_call 111; exact Calls.regrown_of (HTU.out _)) | (go_at_call 110; exact Calls.regrown_of (HTG2.out _ _))))
  refine wpQuiet_nil ?_
  intro _ hw'
  obtain ⟨⟨dq, osq⟩, hw''⟩ := hw'
  subst hw''
  have hb := below_regrown W dq osq
  have hbb := HB2.out.trans (hb.mono HB2.out.size)
  clear q0 q1 q2 q3 hb HTG2 HTU HB2
  generalize grow (redrawn W dq) osq = W1 at hbb ⊢
  go_wp2_with fail
  go_ret2
  exact ⟨rfl, hbb⟩
end Go.Proofs.YthjlhcmdpeinpaaGreatDoor

/- Records as bytes, in plain mathematics: a number's bytes, what stands at a place, and that what is packed is unpacked as it was. -/
namespace Go.Proofs.YthjlhcmdpeinpaaGreatDoor
set_option maxRecDepth 100000
theorem revRec {α : Type} {M : List α → Prop} (h0 : M []) (h1 : ∀ l a, M l → M (l ++ [a])) (l : List α) : M l := by
  have h : ∀ r : List α, M r.reverse := fun r => by
    induction r with
    | nil => exact h0
    | cons a r ih => rw [List.reverse_cons]; exact h1 _ _ ih
  have := h l.reverse
  rwa [List.reverse_reverse] at this
/-- a number's bytes without those that are 0 ahead, the highest first -/
def digL (n : Nat) : List UInt8 := if _h : n = 0 then [] else digL (n / 256) ++ [UInt8.ofNat (n % 256)]
termination_by n
decreasing_by omega
def valL (l : List UInt8) : Nat := l.foldl (fun a d => 256 * a + d.toNat) 0
def numB (n : Nat) : List UInt8 := UInt8.ofNat (digL n).length :: digL n

theorem digL_zero : digL 0 = [] := by rw [digL]; simp
theorem digL_pos (n : Nat) (h : n ≠ 0) : digL n = digL (n / 256) ++ [UInt8.ofNat (n % 256)] := by
  rw [digL, dif_neg h]
theorem valL_snoc (l : List UInt8) (d : UInt8) : valL (l ++ [d]) = 256 * valL l + d.toNat := by
  unfold valL; rw [List.foldl_append]; rfl
theorem ofNat_mod (n : Nat) : (UInt8.ofNat (n % 256)).toNat = n % 256 := by
  rw [UInt8.toNat_ofNat']; omega
theorem valL_digL (n : Nat) : valL (digL n) = n := by
  induction n using Nat.strongRecOn with
  | _ n ih =>
    by_cases h : n = 0
    · subst h; rw [digL_zero]; rfl
    · rw [digL_pos n h, valL_snoc, ih (n / 256) (by omega), ofNat_mod]; omega
theorem digL_len_le (k n : Nat) (h : n < 256 ^ k) : (digL n).length ≤ k := by
  induction k generalizing n with
  | zero => have : n = 0 := by simpa using h
            subst this; rw [digL_zero]; simp
  | succ k ih =>
    by_cases h0 : n = 0
    · subst h0; rw [digL_zero]; simp
    · rw [digL_pos n h0, List.length_append]
      have := ih (n / 256) (by rw [Nat.pow_succ] at h; omega)
      simp; omega
theorem valL_lt (l : List UInt8) : valL l < 256 ^ l.length := by
  induction l using revRec with
  | h0 => simp [valL]
  | h1 l d ih =>
    rw [valL_snoc, List.length_append, List.length_singleton, Nat.pow_succ]
    have := d.toNat_lt
    omega
theorem digL_lt (n : Nat) : n < 256 ^ (digL n).length := by
  have := valL_lt (digL n); rwa [valL_digL] at this
theorem pow256_8 : (256 : Nat) ^ 8 = 18446744073709551616 := by decide
theorem digL_len8 (n : Nat) (h : n < 18446744073709551616) : (digL n).length ≤ 8 := digL_len_le 8 n (by rw [pow256_8]; exact h)
/-- how many bytes a number has, told by how many bits -/
theorem digL_len_bits (n L : Nat) (h1 : n < 2 ^ L) (h2 : L = 0 ∨ 2 ^ (L - 1) ≤ n) : (digL n).length = (L + 7) / 8 := by
  have hp : ∀ k, (256 : Nat) ^ k = 2 ^ (8 * k) := fun k => by rw [show (256 : Nat) = 2 ^ 8 from rfl, ← Nat.pow_mul]
  apply Nat.le_antisymm
  · apply digL_len_le
    rw [hp]
    exact Nat.lt_of_lt_of_le h1 (Nat.pow_le_pow_right (by omega) (by omega))
  · rcases h2 with h2 | h2
    · subst h2; simp
    · by_cases hL : L = 0
      · subst hL; simp
      · rcases Nat.lt_or_ge (digL n).length ((L + 7) / 8) with hlt | hge
        · exfalso
          have := digL_lt n
          rw [hp] at this
          have h3 : 2 ^ (8 * (digL n).length) ≤ 2 ^ (L - 1) := Nat.pow_le_pow_right (by omega) (by omega)
          omega
        · exact hge
/-- a number's byte at a place -/
theorem digL_get (n i : Nat) (h : i < (digL n).length) : (digL n).getD i 0 = UInt8.ofNat (n / 256 ^ ((digL n).length - 1 - i) % 256) := by
  induction n using Nat.strongRecOn generalizing i with
  | _ n ih =>
    by_cases h0 : n = 0
    · subst h0; rw [digL_zero] at h; simp at h
    · have e := digL_pos n h0
      have el : (digL n).length = (digL (n / 256)).length + 1 := by rw [e]; simp
      rw [el] at h ⊢
      rw [e]
      by_cases hi : i < (digL (n / 256)).length
      · rw [show (digL (n / 256) ++ [UInt8.ofNat (n % 256)]).getD i 0 = (digL (n / 256)).getD i 0 by simp [List.getD, List.getElem?_append_left hi], ih (n / 256) (by omega) i hi, Nat.div_div_eq_div_mul, ← Nat.pow_succ']
        rw [show (digL (n / 256)).length + 1 - 1 - i = ((digL (n / 256)).length - 1 - i).succ by omega]
      · obtain rfl : i = (digL (n / 256)).length := by omega
        rw [show (digL (n / 256)).length + 1 - 1 - (digL (n / 256)).length = 0 by omega]
        simp

theorem numB_length (n : Nat) : (numB n).length = 1 + (digL n).length := by unfold numB; simp; omega
/-- a part -/
structure Pt where
  text : Bool
  n : Nat
  s : ByteArray
def partB (p : Pt) : List UInt8 := if p.text then numB p.s.size ++ bl p.s else numB p.n
def packL (l : List Pt) : List UInt8 := l.flatMap partB
def longP (p : Pt) : Bool := p.text && decide (1024 < p.s.size)
def longL (l : List Pt) : Bool := l.any longP
theorem packL_append (a b : List Pt) : packL (a ++ b) = packL a ++ packL b := List.flatMap_append
theorem packL_one (p : Pt) : packL [p] = partB p := List.flatMap_singleton ..
theorem longL_append (a b : List Pt) : longL (a ++ b) = (longL a || longL b) := List.any_append

/-- parts that are told so far, and the place -/
abbrev St := List Pt × Nat
/-- the parts so far are those that the bytes up to the place tell -/
structure Told (s : List UInt8) (st : St) : Prop where
  le : st.2 ≤ s.length
  pack : packL st.1 = s.take st.2
  long : longL st.1 = false
  num : ∀ p ∈ st.1, p.n < 18446744073709551616
theorem Told.nil (s : List UInt8) : Told s ([], 0) := ⟨by simp, by simp [packL], rfl, by simp⟩
end Go.Proofs.YthjlhcmdpeinpaaGreatDoor

/- The contract of bits.Len64: how many bits a number has. -/
namespace Go.Proofs.YthjlhcmdpeinpaaGreatDoor
open Go.RowKit
set_option maxRecDepth 100000
theorem len8_fin : ∀ n : Fin 256, ∃ l : Fin 9, Lib.len8 (n.val : Int) = (l.val : Int) ∧ n.val < 2 ^ l.val ∧ (l.val = 0 ∧ n.val = 0 ∨ 0 < l.val ∧ 2 ^ (l.val - 1) ≤ n.val) := by decide +kernel
theorem len8_bits (x k : Nat) (h : x / 2 ^ k < 256) (hk : k = 0 ∨ 2 ^ k ≤ x) : ∃ l : Nat, Lib.len8 ((x / 2 ^ k : Nat) : Int) = (l : Int) ∧ l ≤ 8 ∧ x < 2 ^ (l + k) ∧ (l + k = 0 ∨ 2 ^ (l + k - 1) ≤ x) := by
  obtain ⟨l, h1, h2, h3⟩ := len8_fin ⟨x / 2 ^ k, h⟩
  have hp := Nat.two_pow_pos k
  refine ⟨l.val, h1, by omega, ?_, ?_⟩
  · rw [Nat.pow_add]
    exact (Nat.div_lt_iff_lt_mul hp).1 h2
  · rcases h3 with ⟨h4, h5⟩ | ⟨h4, h5⟩
    · rcases hk with rfl | hk
      · left; omega
      · exfalso
        have : 1 ≤ x / 2 ^ k := (Nat.le_div_iff_mul_le hp).2 (by omega)
        simp only at h5
        omega
    · right
      rw [show l.val + k - 1 = l.val - 1 + k by omega, Nat.pow_add]
      exact (Nat.le_div_iff_mul_le hp).1 h5
theorem ret_i64 {a b : Int} (h : a = b) : Ending.returned (.int .i64 a) = .returned (.int .i64 b) := by rw [h]
/-- what the table tells of the byte that is left -/
theorem len_leaf (x k z : Nat) (ez : x / 2 ^ k = z) (hz : z < 256) (hk : k = 0 ∨ 2 ^ k ≤ x) (hk2 : k ≤ 56) : ∃ l : Nat,
    (∀ W : World, (Instr.index 9 (.string Lib.len8tab) (.int .u8 (z : Int))).run Tryz.prog W = .ok (.int .u8 (l : Int)) W) ∧ l ≤ 8 ∧
    wrap64 ((k : Int) + wrap64 (l : Int)) = ((l + k : Nat) : Int) ∧ x < 2 ^ (l + k) ∧ (l + k = 0 ∨ 2 ^ (l + k - 1) ≤ x) ∧ l + k ≤ 64 := by
  obtain ⟨l, h1, h2, h3, h4⟩ := len8_bits x k (by omega) hk
  rw [ez] at h1
  have e1 : wrap64 (l : Int) = l := by unfold wrap64; omega
  refine ⟨l, fun W => ?_, h2, ?_, h3, h4, by omega⟩
  · rw [Lib.run_index_len8tab (P := Tryz.prog) W 9 .u8 (z : Int) Tryz.underlying9 (by omega) (by omega), h1]
  · rw [e1]; unfold wrap64; omega
set_option maxHeartbeats 4000000 in
theorem Len64_any (x : Nat) (hx : x < 18446744073709551616) (w : World) :
    Calls Tryz.prog 198 #[.int .u64 (x : Int)] w fun e w' => ∃ L : Nat, e = .returned (.int .i64 (L : Int)) ∧ w = w' ∧ x < 2 ^ L ∧ (L = 0 ∨ 2 ^ (L - 1) ≤ x) ∧ L ≤ 64 := by
  by_cases c1 : (4294967296 : Int) ≤ (x : Int)
  · have k1 : (x : Int) / 4294967296 < 4294967296 := by omega
    by_cases c2 : (65536 : Int) ≤ (x : Int) / 4294967296
    · have k2 : (x : Int) / 4294967296 / 65536 < 65536 := by omega
      by_cases c3 : (256 : Int) ≤ (x : Int) / 4294967296 / 65536
      · have dy1 : (4294967296 : Int) ≤ (x : Int) := by omega
        obtain ⟨y1, ey1⟩ : ∃ y1 : Nat, (x : Int) / 4294967296 = (y1 : Int) := ⟨x / 4294967296, by omega⟩
        have dy2 : (65536 : Int) ≤ (y1 : Int) := by omega
        obtain ⟨y2, ey2⟩ : ∃ y2 : Nat, (y1 : Int) / 65536 = (y2 : Int) := ⟨y1 / 65536, by omega⟩
        have dy3 : (256 : Int) ≤ (y2 : Int) := by omega
        obtain ⟨y3, ey3⟩ : ∃ y3 : Nat, (y2 : Int) / 256 = (y3 : Int) := ⟨y2 / 256, by omega⟩
        have hz : (y3 : Int) < 256 := by omega
        obtain ⟨l, hix, hl, hw, h1, h2, h3⟩ := len_leaf x 56 y3 (by omega) (by omega) (by omega) (by omega)
        clear c1 c2 c3 k1 k2
        have HF := Lib.hid (And.intro hw (And.intro h1 (And.intro h2 h3)))
        clear hw h1 h2 h3
        go_enter Tryz.func198, Tryz.ntmps198
        go_upto_region 10 with fail
        generalize hT : ByteArray.mk _ = T
        obtain rfl : Lib.len8tab = T := by subst hT; kernel_rfl
        clear hT
        go_wp2_with fail
        go_ret
        obtain ⟨hw, h1, h2, h3⟩ := HF.out
        exact ⟨_, ret_i64 (by first | exact hw | omega), rfl, h1, h2, h3⟩
      · have dy1 : (4294967296 : Int) ≤ (x : Int) := by omega
        obtain ⟨y1, ey1⟩ : ∃ y1 : Nat, (x : Int) / 4294967296 = (y1 : Int) := ⟨x / 4294967296, by omega⟩
        have dy2 : (65536 : Int) ≤ (y1 : Int) := by omega
        obtain ⟨y2, ey2⟩ : ∃ y2 : Nat, (y1 : Int) / 65536 = (y2 : Int) := ⟨y1 / 65536, by omega⟩
        have dy3 : ¬ (256 : Int) ≤ (y2 : Int) := by omega
        have hz : (y2 : Int) < 256 := by omega
        obtain ⟨l, hix, hl, hw, h1, h2, h3⟩ := len_leaf x 48 y2 (by omega) (by omega) (by omega) (by omega)
        clear c1 c2 c3 k1 k2
        have HF := Lib.hid (And.intro hw (And.intro h1 (And.intro h2 h3)))
        clear hw h1 h2 h3
        go_enter Tryz.func198, Tryz.ntmps198
        go_upto_region 10 with fail
        generalize hT : ByteArray.mk _ = T
        obtain rfl : Lib.len8tab = T := by subst hT; kernel_rfl
        clear hT
        go_wp2_with fail
        go_ret
        obtain ⟨hw, h1, h2, h3⟩ := HF.out
        exact ⟨_, ret_i64 (by first | exact hw | omega), rfl, h1, h2, h3⟩
    · have k2 : (x : Int) / 4294967296 < 65536 := by omega
      by_cases c3 : (256 : Int) ≤ (x : Int) / 4294967296
      · have dy1 : (4294967296 : Int) ≤ (x : Int) := by omega
        obtain ⟨y1, ey1⟩ : ∃ y1 : Nat, (x : Int) / 4294967296 = (y1 : Int) := ⟨x / 4294967296, by omega⟩
        have dy2 : ¬ (65536 : Int) ≤ (y1 : Int) := by omega
        have dy3 : (256 : Int) ≤ (y1 : Int) := by omega
        obtain ⟨y3, ey3⟩ : ∃ y3 : Nat, (y1 : Int) / 256 = (y3 : Int) := ⟨y1 / 256, by omega⟩
        have hz : (y3 : Int) < 256 := by omega
        obtain ⟨l, hix, hl, hw, h1, h2, h3⟩ := len_leaf x 40 y3 (by omega) (by omega) (by omega) (by omega)
        clear c1 c2 c3 k1 k2
        have HF := Lib.hid (And.intro hw (And.intro h1 (And.intro h2 h3)))
        clear hw h1 h2 h3
        go_enter Tryz.func198, Tryz.ntmps198
        go_upto_region 10 with fail
        generalize hT : ByteArray.mk _ = T
        obtain rfl : Lib.len8tab = T := by subst hT; kernel_rfl
        clear hT
        go_wp2_with fail
        go_ret
        obtain ⟨hw, h1, h2, h3⟩ := HF.out
        exact ⟨_, ret_i64 (by first | exact hw | omega), rfl, h1, h2, h3⟩
      · have dy1 : (4294967296 : Int) ≤ (x : Int) := by omega
        obtain ⟨y1, ey1⟩ : ∃ y1 : Nat, (x : Int) / 4294967296 = (y1 : Int) := ⟨x / 4294967296, by omega⟩
        have dy2 : ¬ (65536 : Int) ≤ (y1 : Int) := by omega
        have dy3 : ¬ (256 : Int) ≤ (y1 : Int) := by omega
        have hz : (y1 : Int) < 256 := by omega
        obtain ⟨l, hix, hl, hw, h1, h2, h3⟩ := len_leaf x 32 y1 (by omega) (by omega) (by omega) (by omega)
        clear c1 c2 c3 k1 k2
        have HF := Lib.hid (And.intro hw (And.intro h1 (And.intro h2 h3)))
        clear hw h1 h2 h3
        go_enter Tryz.func198, Tryz.ntmps198
        go_upto_region 10 with fail
        generalize hT : ByteArray.mk _ = T
        obtain rfl : Lib.len8tab = T := by subst hT; kernel_rfl
        clear hT
        go_wp2_with fail
        go_ret
        obtain ⟨hw, h1, h2, h3⟩ := HF.out
        exact ⟨_, ret_i64 (by first | exact hw | omega), rfl, h1, h2, h3⟩
  · have k1 : (x : Int) < 4294967296 := by omega
    by_cases c2 : (65536 : Int) ≤ (x : Int)
    · have k2 : (x : Int) / 65536 < 65536 := by omega
      by_cases c3 : (256 : Int) ≤ (x : Int) / 65536
      · have dy1 : ¬ (4294967296 : Int) ≤ (x : Int) := by omega
        have dy2 : (65536 : Int) ≤ (x : Int) := by omega
        obtain ⟨y2, ey2⟩ : ∃ y2 : Nat, (x : Int) / 65536 = (y2 : Int) := ⟨x / 65536, by omega⟩
        have dy3 : (256 : Int) ≤ (y2 : Int) := by omega
        obtain ⟨y3, ey3⟩ : ∃ y3 : Nat, (y2 : Int) / 256 = (y3 : Int) := ⟨y2 / 256, by omega⟩
        have hz : (y3 : Int) < 256 := by omega
        obtain ⟨l, hix, hl, hw, h1, h2, h3⟩ := len_leaf x 24 y3 (by omega) (by omega) (by omega) (by omega)
        clear c1 c2 c3 k1 k2
        have HF := Lib.hid (And.intro hw (And.intro h1 (And.intro h2 h3)))
        clear hw h1 h2 h3
        go_enter Tryz.func198, Tryz.ntmps198
        go_upto_region 10 with fail
        generalize hT : ByteArray.mk _ = T
        obtain rfl : Lib.len8tab = T := by subst hT; kernel_rfl
        clear hT
        go_wp2_with fail
        go_ret
        obtain ⟨hw, h1, h2, h3⟩ := HF.out
        exact ⟨_, ret_i64 (by first | exact hw | omega), rfl, h1, h2, h3⟩
      · have dy1 : ¬ (4294967296 : Int) ≤ (x : Int) := by omega
        have dy2 : (65536 : Int) ≤ (x : Int) := by omega
        obtain ⟨y2, ey2⟩ : ∃ y2 : Nat, (x : Int) / 65536 = (y2 : Int) := ⟨x / 65536, by omega⟩
        have dy3 : ¬ (256 : Int) ≤ (y2 : Int) := by omega
        have hz : (y2 : Int) < 256 := by omega
        obtain ⟨l, hix, hl, hw, h1, h2, h3⟩ := len_leaf x 16 y2 (by omega) (by omega) (by omega) (by omega)
        clear c1 c2 c3 k1 k2
        have HF := Lib.hid (And.intro hw (And.intro h1 (And.intro h2 h3)))
        clear hw h1 h2 h3
        go_enter Tryz.func198, Tryz.ntmps198
        go_upto_region 10 with fail
        generalize hT : ByteArray.mk _ = T
        obtain rfl : Lib.len8tab = T := by subst hT; kernel_rfl
        clear hT
        go_wp2_with fail
        go_ret
        obtain ⟨hw, h1, h2, h3⟩ := HF.out
        exact ⟨_, ret_i64 (by first | exact hw | omega), rfl, h1, h2, h3⟩
    · have k2 : (x : Int) < 65536 := by omega
      by_cases c3 : (256 : Int) ≤ (x : Int)
      · have dy1 : ¬ (4294967296 : Int) ≤ (x : Int) := by omega
        have dy2 : ¬ (65536 : Int) ≤ (x : Int) := by omega
        have dy3 : (256 : Int) ≤ (x : Int) := by omega
        obtain ⟨y3, ey3⟩ : ∃ y3 : Nat, (x : Int) / 256 = (y3 : Int) := ⟨x / 256, by omega⟩
        have hz : (y3 : Int) < 256 := by omega
        obtain ⟨l, hix, hl, hw, h1, h2, h3⟩ := len_leaf x 8 y3 (by omega) (by omega) (by omega) (by omega)
        clear c1 c2 c3 k1 k2
        have HF := Lib.hid (And.intro hw (And.intro h1 (And.intro h2 h3)))
        clear hw h1 h2 h3
        go_enter Tryz.func198, Tryz.ntmps198
        go_upto_region 10 with fail
        generalize hT : ByteArray.mk _ = T
        obtain rfl : Lib.len8tab = T := by subst hT; kernel_rfl
        clear hT
        go_wp2_with fail
        go_ret
        obtain ⟨hw, h1, h2, h3⟩ := HF.out
        exact ⟨_, ret_i64 (by first | exact hw | omega), rfl, h1, h2, h3⟩
      · have dy1 : ¬ (4294967296 : Int) ≤ (x : Int) := by omega
        have dy2 : ¬ (65536 : Int) ≤ (x : Int) := by omega
        have dy3 : ¬ (256 : Int) ≤ (x : Int) := by omega
        have hz : (x : Int) < 256 := by omega
        obtain ⟨l, hix, hl, hw, h1, h2, h3⟩ := len_leaf x 0 x (by omega) (by omega) (by omega) (by omega)
        clear c1 c2 c3 k1 k2
        have HF := Lib.hid (And.intro hw (And.intro h1 (And.intro h2 h3)))
        clear hw h1 h2 h3
        go_enter Tryz.func198, Tryz.ntmps198
        go_upto_region 10 with fail
        generalize hT : ByteArray.mk _ = T
        obtain rfl : Lib.len8tab = T := by subst hT; kernel_rfl
        clear hT
        go_wp2_with fail
        go_ret
        obtain ⟨hw, h1, h2, h3⟩ := HF.out
        exact ⟨_, ret_i64 (by first | exact hw | omega), rfl, h1, h2, h3⟩
end Go.Proofs.YthjlhcmdpeinpaaGreatDoor
