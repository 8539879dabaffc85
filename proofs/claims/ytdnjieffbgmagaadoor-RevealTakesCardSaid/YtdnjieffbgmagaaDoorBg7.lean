/- The texts Eroots, Ekeys, Emix, Ewrite, one behind the other. -/
import Derived.Test.YtdnjieffbgmagaaDoorBg6
import Derived.Test.YtdnjieffbgmagaaDoorBg1
import Derived.Test.YtdnjieffbgmagaaDoorBg4
import Derived.Test.YtdnjieffbgmagaaDoorBg3
/- The contracts of the reference's Roots and Numbers. -/
namespace Go.Proofs.YtdnjieffbgmagaaDoor
open Go.RowKit
theorem OwnI.grown {w w' : World} {b b' : Nat} {v v' : Value} {l : List Nat} {l' : List (BitVec 32)} {o : Obj} (h : OwnI w b v l) (h' : OwnW w b' v' l') (hg : (w.alloc o).grownBy w' v'.ownBlock) : OwnI w' b v l := by
  refine ⟨h.1, ?_⟩
  rcases h.2 with h2 | ⟨g, cap, cur, e, hb, hc, h3⟩
  · exact Or.inl h2
  · refine Or.inr ⟨g, cap, cur, e, hb, ?_, h3⟩
    have hlt := (Array.getElem?_eq_some_iff.1 hc).1
    rw [hg.block g (by simp; omega) ?_]
    · rw [((Below.refl w.heap.size w).alloc (Nat.le_refl _) o).block g hlt]; exact hc
    · intro e2
      rcases h'.2 with ⟨rfl, -⟩ | ⟨g', cap', cur', rfl, hb', hc', h3'⟩
      · simp [Value.ownBlock] at e2
      · simp [Value.ownBlock] at e2
        subst e2
        rw [hc'] at hc
        simp at hc
def rootW (p : Nat) (cube : Bool) : BitVec 32 := BitVec.ofNat 32 (rootL p cube)
theorem rootL_lt (p : Nat) (cube : Bool) : rootL p cube < 4294967296 := by unfold rootL; omega
theorem rootW_toNat (p : Nat) (cube : Bool) : (rootW p cube).toNat = rootL p cube := by
  unfold rootW
  rw [BitVec.toNat_ofNat, Nat.mod_eq_of_lt (rootL_lt p cube)]
def rootsL (K : Nat) (cube : Bool) : List (BitVec 32) := (primU K).map fun p => rootW p cube
theorem rootsL_length (K : Nat) (cube : Bool) : (rootsL K cube).length = (primU K).length := by simp [rootsL]
theorem rootsL_step (K : Nat) (cube : Bool) (j : Nat) (hj : j < (primU K).length) : (rootsL K cube).take (j + 1) = (rootsL K cube).take j ++ [rootW ((primU K).getD j 0) cube] := by
  rw [List.take_add_one]
  have h : j < (rootsL K cube).length := by rw [rootsL_length]; exact hj
  rw [List.getElem?_eq_getElem h]
  simp [rootsL, List.getD, hj]
def RootsRel (w : World) (K : Nat) (cube : Bool) (n : Nat) (vp : Value) (v i : Value) (wr : World) : Prop :=
  ∃ j g cap : Nat, j ≤ (primU K).length ∧ i = .int .i64 (j : Int) ∧ v = .slice (some ⟨g, 0, none⟩) j cap ∧ OwnW wr w.heap.size v ((rootsL K cube).take j) ∧ OwnI wr n vp (primU K) ∧ Below w.heap.size w wr

set_option maxRecDepth 100000 in
set_option maxHeartbeats 4000000 in
theorem roots_any (m K : Nat) (hm0 : 0 < m) (hm : m ≤ 1000) (hK : (primU K).length = m) (hK2 : K ≤ 1000) (cube : Bool) (w : World) :
    Calls Tryd.prog 34 #[.int .i64 (m : Int), .bool cube] w fun e w' => ∃ v, e = .returned v ∧ OwnW w' w.heap.size v (rootsL K cube) ∧ Below w.heap.size w w' := by
  have hmem := primU_get K
  have HM := Lib.hid hmem
  clear hmem
  go_enter Tryd.func34, Tryd.ntmps34
  go_wp2_with fail
  refine (primes_any m K hm hK hK2 _).mono ?_
  rintro e w1 ⟨vp, rfl, hI, hb1⟩
  have hO := (OwnW.empty w w.heap.size (Nat.le_refl _)).on hb1
  have hB : Below w.heap.size w w1 := Below.trans (by go_grown) (hb1.mono (by simp))
  obtain ⟨n1, hn1⟩ : ∃ n1, (w.alloc (.cells #[] 92)).heap.size = n1 := ⟨_, rfl⟩
  rw [hn1] at hI
  obtain ⟨gp, cp, rfl, -, -⟩ := World.ownsRow.form hI (by omega)
  have HI := Lib.hid hI; have HO := Lib.hid hO
  clear hI hO hb1 hn1
  rw [hK]
  go_wp2_with fail
  go_loopw [5, 12] (RootsRel w K cube n1 (.slice (some ⟨gp, 0, none⟩) (primU K).length cp)) (fun _ i _ => m - (intOf i).toNat)
  case atStart => exact ⟨0, _, _, by omega, rfl, rfl, HO.out, HI.out, hB⟩
  case round =>
    clear HI HO hB
    obtain ⟨j, g, cap, hj, rfl, rfl, hO, hI, hB⟩ := hrel
    have hsz := hB.size
    by_cases hlt : j < m
    · have l1 : (j : Int) < (m : Int) := by omega
      obtain ⟨gp', cp', e', hg', hc'⟩ := hI.at (by omega)
      obtain ⟨rfl, rfl⟩ : gp = gp' ∧ cp = cp' := by simpa using e'
      have c1 := hc' j (by omega)
      have hmj := HM.out j (by omega)
      have hst := rootsL_step K cube j (by omega)
      have hlen : ((rootsL K cube).take j).length = j := by rw [List.length_take, rootsL_length]; omega
      obtain ⟨p, hp⟩ : ∃ p, (primU K).getD j 0 = p := ⟨_, rfl⟩
      rw [hp] at c1 hmj hst
      have hrt := rootW_toNat p cube
      obtain ⟨x, hx⟩ : ∃ x, rootW p cube = x := ⟨_, rfl⟩
      rw [hx] at hst hrt
      obtain ⟨l, hl⟩ : ∃ l, (rootsL K cube).take j = l := ⟨_, rfl⟩
      rw [hl] at hO hst hlen
      have HO := Lib.hid hO; have HI := Lib.hid hI; have HST := Lib.hid hst; have HLEN := Lib.hid hlen
      clear hO hI hst hl hx hp hc' e'
      go_wp2_with fail
      refine (root_any p (by omega) cube _).mono ?_
      rintro e w2 ⟨rfl, hbel⟩
      rw [← hrt]
      clear hrt
      have hO2 := HO.out.on hbel.b
      have hI2 := HI.out.on hbel.b
      have hB2 : Below w.heap.size w w2 := hB.trans (hbel.b.mono hsz)
      have hs2 := hB2.size
      have HO2 := Lib.hid hO2; have HI2 := Lib.hid hI2
      clear hO2 hI2 HO HI
      go_wp2_with (at_builtin; refine append_w rfl _ _ rfl w.heap.size _ l x w2.heap.size rfl ?c0 ?c1 ?c2 ?c3 ?c4 ?_)
      case c0 => rw [← HLEN.out]; exact OwnW.alloc (by rw [HLEN.out]; exact HO2.out) _
      case c1 => rfl
      case c2 => simp
      case c3 => rw [HLEN.out]; omega
      case c4 => first | omega | (simp; omega)
      intro g' cap' w' hI3 hg'
      have hB3 := HO2.out.below hB2 hs2 hg'
      have hP3 := HI2.out.grown HO2.out hg'
      have HI3 := Lib.hid hI3; have HP3 := Lib.hid hP3
      clear hI3 hP3 hg'
      go_wp2_with fail
      all_goals (
        refine ⟨⟨j + 1, g', cap', by omega, by simp, rfl, ?_, HP3.out, hB3⟩, by simp [intOf]; omega⟩
        rw [HST.out]
        exact HI3.out)
    · have ej : j = m := by omega
      have l1 : ¬ (j : Int) < (m : Int) := by omega
      go_wp2_with fail
      go_ret
      refine ⟨_, rfl, ?_, hB⟩
      rw [List.take_of_length_le (by rw [rootsL_length]; omega)] at hO
      rw [← ej]
      exact hO

/-- the keys and the first words lie in a K -/
def KAt (w : World) (v : Value) : Prop := ∃ v0 v1, v = .agg #[v0, v1] ∧ WsAt w v0 keysL ∧ WsAt w v1 firstS.l
theorem KAt.on {w w' : World} {v : Value} (h : KAt w v) (hb : Below w.heap.size w w') : KAt w' v := by
  obtain ⟨v0, v1, rfl, h0, h1⟩ := h
  exact ⟨v0, v1, rfl, h0.on hb, h1.on hb⟩

set_option maxRecDepth 100000 in
set_option maxHeartbeats 4000000 in
theorem numbers_any (hk : rootsL 310 true = keysL) (hf : rootsL 18 false = firstS.l) (h64 : (primU 310).length = 64) (h8 : (primU 18).length = 8) (w : World) :
    Calls Tryd.prog 18 #[] w fun e w' => ∃ v, e = .returned v ∧ KAt w' v ∧ Below w.heap.size w w' := by
  have A := roots_any 64 310 (by omega) (by omega) h64 (by omega) true
  have B := roots_any 8 18 (by omega) (by omega) h8 (by omega) false
  rw [hk] at A
  rw [hf] at B
  have HA := Lib.hid A; have HB := Lib.hid B
  clear A B hk hf h64 h8
  go_enter Tryd.func18, Tryd.ntmps18
  have hR0 : (w.alloc (.cells #[.slice none 0 0, .slice none 0 0] 49)).heap[w.heap.size]? = some (.cells #[.slice none 0 0, .slice none 0 0] 49) := heap_alloc_new _ _
  have hb0 : Below w.heap.size w (w.alloc (.cells #[.slice none 0 0, .slice none 0 0] 49)) := by go_grown
  have hs0 : (w.alloc (.cells #[.slice none 0 0, .slice none 0 0] 49)).heap.size = w.heap.size + 1 := by simp
  have HR0 := Lib.hid hR0
  clear hR0
  go_wp2_with fail
  generalize World.alloc w _ = W at HR0 hb0 hs0 ⊢
  refine (HA.out _).mono ?_
  rintro e w1 ⟨v0, rfl, ho0, hb1⟩
  have hv0 := ho0.ws (by rw [keysL_length]; omega)
  have n0 := ho0.ne (by rw [keysL_length]; omega) w.heap.size (by omega)
  have hlt1 := hb1.size
  obtain ⟨b0, k0, rfl, -, -⟩ := World.ownsRow.form ho0 (by rw [keysL_length]; omega)
  clear ho0 HA
  go_wp2_with fail
  refine (HB.out _).mono ?_
  rintro e w2 ⟨v1, rfl, ho1, hb2⟩
  have hv1 := ho1.ws (by rw [S8.l_length]; omega)
  have n1 := ho1.ne (by rw [S8.l_length]; omega) w.heap.size (by omega)
  have hv0' := hv0.on hb2
  have hlt2 := hb2.size
  obtain ⟨b1, k1, rfl, -, -⟩ := World.ownsRow.form ho1 (by rw [S8.l_length]; omega)
  clear ho1 HB hv0
  have hR : w2.heap[w.heap.size]? = some (.cells #[.slice none 0 0, .slice none 0 0] 49) := by rw [hb2.block _ (by omega), hb1.block _ (by omega)]; exact HR0.out
  have d0 : w2.cell? ⟨w.heap.size, 0, none⟩ = some (.slice none 0 0) := by rw [cell_of_row _ _ _ _ _ _ hR]; rfl
  have d1 : w2.cell? ⟨w.heap.size, 1, none⟩ = some (.slice none 0 0) := by rw [cell_of_row _ _ _ _ _ _ hR]; rfl
  have f0 := frozen_of_row w2 w.heap.size 0 _ _ hR
  have f1 := frozen_of_row w2 w.heap.size 1 _ _ hR
  have hbb : Below w.heap.size w w2 := hb0.trans ((hb1.trans (hb2.mono hb1.size)).mono (by omega))
  have e0 := setCell_far (i := 1) (u := (.slice (some ⟨b1, 0, none⟩) firstS.l.length k1)) (World.cell?_setCell_same _ ⟨w.heap.size, 0, none⟩ (.slice (some ⟨b0, 0, none⟩) keysL.length k0) d0) (by omega)
  have e1 := World.cell?_setCell_same _ ⟨w.heap.size, 1, none⟩ (.slice (some ⟨b1, 0, none⟩) firstS.l.length k1) (setCell_far (i := 0) (u := (.slice (some ⟨b0, 0, none⟩) keysL.length k0)) d1 (by omega))
  have q0 := (hv0'.set w.heap.size 0 n0 (.slice (some ⟨b0, 0, none⟩) keysL.length k0)).set w.heap.size 1 n0 (.slice (some ⟨b1, 0, none⟩) firstS.l.length k1)
  have q1 := (hv1.set w.heap.size 0 n1 (.slice (some ⟨b0, 0, none⟩) keysL.length k0)).set w.heap.size 1 n1 (.slice (some ⟨b1, 0, none⟩) firstS.l.length k1)
  have hbl : Below w.heap.size w _ := (hbb.setCell (p := ⟨w.heap.size, 0, none⟩) (Nat.le_refl _) (.slice (some ⟨b0, 0, none⟩) keysL.length k0)).setCell (p := ⟨w.heap.size, 1, none⟩) (Nat.le_refl _) (.slice (some ⟨b1, 0, none⟩) firstS.l.length k1)
  have E0 := Lib.hid e0; have E1 := Lib.hid e1; have Q0 := Lib.hid q0; have Q1 := Lib.hid q1
  clear e0 e1 q0 q1 n0 n1 hv0' hv1 hR hb1 hb2 hbb hb0 HR0
  go_wp2_with fail
  have e0 := E0.out; have e1 := E1.out
  refine bodyPost_ret (v := .agg #[(.slice (some ⟨b0, 0, none⟩) keysL.length k0), (.slice (some ⟨b1, 0, none⟩) firstS.l.length k1)]) (by simp [results, Tryd.results18, go_sem, e0, e1]) rfl ⟨_, rfl, ⟨(.slice (some ⟨b0, 0, none⟩) keysL.length k0), (.slice (some ⟨b1, 0, none⟩) firstS.l.length k1), rfl, Q0.out, Q1.out⟩, hbl⟩
end Go.Proofs.YtdnjieffbgmagaaDoor

/- The keys and the first words are the roots of the first primes: by the kernel. -/
namespace Go.Proofs.YtdnjieffbgmagaaDoor
open Go.RowKit
set_option maxRecDepth 100000
theorem primes64 : primU 310 = [2, 3, 5, 7, 11, 13, 17, 19, 23, 29, 31, 37, 41, 43, 47, 53, 59, 61, 67, 71, 73, 79, 83, 89, 97, 101, 103, 107, 109, 113, 127, 131, 137, 139, 149, 151, 157, 163, 167, 173, 179, 181, 191, 193, 197, 199, 211, 223, 227, 229, 233, 239, 241, 251, 257, 263, 269, 271, 277, 281, 283, 293, 307, 311] := by decide +kernel
theorem primes8 : primU 18 = [2, 3, 5, 7, 11, 13, 17, 19] := by decide +kernel
theorem first8 : rootsL 18 false = firstS.l := by
  unfold rootsL
  rw [primes8]
  decide +kernel
theorem keys64 : rootsL 310 true = keysL := by
  unfold rootsL
  rw [primes64]
  decide +kernel
theorem numbers_all (w : World) : Calls Tryd.prog 18 #[] w fun e w' => ∃ v, e = .returned v ∧ KAt w' v ∧ Below w.heap.size w w' :=
  numbers_any keys64 first8 (by rw [primes64]; rfl) (by rw [primes8]; rfl) w
end Go.Proofs.YtdnjieffbgmagaaDoor

/- The contract of the reference's Mix. -/
namespace Go.Proofs.YtdnjieffbgmagaaDoor
open Go.RowKit
/-- a block's words, one behind the other, the first k -/
def wsK (b : List UInt8) : Nat → List (BitVec 32)
  | 0 => []
  | k + 1 => wsK b k ++ [if k < 16 then wdAt b k else nextW (wsK b k)]
theorem wsK_length (b : List UInt8) (k : Nat) : (wsK b k).length = k := by
  induction k with
  | zero => rfl
  | succ k ih => simp [wsK, ih]
theorem wsK_lo (b : List UInt8) (k : Nat) (h : k ≤ 16) : wsK b k = firstW b k := by
  induction k with
  | zero => rfl
  | succ k ih => rw [wsK, if_pos (by omega), ih (by omega)]; rfl
theorem wsK_hi (b : List UInt8) (n : Nat) : wsK b (16 + n) = extW n (firstW b 16) := by
  induction n with
  | zero => exact wsK_lo b 16 (Nat.le_refl _)
  | succ n ih =>
    have e : wsK b (16 + n + 1) = wsK b (16 + n) ++ [if 16 + n < 16 then wdAt b (16 + n) else nextW (wsK b (16 + n))] := rfl
    rw [show 16 + (n + 1) = 16 + n + 1 by omega, e, if_neg (by omega), ih]; rfl
theorem wsK_all (b : List UInt8) : wsK b 64 = sched b := wsK_hi b 48
theorem wsK_pre (b : List UInt8) (k K : Nat) (h : k ≤ K) : ∃ t, wsK b K = wsK b k ++ t := by
  induction h with
  | refl => exact ⟨[], by simp⟩
  | @step m _ ih =>
    obtain ⟨t, ht⟩ := ih
    have e : wsK b (m + 1) = wsK b m ++ [if m < 16 then wdAt b m else nextW (wsK b m)] := rfl
    exact ⟨t ++ [if m < 16 then wdAt b m else nextW (wsK b m)], by rw [e, ht]; simp⟩
theorem wsK_get (b : List UInt8) (k : Nat) (h : k < 64) (x : BitVec 32) (hx : (if k < 16 then wdAt b k else nextW (wsK b k)) = x) : (sched b).getD k 0 = x := by
  obtain ⟨t, ht⟩ := wsK_pre b (k + 1) 64 (by omega)
  have e : wsK b (k + 1) = wsK b k ++ [x] := by rw [wsK, hx]
  rw [← wsK_all, ht, e]
  simp [List.getD, wsK_length]
theorem RorAt.run {x r : BitVec 32} {n : Int} (h : RorAt x r n) (w : World) : Calls Tryd.prog 88 #[.int .u32 (x.toNat : Int), .int .u32 n] w fun e w' => e = .returned (.int .u32 (r.toNat : Int)) ∧ w = w' := h w
theorem sub_ones' (a : BitVec 32) : (4294967295 - (a.toNat : Int)) = ((~~~a).toNat : Int) := by
  rw [BitVec.toNat_not]
  have := a.isLt
  omega
theorem chE_bits' (e f g m : BitVec 32) (h : chE e f g = m) : bits .xor .u32 (bits .and .u32 (e.toNat : Int) (f.toNat : Int)) (bits .and .u32 (4294967295 - (e.toNat : Int)) (g.toNat : Int)) = (m.toNat : Int) := by
  subst h; rw [sub_ones', bits_and32, bits_and32, bits_xor32]; rfl
def MixR (n : Nat) (w1 : World) (s : S8) (x : List UInt8) (l a b c d e f g h i : Value) (wr : World) : Prop :=
  ∃ k : Nat, ∃ u : S8, ∃ G cap : Nat, k ≤ 64 ∧ i = .int .i64 (k : Int) ∧ l = .slice (some ⟨G, 0, none⟩) k cap ∧ OwnW wr n l (wsK x k) ∧ u = runS keysL (sched x) s k ∧ a = uv u.a ∧ b = uv u.b ∧ c = uv u.c ∧ d = uv u.d ∧ e = uv u.e ∧ f = uv u.f ∧ g = uv u.g ∧ h = uv u.h ∧ Below n w1 wr

set_option maxRecDepth 100000 in
set_option maxHeartbeats 8000000 in
theorem mix_any (kv v : Value) (s : S8) (x : ByteArray) (hx : x.size = 64) (w : World) (hk : KAt w kv) (hv : WsAt w v s.l) :
    Calls Tryd.prog 83 #[kv, v, .string x] w fun e w' => ∃ g, e = .returned (.slice (some ⟨g, 0, none⟩) 8 8) ∧ OwnW w' w.heap.size (.slice (some ⟨g, 0, none⟩) 8 8) (mixS s (bl x)).l ∧ Below w.heap.size w w' := by
  obtain ⟨k0, k1, rfl, hK0, -⟩ := hk
  obtain ⟨gk, ok, ck, rfl, hgk, hck⟩ := hK0
  obtain ⟨gv, ov, cv, rfl, hgv, hcv⟩ := hv
  rw [keysL_length] at hck ⊢
  rw [S8.l_length] at hcv ⊢
  have HCK := Lib.hid hck
  have c0 : w.cell? ⟨gv, ov, none⟩ = some (uv s.a) := hcv 0 (by omega)
  have c1 : w.cell? ⟨gv, ov + 1, none⟩ = some (uv s.b) := hcv 1 (by omega)
  have c2 : w.cell? ⟨gv, ov + 2, none⟩ = some (uv s.c) := hcv 2 (by omega)
  have c3 : w.cell? ⟨gv, ov + 3, none⟩ = some (uv s.d) := hcv 3 (by omega)
  have c4 : w.cell? ⟨gv, ov + 4, none⟩ = some (uv s.e) := hcv 4 (by omega)
  have c5 : w.cell? ⟨gv, ov + 5, none⟩ = some (uv s.f) := hcv 5 (by omega)
  have c6 : w.cell? ⟨gv, ov + 6, none⟩ = some (uv s.g) := hcv 6 (by omega)
  have c7 : w.cell? ⟨gv, ov + 7, none⟩ = some (uv s.h) := hcv 7 (by omega)
  have hC8 : w.cell? ⟨gv, ov, none⟩ = some (uv s.a) ∧ w.cell? ⟨gv, ov + 1, none⟩ = some (uv s.b) ∧ w.cell? ⟨gv, ov + 2, none⟩ = some (uv s.c) ∧ w.cell? ⟨gv, ov + 3, none⟩ = some (uv s.d) ∧ w.cell? ⟨gv, ov + 4, none⟩ = some (uv s.e) ∧ w.cell? ⟨gv, ov + 5, none⟩ = some (uv s.f) ∧ w.cell? ⟨gv, ov + 6, none⟩ = some (uv s.g) ∧ w.cell? ⟨gv, ov + 7, none⟩ = some (uv s.h) := ⟨c0, c1, c2, c3, c4, c5, c6, c7⟩
  have HC8 := Lib.hid hC8
  clear hck hcv hC8
  go_enter Tryd.func83, Tryd.ntmps83
  go_wp2_with fail
  have hb0 : Below w.heap.size w ((w.alloc (.cells #[.slice (some ⟨gk, ok, none⟩) 64 ck, k1] 49)).alloc (.cells #[] 92)) := by go_grown
  have hO0 : OwnW ((w.alloc (.cells #[.slice (some ⟨gk, ok, none⟩) 64 ck, k1] 49)).alloc (.cells #[] 92)) (w.heap.size + 1) (.slice (some ⟨w.heap.size + 1, 0, none⟩) 0 0) [] := by
    have := OwnW.empty (w.alloc (.cells #[.slice (some ⟨gk, ok, none⟩) 64 ck, k1] 49)) (w.heap.size + 1) (by simp)
    simpa using this
  have hk0 : ((w.alloc (.cells #[.slice (some ⟨gk, ok, none⟩) 64 ck, k1] 49)).alloc (.cells #[] 92)).cell? ⟨w.heap.size, 0, none⟩ = some (.slice (some ⟨gk, ok, none⟩) 64 ck) := by
    rw [cell_of_row _ _ _ _ _ _ (heap_alloc2_old _ _ _)]; rfl
  have hs0 : ((w.alloc (.cells #[.slice (some ⟨gk, ok, none⟩) 64 ck, k1] 49)).alloc (.cells #[] 92)).heap.size = w.heap.size + 2 := by simp
  generalize World.alloc (World.alloc w _) _ = W at hb0 hO0 hk0 hs0 ⊢
  have HO := Lib.hid hO0
  have hx' : (bl x).length = 64 := by rw [bl_length]; exact hx
  clear hO0 c0 c1 c2 c3 c4 c5 c6 c7
  go_loopw [7, 8, 9, 10, 11, 12, 13, 14, 15, 16] (MixR (w.heap.size + 1) W s (bl x)) (fun _ _ _ _ _ _ _ _ _ i _ => 64 - (intOf i).toNat)
  case atStart => exact ⟨0, s, _, _, by omega, rfl, rfl, HO.out, rfl, rfl, rfl, rfl, rfl, rfl, rfl, rfl, rfl, Below.refl _ _⟩
  case round =>
    clear HO
    obtain ⟨k, u, G, cap, hk, rfl, rfl, hO, hu, rfl, rfl, rfl, rfl, rfl, rfl, rfl, rfl, hB⟩ := hrel
    have hsz := hB.size
    by_cases hlt : k < 64
    · have h1 : (k : Int) < 64 := by omega
      obtain ⟨y, hy⟩ : ∃ y, (if k < 16 then wdAt (bl x) k else nextW (wsK (bl x) k)) = y := ⟨_, rfl⟩
      have hget := wsK_get (bl x) k hlt y hy
      have hlen := wsK_length (bl x) k
      have hstep : wsK (bl x) (k + 1) = wsK (bl x) k ++ [y] := by rw [wsK, hy]
      have hwd : Calls Tryd.prog 87 #[.slice (some ⟨G, 0, none⟩) k cap, .string x, .int .i64 (k : Int)] wr fun e w' => e = .returned (.int .u32 (y.toNat : Int)) ∧ ∃ n, w' = wr.drewN n := by
        by_cases h16 : k < 16
        · rw [if_pos h16] at hy
          rw [← hy]
          exact word_lo _ x hx k h16 wr
        · rw [if_neg h16] at hy
          rw [← hy]
          have hv := hO.ws (by omega)
          have := word_hi _ x (wsK (bl x) k) (by omega) (by omega) wr hv
          rw [hlen] at this
          exact this
      have HWD := Lib.hid hwd
      have hkey := HCK.out k hlt
      obtain ⟨key, hky⟩ : ∃ z, keysL.getD k 0 = z := ⟨_, rfl⟩
      rw [hky] at hkey
      obtain ⟨a, b', c, d, e, f, g, h⟩ := u
      obtain ⟨m1, hm1⟩ : ∃ x, bigE e = x := ⟨_, rfl⟩
      obtain ⟨m2, hm2⟩ : ∃ x, chE e f g = x := ⟨_, rfl⟩
      obtain ⟨m3, hm3⟩ : ∃ x, bigA a = x := ⟨_, rfl⟩
      obtain ⟨m4, hm4⟩ : ∃ x, majA a b' c = x := ⟨_, rfl⟩
      obtain ⟨p1, hp1⟩ : ∃ x, h + m1 = x := ⟨_, rfl⟩
      obtain ⟨p2, hp2⟩ : ∃ x, p1 + m2 = x := ⟨_, rfl⟩
      obtain ⟨p3, hp3⟩ : ∃ x, p2 + key = x := ⟨_, rfl⟩
      obtain ⟨t1, ht1⟩ : ∃ z, p3 + y = z := ⟨_, rfl⟩
      obtain ⟨t2, ht2⟩ : ∃ x, m3 + m4 = x := ⟨_, rfl⟩
      obtain ⟨a', ha'⟩ : ∃ x, t1 + t2 = x := ⟨_, rfl⟩
      obtain ⟨e', he'⟩ : ∃ x, d + t1 = x := ⟨_, rfl⟩
      have hnext : (⟨a', a, b', c, e', e, f, g⟩ : S8) = runS keysL (sched (bl x)) s (k + 1) := by
        show _ = stepS (keysL.getD k 0) ((sched (bl x)).getD k 0) (runS keysL (sched (bl x)) s k)
        rw [← hu, hky, hget, ← ha', ← he', ← ht1, ← ht2, ← hp3, ← hp2, ← hp1, ← hm1, ← hm2, ← hm3, ← hm4]
        rfl
      have X1 := bigE_bits e m1 hm1
      have X2 := chE_bits' e f g m2 hm2
      have X3 := bigA_bits a m3 hm3
      have X4 := majA_bits a b' c m4 hm4
      have E1 := add_mod32 _ _ _ hp1
      have E2 := add_mod32 _ _ _ hp2
      have E3 := add_mod32 _ _ _ hp3
      have E4 := add_mod32 _ _ _ ht1
      have E5 := add_mod32 _ _ _ ht2
      have E6 := add_mod32 _ _ _ ha'
      have E7 := add_mod32 _ _ _ he'
      have HN := Lib.hid hnext
      have HST := Lib.hid hstep; have HLEN := Lib.hid hlen; have HO := Lib.hid hO
      clear hu hky hget hm1 hm2 hm3 hm4 hp1 hp2 hp3 ht1 ht2 ha' he' hnext hstep hlen hO hwd hy
      have A1 : RorAt e (rr e 6) 6 := rorr_any e 6 (by omega) (by omega)
      have A2 : RorAt e (rr e 11) 11 := rorr_any e 11 (by omega) (by omega)
      have A3 : RorAt e (rr e 25) 25 := rorr_any e 25 (by omega) (by omega)
      have A4 : RorAt a (rr a 2) 2 := rorr_any a 2 (by omega) (by omega)
      have A5 : RorAt a (rr a 13) 13 := rorr_any a 13 (by omega) (by omega)
      have A6 : RorAt a (rr a 22) 22 := rorr_any a 22 (by omega) (by omega)
      generalize rr e 6 = r1 at A1 X1
      generalize rr e 11 = r2 at A2 X1
      generalize rr e 25 = r3 at A3 X1
      generalize rr a 2 = r4 at A4 X3
      generalize rr a 13 = r5 at A5 X3
      generalize rr a 22 = r6 at A6 X3
      have HE := Lib.hid (And.intro X1 (And.intro X2 (And.intro X3 (And.intro X4 (And.intro E1 (And.intro E2 (And.intro E3 E4)))))))
      have HE2 := Lib.hid (And.intro E5 (And.intro E6 E7))
      clear X1 X2 X3 X4 E1 E2 E3 E4 E5 E6 E7
      simp only [uv_eq]
      go_wp2_with fail
      refine HWD.out.mono ?_
      rintro e0 w2 ⟨rfl, n2, rfl⟩
      have hO2 : OwnW (wr.drewN n2) (w.heap.size + 1) (.slice (some ⟨G, 0, none⟩) k cap) (wsK (bl x) k) := HO.out
      have hB2 := below_drewN hB n2
      have hs2 : w.heap.size + 1 ≤ (wr.drewN n2).heap.size := by show w.heap.size + 1 ≤ wr.heap.size; omega
      generalize wr.drewN n2 = w2 at hO2 hB2 hs2 ⊢
      have HO2 := Lib.hid hO2
      clear hO2 HO HWD hB
      go_wp2_with (at_builtin; refine append_w rfl _ _ rfl (w.heap.size + 1) _ (wsK (bl x) k) y w2.heap.size rfl ?c0 ?c1 ?c2 ?c3 ?c4 ?_)
      case c0 => exact HO2.out.alloc _
      case c1 => rfl
      case c2 => simp
      case c3 => rw [HLEN.out]; omega
      case c4 => first | omega | (simp; omega)
      intro G' cap' w3 hO3 hg3
      have hB3 := HO2.out.below hB2 hs2 hg3
      rw [← HST.out, HLEN.out] at hO3
      rw [HLEN.out]
      clear hg3 hB2
      have hs3 := hB3.size
      have cx : w3.cell? ⟨G', k, none⟩ = some (.int .u32 (y.toNat : Int)) := by
        have := hO3.cell (by rw [wsK_length]) k (by rw [wsK_length]; omega)
        rw [this, HST.out]
        simp [List.getD, HLEN.out]
      have cK : w3.cell? ⟨w.heap.size, 0, none⟩ = some (.slice (some ⟨gk, ok, none⟩) 64 ck) := by
        rw [hB3.cell (p := ⟨w.heap.size, 0, none⟩) (Nat.lt_succ_self _)]; exact hk0
      have ckey : w3.cell? ⟨gk, ok + k, none⟩ = some (.int .u32 (key.toNat : Int)) := by
        rw [hB3.cell (p := ⟨gk, ok + k, none⟩) (by show gk < w.heap.size + 1; omega), hb0.cell (p := ⟨gk, ok + k, none⟩) hgk]; exact hkey
      have HO3 := Lib.hid hO3
      have HCx := Lib.hid cx; have HCK' := Lib.hid cK; have HCkey := Lib.hid ckey
      clear hO3 cx cK ckey hkey hk0 hb0 hs0
      go_upto_region 14 with fail
      obtain ⟨X1, X2, X3, X4, E1, E2, E3, E4⟩ := HE.out
      have cx := HCx.out; have cK := HCK'.out; have ckey := HCkey.out
      have HX := Lib.hid (And.intro X3 X4); have HE4 := Lib.hid E4
      clear X3 X4 E4 HCx HCK' HCkey HE
      go_quiet ((go_at_call 88; first | with_reducible exact A1.q _ _ | with_reducible exact A2.q _ _ | with_reducible exact A3.q _ _))
      clear X1 X2 E1 E2 E3 cx cK ckey A1 A2 A3
      obtain ⟨X3, X4⟩ := HX.out
      obtain ⟨E5, E6, E7⟩ := HE2.out
      have hO5 : OwnW (w3.drewN nq) (w.heap.size + 1) (.slice (some ⟨G', 0, none⟩) (k + 1) cap') (wsK (bl x) (k + 1)) := HO3.out
      have hB5 := below_drewN hB3 nq
      have HO5 := Lib.hid hO5
      clear hO5 HO3 hB3 HO2
      generalize w3.drewN nq = W5 at HO5 hB5 ⊢
      rw [HE4.out]
      clear HE4 HE2 HX
      have HE6 := Lib.hid E6; have HE7 := Lib.hid E7
      clear E6 E7
      go_wp2_with (go_at_call 88; (first | with_reducible refine (A4.run _).mono ?_ | with_reducible refine (A5.run _).mono ?_ | with_reducible refine (A6.run _).mono ?_); rintro e w' ⟨rfl, rfl⟩)
      exact ⟨⟨k + 1, _, G', cap', by omega, by simp, rfl, HO5.out, HN.out, (by first | rfl | exact congrArg (Value.int .u32) HE6.out), rfl, rfl, rfl, (by first | rfl | exact congrArg (Value.int .u32) HE7.out), rfl, rfl, rfl, hB5⟩, by simp [intOf]; omega⟩
    · obtain rfl : k = 64 := by omega
      have hfin : addS s u = mixS s (bl x) := by rw [hu]; rfl
      have HF := Lib.hid hfin
      obtain ⟨d0, d1, d2, d3, d4, d5, d6, d7⟩ := HC8.out
      have hcell : ∀ i v, w.cell? ⟨gv, i, none⟩ = some v → wr.cell? ⟨gv, i, none⟩ = some v := by
        intro i v h
        rw [hB.cell (p := ⟨gv, i, none⟩) (by show gv < w.heap.size + 1; omega), hb0.cell (p := ⟨gv, i, none⟩) hgv]; exact h
      have c0 := hcell _ _ d0
      have c1 := hcell _ _ d1
      have c2 := hcell _ _ d2
      have c3 := hcell _ _ d3
      have c4 := hcell _ _ d4
      have c5 := hcell _ _ d5
      have c6 := hcell _ _ d6
      have c7 := hcell _ _ d7
      have hBw : Below w.heap.size w wr := hb0.trans (hB.mono (by omega))
      have hs5 := hBw.size
      simp only [uv_eq] at c0 c1 c2 c3 c4 c5 c6 c7 ⊢
      clear d0 d1 d2 d3 d4 d5 d6 d7 hcell hO hu hfin HCK HC8 hk0 hb0 hs0 hB hlt hk
      obtain ⟨a, b, c, d, e, f, g, h⟩ := u
      obtain ⟨a', b', c', d', e', f', g', h'⟩ := s
      obtain ⟨z0, hz0⟩ : ∃ z, a' + a = z := ⟨_, rfl⟩
      obtain ⟨z1, hz1⟩ : ∃ z, b' + b = z := ⟨_, rfl⟩
      obtain ⟨z2, hz2⟩ : ∃ z, c' + c = z := ⟨_, rfl⟩
      obtain ⟨z3, hz3⟩ : ∃ z, d' + d = z := ⟨_, rfl⟩
      obtain ⟨z4, hz4⟩ : ∃ z, e' + e = z := ⟨_, rfl⟩
      obtain ⟨z5, hz5⟩ : ∃ z, f' + f = z := ⟨_, rfl⟩
      obtain ⟨z6, hz6⟩ : ∃ z, g' + g = z := ⟨_, rfl⟩
      obtain ⟨z7, hz7⟩ : ∃ z, h' + h = z := ⟨_, rfl⟩
      have hz : (mixS ⟨a', b', c', d', e', f', g', h'⟩ (bl x)).l = [z0, z1, z2, z3, z4, z5, z6, z7] := by
        rw [← HF.out, ← hz0, ← hz1, ← hz2, ← hz3, ← hz4, ← hz5, ← hz6, ← hz7]; rfl
      have HZ := Lib.hid hz
      have E0 := add_mod32 _ _ _ hz0
      have E1 := add_mod32 _ _ _ hz1
      have E2 := add_mod32 _ _ _ hz2
      have E3 := add_mod32 _ _ _ hz3
      have E4 := add_mod32 _ _ _ hz4
      have E5 := add_mod32 _ _ _ hz5
      have E6 := add_mod32 _ _ _ hz6
      have E7 := add_mod32 _ _ _ hz7
      have w0 : IntKind.u32.wrap ((a'.toNat : Int) + (a.toNat : Int)) = (z0.toNat : Int) := by rw [IntKind.wrap_u32]; exact E0
      have w1 : IntKind.u32.wrap ((b'.toNat : Int) + (b.toNat : Int)) = (z1.toNat : Int) := by rw [IntKind.wrap_u32]; exact E1
      have w2 : IntKind.u32.wrap ((c'.toNat : Int) + (c.toNat : Int)) = (z2.toNat : Int) := by rw [IntKind.wrap_u32]; exact E2
      have w3 : IntKind.u32.wrap ((d'.toNat : Int) + (d.toNat : Int)) = (z3.toNat : Int) := by rw [IntKind.wrap_u32]; exact E3
      have w4 : IntKind.u32.wrap ((e'.toNat : Int) + (e.toNat : Int)) = (z4.toNat : Int) := by rw [IntKind.wrap_u32]; exact E4
      have w5 : IntKind.u32.wrap ((f'.toNat : Int) + (f.toNat : Int)) = (z5.toNat : Int) := by rw [IntKind.wrap_u32]; exact E5
      have w6 : IntKind.u32.wrap ((g'.toNat : Int) + (g.toNat : Int)) = (z6.toNat : Int) := by rw [IntKind.wrap_u32]; exact E6
      have w7 : IntKind.u32.wrap ((h'.toNat : Int) + (h.toNat : Int)) = (z7.toNat : Int) := by rw [IntKind.wrap_u32]; exact E7
      have HWR := Lib.hid (And.intro w0 (And.intro w1 (And.intro w2 (And.intro w3 (And.intro w4 (And.intro w5 (And.intro w6 w7)))))))
      clear w0 w1 w2 w3 w4 w5 w6 w7
      clear hz0 hz1 hz2 hz3 hz4 hz5 hz6 hz7 hz HF
      have hS : (fun w' : World => w'.cell? ⟨gv, ov, none⟩ = some (.int .u32 (a'.toNat : Int)) ∧ w'.cell? ⟨gv, ov + 1, none⟩ = some (.int .u32 (b'.toNat : Int)) ∧ w'.cell? ⟨gv, ov + 2, none⟩ = some (.int .u32 (c'.toNat : Int)) ∧ w'.cell? ⟨gv, ov + 3, none⟩ = some (.int .u32 (d'.toNat : Int)) ∧ w'.cell? ⟨gv, ov + 4, none⟩ = some (.int .u32 (e'.toNat : Int)) ∧ w'.cell? ⟨gv, ov + 5, none⟩ = some (.int .u32 (f'.toNat : Int)) ∧ w'.cell? ⟨gv, ov + 6, none⟩ = some (.int .u32 (g'.toNat : Int)) ∧ w'.cell? ⟨gv, ov + 7, none⟩ = some (.int .u32 (h'.toNat : Int))) wr := ⟨c0, c1, c2, c3, c4, c5, c6, c7⟩
      go_wp2_with fail
      go_region_held3 (fun w' => w'.cell? ⟨gv, ov, none⟩ = some (.int .u32 (a'.toNat : Int)) ∧ w'.cell? ⟨gv, ov + 1, none⟩ = some (.int .u32 (b'.toNat : Int)) ∧ w'.cell? ⟨gv, ov + 2, none⟩ = some (.int .u32 (c'.toNat : Int)) ∧ w'.cell? ⟨gv, ov + 3, none⟩ = some (.int .u32 (d'.toNat : Int)) ∧ w'.cell? ⟨gv, ov + 4, none⟩ = some (.int .u32 (e'.toNat : Int)) ∧ w'.cell? ⟨gv, ov + 5, none⟩ = some (.int .u32 (f'.toNat : Int)) ∧ w'.cell? ⟨gv, ov + 6, none⟩ = some (.int .u32 (g'.toNat : Int)) ∧ w'.cell? ⟨gv, ov + 7, none⟩ = some (.int .u32 (h'.toNat : Int))) (go_keep) (fail)
      clear c0 c1 c2 c3 c4 c5 c6 c7 hS E0 E1 E2 E3 E4 E5 E6 E7
      go_wp2_with fail
      go_ret
      refine ⟨_, rfl, ?_, by first | go_grown | (exact hBw.trans (by go_grown))⟩
      obtain ⟨w0, w1, w2, w3, w4, w5, w6, w7⟩ := HWR.out
      rw [HZ.out, w0, w1, w2, w3, w4, w5, w6, w7]
      exact World.ownsRow_lit (base := w.heap.size) (e := 92) (size := 1) wr #[.int .u32 (z0.toNat : Int), .int .u32 (z1.toNat : Int), .int .u32 (z2.toNat : Int), .int .u32 (z3.toNat : Int), .int .u32 (z4.toNat : Int), .int .u32 (z5.toNat : Int), .int .u32 (z6.toNat : Int), .int .u32 (z7.toNat : Int)] 8 hs5 (by decide) rfl
end Go.Proofs.YtdnjieffbgmagaaDoor

/- The contracts of the reference's high, Right and New. -/
namespace Go.Proofs.YtdnjieffbgmagaaDoor
open Go.RowKit
set_option maxRecDepth 100000
/-- the bytes of the lowest places, the highest first -/
def lowB (n : Nat) : Nat → List UInt8
  | 0 => []
  | i + 1 => UInt8.ofNat (n / 256 ^ i) :: lowB n i
theorem lowB_length (n i : Nat) : (lowB n i).length = i := by
  induction i with
  | zero => rfl
  | succ i ih => simp [lowB, ih]
theorem lowB_four (x : BitVec 32) : lowB x.toNat 4 = be4 x := by
  have h := x.isLt
  simp [lowB, be4]
theorem lowB_eight (n : Nat) : lowB n 8 = be8 n 8 := by
  simp [lowB, be8, byteAt]
def HighRel (w : World) (n m : Nat) (nv o i : Value) (wr : World) : Prop :=
  ∃ k : Nat, k ≤ m ∧ i = .int .i64 (k : Int) ∧ nv = .int .u64 ((n / 256 ^ k : Nat) : Int) ∧ o = .string (strL (lowB n k)) ∧ Bel w wr

set_option maxHeartbeats 1000000 in
theorem high_any (n m : Nat) (hn : n < 18446744073709551616) (hm : m ≤ 8) (w : World) :
    Calls Tryd.prog 82 #[.int .u64 (n : Int), .int .i64 (m : Int)] w fun e w' => e = .returned (.string (strL (lowB n m))) ∧ Bel w w' := by
  go_enter Tryd.func82, Tryd.ntmps82
  go_wp2_with fail
  go_loopw [0, 5, 6] (HighRel w n m) (fun _ _ i _ => m - (intOf i).toNat)
  case atStart => exact ⟨0, by omega, rfl, by simp, rfl, Bel.refl _⟩
  case round =>
    obtain ⟨k, hk, rfl, rfl, rfl, hbel⟩ := hrel
    by_cases hlt : k < m
    · have l1 : (k : Int) < (m : Int) := by omega
      have hle : n / 256 ^ k ≤ n := Nat.div_le_self _ _
      have hnx : n / 256 ^ (k + 1) = n / 256 ^ k / 256 := by rw [Nat.pow_succ, Nat.div_div_eq_div_mul]
      have hst : lowB n (k + 1) = UInt8.ofNat (n / 256 ^ k) :: lowB n k := rfl
      have hsz : (strL (lowB n k)).size ≤ 8 := by rw [strL_size, lowB_length]; omega
      obtain ⟨q, hq⟩ : ∃ q, n / 256 ^ k = q := ⟨_, rfl⟩
      rw [hq] at hle hnx hst ⊢
      obtain ⟨y, hy⟩ : ∃ y, UInt8.ofNat q = y := ⟨_, rfl⟩
      have hyv : (q : Int) % 256 = (y.toNat : Int) := by
        rw [← hy, ← byte_of, IntKind.wrap_u8]
      rw [hy] at hst
      have hone := one_text y (y.toNat : Int) rfl
      have hcat : ∀ W : World, (Op.stringOp .add (strL [y]) (strL (lowB n k))).run Tryd.prog W = .ok (.string (strL (lowB n (k + 1)))) W := fun W => by
        rw [run_string_add_sum W _ _ (by have : (strL [y]).size = 1 := by rw [strL_size]; rfl
                                         omega), strL_append, hst]; rfl
      have hns : (9223372036854775807 < (strL [y]).size + (strL (lowB n k)).size) = False := by
        have : (strL [y]).size = 1 := by rw [strL_size]; rfl
        simp; omega
      have hq1 : (q : Int) / 256 = ((q / 256 : Nat) : Int) := by omega
      have hq2 : ((q / 256 : Nat) : Int) = ((n / 256 ^ (k + 1) : Nat) : Int) := by rw [hnx]
      have HQ2 := Lib.hid hq2
      obtain ⟨t, ht⟩ : ∃ t, q / 256 = t := ⟨_, rfl⟩
      rw [ht] at hq1 HQ2
      have yb := y.toNat_lt
      have hu : IntKind.u8.wrap (y.toNat : Int) = (y.toNat : Int) := by rw [IntKind.wrap_u8]; omega
      clear hst hnx hq hy hq2 ht hsz
      go_wp2_with fail
      exact ⟨⟨k + 1, by omega, by simp, by rw [HQ2.out], rfl, hbel.alloc _⟩, by simp [intOf]; omega⟩
    · obtain rfl : k = m := by omega
      have l1 : ¬ (k : Int) < (k : Int) := by omega
      go_wp2_with fail
      go_ret
      exact ⟨rfl, hbel⟩

set_option maxHeartbeats 1000000 in
theorem refnew_any (kv : Value) (w : World) (hk : KAt w kv) :
    Calls Tryd.prog 77 #[kv] w fun e w' => ∃ v, e = .returned (.agg #[v, .string ⟨#[]⟩, .int .u64 0]) ∧ WsAt w' v firstS.l ∧ Below w.heap.size w w' := by
  obtain ⟨k0, k1, rfl, -, h1⟩ := hk
  have n1 : ∀ b k c, k1 = .slice (some b) k c → b.block ≠ w.heap.size + 1 := by
    rintro b k c rfl
    obtain ⟨g, off, cap, e, hlt, -⟩ := h1
    cases e
    show g ≠ w.heap.size + 1
    omega
  obtain ⟨g1, o1, c1, rfl, hg1, hc1⟩ := id h1
  go_enter Tryd.func77, Tryd.ntmps77
  go_upto_region 1 with fail
  have hb0 : Below w.heap.size w ((w.alloc (.cells #[k0, .slice (some ⟨g1, o1, none⟩) firstS.l.length c1] 49)).alloc (.cells #[.slice none 0 0, .string ⟨#[]⟩, .int .u64 0] 118)) := by go_grown
  have k1c : ((w.alloc (.cells #[k0, .slice (some ⟨g1, o1, none⟩) firstS.l.length c1] 49)).alloc (.cells #[.slice none 0 0, .string ⟨#[]⟩, .int .u64 0] 118)).cell? ⟨w.heap.size, 1, none⟩ = some (.slice (some ⟨g1, o1, none⟩) firstS.l.length c1) := by
    rw [cell_of_row _ _ _ _ _ _ (heap_alloc2_old _ _ _)]; rfl
  have hR : ((w.alloc (.cells #[k0, .slice (some ⟨g1, o1, none⟩) firstS.l.length c1] 49)).alloc (.cells #[.slice none 0 0, .string ⟨#[]⟩, .int .u64 0] 118)).heap[w.heap.size + 1]? = some (.cells #[.slice none 0 0, .string ⟨#[]⟩, .int .u64 0] 118) := heap_alloc2_new _ _ _
  generalize World.alloc (World.alloc w _) _ = W at hb0 k1c hR ⊢
  have d0 : W.cell? ⟨w.heap.size + 1, 0, none⟩ = some (.slice none 0 0) := by rw [cell_of_row _ _ _ _ _ _ hR]; rfl
  have d1 : W.cell? ⟨w.heap.size + 1, 1, none⟩ = some (.string ⟨#[]⟩) := by rw [cell_of_row _ _ _ _ _ _ hR]; rfl
  have d2 : W.cell? ⟨w.heap.size + 1, 2, none⟩ = some (.int .u64 0) := by rw [cell_of_row _ _ _ _ _ _ hR]; rfl
  have f0 := frozen_of_row W (w.heap.size + 1) 0 _ _ hR
  have f1 := frozen_of_row W (w.heap.size + 1) 1 _ _ hR
  have f2 := frozen_of_row W (w.heap.size + 1) 2 _ _ hR
  have e0 := setCell_far (i := 2) (u := .int .u64 0) (setCell_far (i := 1) (u := .string ⟨#[]⟩) (World.cell?_setCell_same _ ⟨w.heap.size + 1, 0, none⟩ (.slice (some ⟨g1, o1, none⟩) firstS.l.length c1) d0) (by omega)) (by omega)
  have e1 := setCell_far (i := 2) (u := .int .u64 0) (World.cell?_setCell_same _ ⟨w.heap.size + 1, 1, none⟩ (.string ⟨#[]⟩) (setCell_far (i := 0) (u := .slice (some ⟨g1, o1, none⟩) firstS.l.length c1) d1 (by omega))) (by omega)
  have e2 := World.cell?_setCell_same _ ⟨w.heap.size + 1, 2, none⟩ (.int .u64 0) (setCell_far (i := 1) (u := .string ⟨#[]⟩) (setCell_far (i := 0) (u := .slice (some ⟨g1, o1, none⟩) firstS.l.length c1) d2 (by omega)) (by omega))
  have q0 := (((h1.on hb0).set (w.heap.size + 1) 0 n1 (.slice (some ⟨g1, o1, none⟩) firstS.l.length c1)).set (w.heap.size + 1) 1 n1 (.string ⟨#[]⟩)).set (w.heap.size + 1) 2 n1 (.int .u64 0)
  have hbl : Below w.heap.size w _ := ((hb0.setCell (p := ⟨w.heap.size + 1, 0, none⟩) (Nat.le_succ _) (.slice (some ⟨g1, o1, none⟩) firstS.l.length c1)).setCell (p := ⟨w.heap.size + 1, 1, none⟩) (Nat.le_succ _) (.string ⟨#[]⟩)).setCell (p := ⟨w.heap.size + 1, 2, none⟩) (Nat.le_succ _) (.int .u64 0)
  have E0 := Lib.hid e0; have E1 := Lib.hid e1; have E2 := Lib.hid e2; have Q0 := Lib.hid q0
  clear e0 e1 e2 q0 hR hb0 hc1 h1 n1
  go_wp2_with fail
  have e0 := E0.out; have e1 := E1.out; have e2 := E2.out
  refine bodyPost_ret (v := .agg #[.slice (some ⟨g1, o1, none⟩) firstS.l.length c1, .string ⟨#[]⟩, .int .u64 0]) (by simp [results, Tryd.results77, go_sem, e0, e1, e2]) rfl ⟨_, rfl, Q0.out, hbl⟩
end Go.Proofs.YtdnjieffbgmagaaDoor
