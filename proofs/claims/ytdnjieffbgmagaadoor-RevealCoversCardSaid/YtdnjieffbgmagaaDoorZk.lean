/- RevealCovers: whether any keys cover any frame, and it changed to any text. -/
import Derived.Test.YtdnjieffbgmagaaDoorZj
import Derived.Test.YtdnjieffbgmagaaDoorZh
import Derived.Test.YtdnjieffbgmagaaDoorQk
import Derived.Test.YtdnjieffbgmagaaDoorBg13
import Derived.Test.YtdnjieffbgmagaaDoorBg7
import Derived.BigQuiet
namespace Go.Proofs.YtdnjieffbgmagaaDoor
open Go.RowKit Go.Sort
set_option maxRecDepth 100000

/-- a frame's first bytes and keys -/
def shortZ (f : Fr) (m : Nat) : Fr := { f with body := f.body.extract 0 m, keys := f.keys.take 34 }
/-- a frame's box, and another one's -/
structure C2 (w : World) (L : List Value) (n : Nat) (M : List Value) (wx : World) : Prop where
  below : Below w.heap.size w wx
  hn : w.heap.size < n
  bf : BlkV wx w.heap.size 32 L
  bc : BlkV wx n 32 M
theorem C2.on {w wx wy : World} {L : List Value} {n : Nat} {M : List Value} (h : C2 w L n M wx) (hb : Below wx.heap.size wx wy) : C2 w L n M wy := ⟨h.below.trans (hb.mono h.below.size), h.hn, h.bf.on hb, h.bc.on hb⟩
theorem sameZ (x y : Fr) (a a' : Option Addr) (c c' : Nat) (hx : x.keys = []) (hy : y.keys = []) (w : World) :
    Calls Tryd.prog 9 #[.agg (frL x a c).toArray, .agg (frL y a' c').toArray] w fun e w' => e = .returned (.bool (decide (x = y))) ∧ Below w.heap.size w w' :=
  r8Same_any x y a a' c c' (by rw [hx]; exact Nat.zero_le _) (by rw [hy]; exact Nat.zero_le _) w (by rw [hx]; exact fun h => absurd h (Nat.lt_irrefl 0)) (by rw [hy]; exact fun h => absurd h (Nat.lt_irrefl 0))
theorem changeL_good (f : Fr) (l : List ByteArray) (o t : ByteArray) (h : changeE f l o t = 0) : changeL f l o t = frL (changeF (keyF f l) f o t) none 0 := by unfold changeL; rw [if_pos h]
theorem changeL_bad (f : Fr) (l : List ByteArray) (o t : ByteArray) (h : ¬ changeE f l o t = 0) : changeL f l o t = zeroZ := by unfold changeL; rw [if_neg h]
theorem changeL_len (f : Fr) (l : List ByteArray) (o t : ByteArray) : (changeL f l o t).length = 13 := by unfold changeL; split <;> rfl
theorem changeL_one (f : Fr) (l : List ByteArray) (o t : ByteArray) : ∀ v ∈ changeL f l o t, v.oneCell' = true := by unfold changeL; split <;> exact frL_oneZ _ _ _
set_option maxHeartbeats 16000000 in
theorem revealCovers_any (la : Option Addr) (lc : Nat) (l : List ByteArray) (_hl : l.length ≤ maxLen) (hlc : l.length ≤ lc) (f : Fr) (fa : Option Addr) (fc : Nat) (hfl : f.keys.length ≤ maxLen) (hflc : f.keys.length ≤ fc) (hok : FrOk f) (o t : ByteArray)
    (w : World) (hV : Vq w) (hp : SSl w la l) (hf : SSl w fa f.keys) :
    Calls Tryd.prog 4 #[.slice la l.length lc, frV f fa fc, .string o, .string t] w fun e w' => e = .returned (.bool true) ∧ Below w.heap.size w w' := by
  obtain ⟨W, eW⟩ : ∃ W, w.alloc (.cells (frL f fa fc).toArray 32) = W := ⟨_, rfl⟩
  have hbW : Below w.heap.size w W := by rw [← eW]; exact (Below.refl _ _).alloc (Nat.le_refl _) _
  have hX : BlkV W w.heap.size 32 (frL f fa fc) := by rw [← eW]; exact BlkV.fresh _ _ _ _ rfl _ rfl
  have ef : frV f fa fc = .agg (frL f fa fc).toArray := rfl
  rw [ef]
  obtain ⟨m4, em4⟩ : ∃ m : Nat, min (l.length : Int) 4 = (m : Int) := ⟨min l.length 4, by omega⟩
  obtain ⟨mb, emb⟩ : ∃ m : Nat, min (f.body.size : Int) 1030 = (m : Int) := ⟨min f.body.size 1030, by omega⟩
  obtain ⟨mo, emo⟩ : ∃ m : Nat, min (o.size : Int) 1000 = (m : Int) := ⟨min o.size 1000, by omega⟩
  obtain ⟨mt, emt⟩ : ∃ m : Nat, min (t.size : Int) 1000 = (m : Int) := ⟨min t.size 1000, by omega⟩
  have k4 : (m4 : Int) ≤ (lc : Int) := by omega
  have kb : (mb : Int) ≤ (f.body.size : Int) := by omega
  have ko : (mo : Int) ≤ (o.size : Int) := by omega
  have kt : (mt : Int) ≤ (t.size : Int) := by omega
  have h4l : (l.take 4).length = m4 := by rw [List.length_take]; omega
  have hfw := fun V => few14_any fa fc f.keys hfl hflc V
  have hFz : FrZ w (shortZ f mb) fa := ⟨by show (f.keys.take 34).length ≤ _; rw [List.length_take]; unfold maxLen; omega, ⟨hok.frm, hok.dst, hok.id, hok.signed, hok.once, hok.prev, hok.num⟩, by show (f.body.extract 0 mb).size ≤ _; rw [ByteArray.size_extract]; omega, hf.take 34⟩
  have h4s : SSl w la (l.take 4) := hp.take 4
  have HX := Lib.hid hX; have HB := Lib.hid hbW; have HE := Lib.hid eW; have HFW := Lib.hid hfw; have HF := Lib.hid hFz; have HV := Lib.hid hV; have H4 := Lib.hid (And.intro h4l h4s)
  clear hX hbW eW ef hfw hFz hV h4l h4s hlc hfl hflc hok hp hf
  go_enter Tryd.func4, Tryd.ntmps4
  go_upto_region 1 with fail
  generalize hG : World.alloc w _ = G
  obtain rfl : W = G := by rw [← hG, ← HE.out]
  clear hG HE
  have hS0 : BlkV W.drew w.heap.size 32 (frL f fa fc) ∧ Below W.heap.size W W.drew := ⟨HX.out.on (Below.refl _ _).drew, (Below.refl _ _).drew⟩
  refine region_K 27 (fun V => BlkV V w.heap.size 32 (frL f fa fc) ∧ Below W.heap.size W V) (by kernel_rfl) ?_
  generalize W.drew = D at hS0 ⊢
  refine K_pure (i := 0) (v := Value.slice la l.length lc) rfl (by kernel_rfl) (by kernel_rfl) (by kernel_rfl) (by kernel_rfl) (fun _ _ _ h => h) (Or.inl ⟨rfl, fun _ _ => by first | (go_simp; done) | kernel_rfl⟩) hS0 ?_
  try simp only [Act.put, List.getElem_toArray, List.getElem_cons_zero, List.setIfInBounds_toArray, List.set_cons_zero, List.set_cons_succ]
  refine K_pure (i := 1) (v := Value.slice la l.length lc) rfl (by kernel_rfl) (by kernel_rfl) (by kernel_rfl) (by kernel_rfl) (fun _ _ _ h => h) (Or.inl ⟨rfl, fun _ _ => by first | (go_simp; done) | kernel_rfl⟩) hS0 ?_
  try simp only [Act.put, List.getElem_toArray, List.getElem_cons_zero, List.getElem_cons_succ, List.setIfInBounds_toArray, List.set_cons_zero, List.set_cons_succ]
  refine K_pure (i := 2) (v := Value.int .i64 (l.length : Int)) rfl (by kernel_rfl) (by kernel_rfl) (by kernel_rfl) (by kernel_rfl) (fun _ _ _ h => h) (Or.inl ⟨rfl, fun _ _ => by first | (go_simp; done) | kernel_rfl⟩) hS0 ?_
  try simp only [Act.put, List.getElem_toArray, List.getElem_cons_zero, List.getElem_cons_succ, List.setIfInBounds_toArray, List.set_cons_zero, List.set_cons_succ]
  refine K_pure (i := 3) (v := Value.int .i64 (m4 : Int)) rfl (by kernel_rfl) (by kernel_rfl) (by kernel_rfl) (by kernel_rfl) (fun _ _ _ h => h) (Or.inl ⟨rfl, fun _ _ => by first | (go_simp; done) | kernel_rfl⟩) hS0 ?_
  try simp only [Act.put, List.getElem_toArray, List.getElem_cons_zero, List.getElem_cons_succ, List.setIfInBounds_toArray, List.set_cons_zero, List.set_cons_succ]
  refine K_pure (i := 4) (v := Value.slice la m4 lc) rfl (by kernel_rfl) (by kernel_rfl) (by kernel_rfl) (by kernel_rfl) (fun _ _ _ h => h) (Or.inl ⟨rfl, fun _ _ => by first | (go_simp; done) | kernel_rfl⟩) hS0 ?_
  try simp only [Act.put, List.getElem_toArray, List.getElem_cons_zero, List.getElem_cons_succ, List.setIfInBounds_toArray, List.set_cons_zero, List.set_cons_succ]
  refine K_pure (i := 5) (v := Value.pointer (some ⟨w.heap.size, 11, none⟩)) rfl (by kernel_rfl) (by kernel_rfl) (by kernel_rfl) (by kernel_rfl) (fun _ _ _ h => h) (Or.inl ⟨rfl, fun _ _ => by first | (go_simp; done) | kernel_rfl⟩) hS0 ?_
  try simp only [Act.put, List.getElem_toArray, List.getElem_cons_zero, List.getElem_cons_succ, List.setIfInBounds_toArray, List.set_cons_zero, List.set_cons_succ]
  refine K_take (i := 6) (v := Value.string f.body) rfl (by kernel_rfl) (by kernel_rfl) (by kernel_rfl) (by kernel_rfl) (by kernel_rfl) (fun _ _ _ h => h) (Or.inl ⟨rfl, fun W hW => by have hc := hW.1.cell 11 _ rfl; go_simp⟩) hS0 ?_
  try simp only [Act.put, List.getElem_toArray, List.getElem_cons_zero, List.getElem_cons_succ, List.setIfInBounds_toArray, List.set_cons_zero, List.set_cons_succ]
  refine K_pure (i := 7) (v := Value.pointer (some ⟨w.heap.size, 11, none⟩)) rfl (by kernel_rfl) (by kernel_rfl) (by kernel_rfl) (by kernel_rfl) (fun _ _ _ h => h) (Or.inl ⟨rfl, fun _ _ => by first | (go_simp; done) | kernel_rfl⟩) hS0 ?_
  try simp only [Act.put, List.getElem_toArray, List.getElem_cons_zero, List.getElem_cons_succ, List.setIfInBounds_toArray, List.set_cons_zero, List.set_cons_succ]
  refine K_take (i := 8) (v := Value.string f.body) rfl (by kernel_rfl) (by kernel_rfl) (by kernel_rfl) (by kernel_rfl) (by kernel_rfl) (fun _ _ _ h => h) (Or.inl ⟨rfl, fun W hW => by have hc := hW.1.cell 11 _ rfl; go_simp⟩) hS0 ?_
  try simp only [Act.put, List.getElem_toArray, List.getElem_cons_zero, List.getElem_cons_succ, List.setIfInBounds_toArray, List.set_cons_zero, List.set_cons_succ]
  refine K_pure (i := 9) (v := Value.int .i64 (f.body.size : Int)) rfl (by kernel_rfl) (by kernel_rfl) (by kernel_rfl) (by kernel_rfl) (fun _ _ _ h => h) (Or.inl ⟨rfl, fun _ _ => by first | (go_simp; done) | kernel_rfl⟩) hS0 ?_
  try simp only [Act.put, List.getElem_toArray, List.getElem_cons_zero, List.getElem_cons_succ, List.setIfInBounds_toArray, List.set_cons_zero, List.set_cons_succ]
  refine K_pure (i := 10) (v := Value.int .i64 (mb : Int)) rfl (by kernel_rfl) (by kernel_rfl) (by kernel_rfl) (by kernel_rfl) (fun _ _ _ h => h) (Or.inl ⟨rfl, fun _ _ => by first | (go_simp; done) | kernel_rfl⟩) hS0 ?_
  try simp only [Act.put, List.getElem_toArray, List.getElem_cons_zero, List.getElem_cons_succ, List.setIfInBounds_toArray, List.set_cons_zero, List.set_cons_succ]
  refine K_pure (i := 11) (v := Value.string (f.body.extract 0 mb)) rfl (by kernel_rfl) (by kernel_rfl) (by kernel_rfl) (by kernel_rfl) (fun _ _ _ h => h) (Or.inl ⟨rfl, fun _ _ => by first | (go_simp; done) | kernel_rfl⟩) hS0 ?_
  try simp only [Act.put, List.getElem_toArray, List.getElem_cons_zero, List.getElem_cons_succ, List.setIfInBounds_toArray, List.set_cons_zero, List.set_cons_succ]
  refine K_pure (i := 12) (v := Value.pointer (some ⟨w.heap.size, 12, none⟩)) rfl (by kernel_rfl) (by kernel_rfl) (by kernel_rfl) (by kernel_rfl) (fun _ _ _ h => h) (Or.inl ⟨rfl, fun _ _ => by first | (go_simp; done) | kernel_rfl⟩) hS0 ?_
  try simp only [Act.put, List.getElem_toArray, List.getElem_cons_zero, List.getElem_cons_succ, List.setIfInBounds_toArray, List.set_cons_zero, List.set_cons_succ]
  refine K_take (i := 13) (v := Value.slice fa f.keys.length fc) rfl (by kernel_rfl) (by kernel_rfl) (by kernel_rfl) (by kernel_rfl) (by kernel_rfl) (fun _ _ _ h => h) (Or.inl ⟨rfl, fun W hW => by have hc := hW.1.cell 12 _ rfl; go_simp⟩) hS0 ?_
  try simp only [Act.put, List.getElem_toArray, List.getElem_cons_zero, List.getElem_cons_succ, List.setIfInBounds_toArray, List.set_cons_zero, List.set_cons_succ]
  refine K_pure (i := 15) (v := Value.string o) rfl (by kernel_rfl) (by kernel_rfl) (by kernel_rfl) (by kernel_rfl) (fun _ _ _ h => h) (Or.inl ⟨rfl, fun _ _ => by first | (go_simp; done) | kernel_rfl⟩) hS0 ?_
  try simp only [Act.put, List.getElem_toArray, List.getElem_cons_zero, List.getElem_cons_succ, List.setIfInBounds_toArray, List.set_cons_zero, List.set_cons_succ]
  refine K_pure (i := 16) (v := Value.string o) rfl (by kernel_rfl) (by kernel_rfl) (by kernel_rfl) (by kernel_rfl) (fun _ _ _ h => h) (Or.inl ⟨rfl, fun _ _ => by first | (go_simp; done) | kernel_rfl⟩) hS0 ?_
  try simp only [Act.put, List.getElem_toArray, List.getElem_cons_zero, List.getElem_cons_succ, List.setIfInBounds_toArray, List.set_cons_zero, List.set_cons_succ]
  refine K_pure (i := 17) (v := Value.int .i64 (o.size : Int)) rfl (by kernel_rfl) (by kernel_rfl) (by kernel_rfl) (by kernel_rfl) (fun _ _ _ h => h) (Or.inl ⟨rfl, fun _ _ => by first | (go_simp; done) | kernel_rfl⟩) hS0 ?_
  try simp only [Act.put, List.getElem_toArray, List.getElem_cons_zero, List.getElem_cons_succ, List.setIfInBounds_toArray, List.set_cons_zero, List.set_cons_succ]
  refine K_pure (i := 18) (v := Value.int .i64 (mo : Int)) rfl (by kernel_rfl) (by kernel_rfl) (by kernel_rfl) (by kernel_rfl) (fun _ _ _ h => h) (Or.inl ⟨rfl, fun _ _ => by first | (go_simp; done) | kernel_rfl⟩) hS0 ?_
  try simp only [Act.put, List.getElem_toArray, List.getElem_cons_zero, List.getElem_cons_succ, List.setIfInBounds_toArray, List.set_cons_zero, List.set_cons_succ]
  refine K_pure (i := 19) (v := Value.string (o.extract 0 mo)) rfl (by kernel_rfl) (by kernel_rfl) (by kernel_rfl) (by kernel_rfl) (fun _ _ _ h => h) (Or.inl ⟨rfl, fun _ _ => by first | (go_simp; done) | kernel_rfl⟩) hS0 ?_
  try simp only [Act.put, List.getElem_toArray, List.getElem_cons_zero, List.getElem_cons_succ, List.setIfInBounds_toArray, List.set_cons_zero, List.set_cons_succ]
  refine K_pure (i := 20) (v := Value.string t) rfl (by kernel_rfl) (by kernel_rfl) (by kernel_rfl) (by kernel_rfl) (fun _ _ _ h => h) (Or.inl ⟨rfl, fun _ _ => by first | (go_simp; done) | kernel_rfl⟩) hS0 ?_
  try simp only [Act.put, List.getElem_toArray, List.getElem_cons_zero, List.getElem_cons_succ, List.setIfInBounds_toArray, List.set_cons_zero, List.set_cons_succ]
  refine K_pure (i := 21) (v := Value.string t) rfl (by kernel_rfl) (by kernel_rfl) (by kernel_rfl) (by kernel_rfl) (fun _ _ _ h => h) (Or.inl ⟨rfl, fun _ _ => by first | (go_simp; done) | kernel_rfl⟩) hS0 ?_
  try simp only [Act.put, List.getElem_toArray, List.getElem_cons_zero, List.getElem_cons_succ, List.setIfInBounds_toArray, List.set_cons_zero, List.set_cons_succ]
  refine K_pure (i := 22) (v := Value.int .i64 (t.size : Int)) rfl (by kernel_rfl) (by kernel_rfl) (by kernel_rfl) (by kernel_rfl) (fun _ _ _ h => h) (Or.inl ⟨rfl, fun _ _ => by first | (go_simp; done) | kernel_rfl⟩) hS0 ?_
  try simp only [Act.put, List.getElem_toArray, List.getElem_cons_zero, List.getElem_cons_succ, List.setIfInBounds_toArray, List.set_cons_zero, List.set_cons_succ]
  refine K_pure (i := 23) (v := Value.int .i64 (mt : Int)) rfl (by kernel_rfl) (by kernel_rfl) (by kernel_rfl) (by kernel_rfl) (fun _ _ _ h => h) (Or.inl ⟨rfl, fun _ _ => by first | (go_simp; done) | kernel_rfl⟩) hS0 ?_
  try simp only [Act.put, List.getElem_toArray, List.getElem_cons_zero, List.getElem_cons_succ, List.setIfInBounds_toArray, List.set_cons_zero, List.set_cons_succ]
  refine K_pure (i := 24) (v := Value.string (t.extract 0 mt)) rfl (by kernel_rfl) (by kernel_rfl) (by kernel_rfl) (by kernel_rfl) (fun _ _ _ h => h) (Or.inl ⟨rfl, fun _ _ => by first | (go_simp; done) | kernel_rfl⟩) hS0 ?_
  try simp only [Act.put, List.getElem_toArray, List.getElem_cons_zero, List.getElem_cons_succ, List.setIfInBounds_toArray, List.set_cons_zero, List.set_cons_succ]
  refine K_all (rs := [14]) (by kernel_rfl) (by decide) (List.forall_mem_cons.2 ⟨?_, List.forall_mem_nil _⟩)
  refine callv_any (f := 5) (args := #[.slice fa f.keys.length fc]) rfl rfl (by kernel_rfl) (v := .slice fa (f.keys.take 34).length fc) (R := fun V => D = V) (HFW.out D) ?_
  rintro _ rfl
  refine ⟨fun _ => hS0, ?_⟩
  try simp only [Act.put, List.getElem_toArray, List.getElem_cons_zero, List.getElem_cons_succ, List.setIfInBounds_toArray, List.set_cons_zero, List.set_cons_succ]
  refine K_pure (i := 25) (v := Value.slice la m4 lc) rfl (by kernel_rfl) (by kernel_rfl) (by kernel_rfl) (by kernel_rfl) (fun _ _ _ h => h) (Or.inl ⟨rfl, fun _ _ => by first | (go_simp; done) | kernel_rfl⟩) hS0 ?_
  try simp only [Act.put, List.getElem_toArray, List.getElem_cons_zero, List.getElem_cons_succ, List.setIfInBounds_toArray, List.set_cons_zero]
  refine K_pure (i := 26) (v := Value.pointer (some ⟨w.heap.size, 11, none⟩)) rfl (by kernel_rfl) (by kernel_rfl) (by kernel_rfl) (by kernel_rfl) (fun _ _ _ h => h) (Or.inl ⟨rfl, fun _ _ => by first | (go_simp; done) | kernel_rfl⟩) hS0 ?_
  try simp only [Act.put, List.getElem_toArray, List.getElem_cons_zero, List.getElem_cons_succ, List.setIfInBounds_toArray, List.set_cons_zero, List.set_cons_succ]
  refine K_all (rs := [27]) (by kernel_rfl) (by decide) (List.forall_mem_cons.2 ⟨?_, List.forall_mem_nil _⟩)
  have h11 := hS0.1.cell 11 _ rfl
  have y11 := hS0.1.frozen 11
  refine skip_any rfl rfl (w' := D.setCell ⟨w.heap.size, 11, none⟩ (.string (f.body.extract 0 mb))) (by go_simp) ?_
  clear h11 y11
  refine ⟨fun hf => absurd (show true = false from hf) (by decide), K_of_any _ _ _ _ (by kernel_rfl) ?_⟩
  try simp only [Act.put, List.getElem_toArray, List.getElem_cons_zero, List.getElem_cons_succ]
  have hX5 := hS0.1.set 11 (.string (f.body.extract 0 mb))
  refine wpAny_take (i := 28) (v := Value.pointer (some ⟨w.heap.size, 12, none⟩)) rfl (by kernel_rfl) (by kernel_rfl) (by kernel_rfl) (fun _ _ _ h => h) (.inl ⟨rfl, fun W => by first | (go_simp; done) | kernel_rfl⟩) ?_
  try simp only [Act.put, List.getElem_toArray, List.getElem_cons_zero, List.getElem_cons_succ, List.setIfInBounds_toArray, List.set_cons_zero, List.set_cons_succ]
  refine wpAny_all (rs := [29]) (by kernel_rfl) (by decide) (List.forall_mem_cons.2 ⟨?_, List.forall_mem_nil _⟩)
  have h12 := hX5.cell 12 _ rfl
  have y12 := hX5.frozen 12
  refine skip_any rfl rfl (w' := (D.setCell ⟨w.heap.size, 11, none⟩ (.string (f.body.extract 0 mb))).setCell ⟨w.heap.size, 12, none⟩ (.slice fa (f.keys.take 34).length fc)) (by go_simp) ?_
  clear h12 y12
  try simp only [Act.put, List.getElem_toArray, List.getElem_cons_zero, List.getElem_cons_succ]
  refine wpAny_take (i := 30) (v := Value.string (o.extract 0 mo)) rfl (by kernel_rfl) (by kernel_rfl) (by kernel_rfl) (fun _ _ _ h => h) (.inl ⟨rfl, fun W => by first | (go_simp; done) | kernel_rfl⟩) ?_
  try simp only [Act.put, List.getElem_toArray, List.getElem_cons_zero, List.getElem_cons_succ, List.setIfInBounds_toArray, List.set_cons_zero, List.set_cons_succ]
  refine wpAny_take (i := 31) (v := Value.string (t.extract 0 mt)) rfl (by kernel_rfl) (by kernel_rfl) (by kernel_rfl) (fun _ _ _ h => h) (.inl ⟨rfl, fun W => by first | (go_simp; done) | kernel_rfl⟩) ?_
  try simp only [Act.put, List.getElem_toArray, List.getElem_cons_zero, List.getElem_cons_succ, List.setIfInBounds_toArray, List.set_cons_zero, List.set_cons_succ]
  refine wpAny_done (by kernel_rfl) ?_ _
  have hX6 := hX5.set 12 (.slice fa (f.keys.take 34).length fc)
  have hset : ((frL f fa fc).set 11 (.string (f.body.extract 0 mb))).set 12 (.slice fa (f.keys.take 34).length fc) = frL (shortZ f mb) fa fc := rfl
  rw [hset] at hX6
  have hb6 := ((HB.out.trans (hS0.2.mono HB.out.size)).setCell (p := ⟨w.heap.size, 11, none⟩) (Nat.le_refl _) (.string (f.body.extract 0 mb))).setCell (p := ⟨w.heap.size, 12, none⟩) (Nat.le_refl _) (.slice fa (f.keys.take 34).length fc)
  obtain ⟨F, eF⟩ : ∃ F, shortZ f mb = F := ⟨_, rfl⟩
  obtain ⟨l4, el4⟩ : ∃ l4, l.take 4 = l4 := ⟨_, rfl⟩
  obtain ⟨O, eO⟩ : ∃ O, o.extract 0 mo = O := ⟨_, rfl⟩
  obtain ⟨T, eT⟩ : ∃ T, t.extract 0 mt = T := ⟨_, rfl⟩
  rw [eF] at hX6
  rw [eF] at HF
  rw [el4] at H4
  have hl4 : l4.length ≤ 1000 := by rw [← el4, List.length_take]; omega
  rw [eO, eT]
  clear hS0 hX5 hset em4 emb emo emt k4 kb ko kt eF el4 eO eT HFW HX HB
  generalize World.setCell (World.setCell D _ _) _ _ = V1 at hX6 hb6 ⊢
  have HX1 := Lib.hid hX6; have HB1 := Lib.hid hb6; have HL4 := Lib.hid hl4
  clear hX6 hb6 hl4
  rw [← H4.out.1]
  go_upto_region 2 with fail
  refine wp_region_lit ?_
  iterate 1 (refine wpList_step (fun K hK => ?_); go_simp; refine hK _ _ ?_; clear hK K)
  refine load_v rfl _ _ rfl w.heap.size rfl HX1.out Tryd.underlying32 rfl (by kernel_rfl) ?_
  have hcv := Covers_any F fa fc la lc l4 HL4.out V1 (HF.out.on HB1.out) (HV.out.on HB1.out) (H4.out.2.on HB1.out)
  obtain ⟨Q, eQ⟩ : ∃ Q, keyF F l4 = Q := ⟨_, rfl⟩
  obtain ⟨kz, ekz⟩ : ∃ kz, decide (Q.size = 0) = kz := ⟨_, rfl⟩
  obtain ⟨yz, eyz⟩ : ∃ yz, decide (whyF F = 0) = yz := ⟨_, rfl⟩
  rw [eQ, ekz, eyz] at hcv
  have HQ := Lib.hid (And.intro eQ (And.intro ekz eyz))
  clear eQ ekz eyz
  have HCV := Lib.hid hcv
  clear hcv
  go_wp2_with fail
  refine HCV.out.mono ?_
  rintro e w2 ⟨rfl, hb⟩
  have HX2 := Lib.hid (HX1.out.on hb)
  have HB2 := Lib.hid (HB1.out.trans (hb.mono HB1.out.size))
  clear hb HCV HX1 HB1
  go_upto_region 3 with fail
  refine wp_region_lit ?_
  iterate 1 (refine wpList_step (fun K hK => ?_); go_simp; refine hK _ _ ?_; clear hK K)
  refine load_v rfl _ _ rfl w.heap.size rfl HX2.out Tryd.underlying32 rfl (by kernel_rfl) ?_
  have hch := ChangeR_any F fa fc la lc l4 HL4.out O T w2 (HF.out.on HB2.out) (HV.out.on HB2.out) (H4.out.2.on HB2.out)
  have HCH := Lib.hid hch
  clear hch
  go_wp2_with fail
  refine HCH.out.mono ?_
  rintro e w3 ⟨rfl, hb⟩
  have HX3 := Lib.hid (HX2.out.on hb)
  have HB3 := Lib.hid (HB2.out.trans (hb.mono HB2.out.size))
  clear hb HCH HX2 HB2
  rename_i K hK
  refine hK _ _ ?_
  clear hK K
  iterate 4 (refine wpList_step (fun K hK => ?_); go_simp; refine hK _ _ ?_; clear hK K)
  obtain ⟨g0, g1, g2⟩ := newBlk w3 32 zeroZ (changeL F l4 O T) (changeL_len F l4 O T)
  obtain ⟨V, eV⟩ : ∃ V, w3.alloc (.cells zeroZ.toArray 32) = V := ⟨_, rfl⟩
  rw [eV] at g0 g1 g2
  generalize hG : World.alloc w3 _ = G
  obtain rfl : V = G := by rw [← hG, ← eV]; rfl
  clear hG eV
  refine store_v rfl rfl _ _ _ rfl w3.heap.size rfl (l' := changeL F l4 O T) rfl g0 (changeL_len F l4 O T) (changeL_one F l4 O T) (by kernel_rfl) ?_
  generalize World.setCells V _ _ _ = V4 at g1 g2 ⊢
  have hC4 : C2 w (frL F fa fc) w3.heap.size (changeL F l4 O T) V4 := ⟨HB3.out.trans (g2.mono HB3.out.size), HX3.out.lt, HX3.out.on g2, g1⟩
  have HC4 := Lib.hid hC4
  clear hC4 g0 g1 g2 HX3 HB3
  go_upto_region 4 with fail
  refine wp_region_lit ?_
  refine load_v rfl _ _ rfl w.heap.size rfl HC4.out.bf Tryd.underlying32 rfl (by kernel_rfl) ?_
  have hwh := Why14_any F fa fc HF.out.keys V4 (HF.out.at_.on HC4.out.below)
  have ef : frV F fa fc = .agg (frL F fa fc).toArray := rfl
  rw [ef] at hwh
  have HWH := Lib.hid hwh
  clear hwh ef
  go_wp2_with fail
  refine HWH.out.mono ?_
  rintro e w5 ⟨rfl, hb⟩
  have HC5 := Lib.hid (HC4.out.on hb)
  clear hb HWH HC4
  have hE1 : ∀ (h : ¬ whyF F = 0), changeE F l4 O T = whyF F := fun h => by unfold changeE; rw [if_pos h]
  by_cases h0 : whyF F = 0
  case neg =>
    have hE := hE1 h0
    have hM := changeL_bad F l4 O T (by rw [hE]; exact h0)
    obtain rfl : yz = false := by rw [← HQ.out.2.2]; exact decide_eq_false h0
    rw [hE]
    rw [hM] at HC5
    obtain ⟨y, ey⟩ : ∃ y, whyF F = y := ⟨_, rfl⟩
    rw [ey] at h0 ⊢
    have hne : (y != 0) = true := by rw [bne_iff_ne]; exact h0
    clear hE hE1 hM h0 ey
    go_upto_region 6 with fail
    clear hne
    refine wp_region_lit ?_
    iterate 1 (refine wpList_step (fun K hK => ?_); go_simp)
    refine (alive14_any _ (HV.out.fmt.on HC5.out.below)).mono ?_
    rintro e w6 ⟨rfl, hb⟩
    have HC6 := Lib.hid (HC5.out.on hb)
    clear hb HC5
    rename_i K hK
    refine hK _ _ ?_
    clear hK K
    iterate 15 (refine wpList_step (fun K hK => ?_); go_simp; refine hK _ _ ?_; clear hK K)
    refine load_gY (by rfl) _ _ rfl w3.heap.size rfl HC6.out.bc Tryd.underlying32 rfl (by kernel_rfl) ?_
    iterate 1 (refine wpList_step (fun K hK => ?_); go_simp; refine hK _ _ ?_; clear hK K)
    have hsm := sameZ frZ frZ none none 0 0 rfl rfl w6
    rw [decide_eq_true rfl] at hsm
    have HSM := Lib.hid hsm
    clear hsm
    go_wp2_with fail
    refine HSM.out.mono ?_
    rintro e w7 ⟨rfl, hb⟩
    have HB7 := Lib.hid (HC6.out.below.trans (hb.mono HC6.out.below.size))
    clear hb HSM HC6
    go_wp2_with fail
    go_ret
    exact ⟨rfl, HB7.out⟩
  case pos =>
    obtain rfl : yz = true := by rw [← HQ.out.2.2]; exact decide_eq_true h0
    rw [h0]
    clear hE1
    go_upto_region 7 with fail
    refine wp_region_lit ?_
    iterate 1 (refine wpList_step (fun K hK => ?_); go_simp)
    refine (numbers_all _).mono ?_
    rintro e w6 ⟨kv, rfl, hka, hb⟩
    have HC6 := Lib.hid (HC5.out.on hb)
    clear hb HC5
    rename_i K hK
    refine hK _ _ ?_
    clear hK K
    iterate 1 (refine wpList_step (fun K hK => ?_); go_simp; refine hK _ _ ?_; clear hK K)
    obtain ⟨v0, v1, rfl, hw0, hw1⟩ := id hka
    have o0 : v0.oneCell' = true := by obtain ⟨_, _, _, rfl, -⟩ := hw0; rfl
    have o1 : v1.oneCell' = true := by obtain ⟨_, _, _, rfl, -⟩ := hw1; rfl
    have ho1 : ∀ v ∈ [v0, v1], v.oneCell' = true := fun v hv => by
      simp only [List.mem_cons, List.not_mem_nil, or_false] at hv
      rcases hv with rfl | rfl
      · exact o0
      · exact o1
    obtain ⟨g0, g1, g2⟩ := newBlk w6 49 [.slice none 0 0, .slice none 0 0] [v0, v1] rfl
    obtain ⟨V, eV⟩ : ∃ V, w6.alloc (.cells ([.slice none 0 0, .slice none 0 0] : List Value).toArray 49) = V := ⟨_, rfl⟩
    rw [eV] at g0 g1 g2
    generalize hG : World.alloc w6 _ = G
    obtain rfl : V = G := by rw [← hG, ← eV]
    clear hG eV
    refine store_v rfl rfl _ _ _ rfl w6.heap.size rfl (l' := [v0, v1]) rfl g0 rfl ho1 (by kernel_rfl) ?_
    generalize World.setCells V _ _ _ = V7 at g1 g2 ⊢
    have HC7 := Lib.hid (HC6.out.on g2)
    have HK7 := Lib.hid (And.intro g1 (hka.on g2))
    clear g0 g1 g2 HC6 hka hw0 hw1 o0 o1 ho1
    go_upto_region 8 with fail
    refine wp_region_lit ?_
    refine load_v rfl _ _ rfl w6.heap.size rfl HK7.out.1 Tryd.underlying49 rfl (by kernel_rfl) ?_
    iterate 1 (refine wpList_step (fun K hK => ?_); go_simp; refine hK _ _ ?_; clear hK K)
    refine load_v rfl _ _ rfl w.heap.size rfl HC7.out.bf Tryd.underlying32 rfl (by kernel_rfl) ?_
    have hky := Key14_any (.agg #[v0, v1]) F fa fc h0 HF.out.ok la lc l4 HL4.out V7 HK7.out.2 (H4.out.2.on HC7.out.below)
    have ef : frV F fa fc = .agg (frL F fa fc).toArray := rfl
    rw [ef, HQ.out.1] at hky
    have HKY := Lib.hid hky
    clear hky ef
    go_wp2_with fail
    refine HKY.out.mono ?_
    rintro e w8 ⟨rfl, hb⟩
    have HC8 := Lib.hid (HC7.out.on hb)
    have HK8 := Lib.hid (And.intro (HK7.out.1.on hb) (HK7.out.2.on hb))
    clear hb HKY HC7 HK7
    have hqn : (Q.toList == []) = kz := by rw [str_nil]; exact HQ.out.2.1
    have hab := able_of (whyF_zero h0).1 (whyF_zero h0).2.1 HF.out.ok
    have hb32 := (whyF_zero h0).2.2
    obtain ⟨m, em⟩ : ∃ m : Nat, (F.body.size : Int) - 32 = (m : Int) := ⟨F.body.size - 32, by omega⟩
    have hbb := hab.body
    have hwr : IntKind.i64.wrap ((F.body.size : Int) - 32) = (m : Int) := by rw [IntKind.wrap_i64]; omega
    have HE := Lib.hid (And.intro h0 (And.intro hb32 em))
    have hkq := HQ.out.2.1
    have d11 : ∀ V, C2 w (frL F fa fc) w3.heap.size (changeL F l4 O T) V → V.cell? ⟨w.heap.size, 11, none⟩ = some (.string F.body) := fun V h => h.bf.cell 11 _ rfl
    have HD := Lib.hid d11
    clear d11 h0 hab hb32
    cases kz
    case true =>
      have hE : changeE F l4 O T = 5 := by unfold changeE; rw [if_neg (not_not_intro HE.out.1), if_pos (by rw [HQ.out.1]; exact of_decide_eq_true HQ.out.2.1)]
      have hM := changeL_bad F l4 O T (by rw [hE]; decide)
      rw [hE]
      rw [hM] at HC8 HD
      clear hE hM
      go_upto_region 13 with (go_at_call 10; refine (alive14_any _ (HV.out.fmt.on HC8.out.below)).mono ?_; rintro e w9 ⟨rfl, hb⟩; have HC9 := Lib.hid (HC8.out.on hb); have HK9 := Lib.hid (And.intro (HK8.out.1.on hb) (HK8.out.2.on hb)); have d11 := HD.out w9 HC9.out)
      clear HC8 HK8 hb d11
      refine wp_region_lit ?_
      iterate 3 (refine wpList_step (fun K hK => ?_); go_simp; refine hK _ _ ?_; clear hK K)
      refine load_gY (by rfl) _ _ rfl w3.heap.size rfl HC9.out.bc Tryd.underlying32 rfl (by kernel_rfl) ?_
      iterate 1 (refine wpList_step (fun K hK => ?_); go_simp; refine hK _ _ ?_; clear hK K)
      have hsm := sameZ frZ frZ none none 0 0 rfl rfl w9
      rw [decide_eq_true rfl] at hsm
      have HSM := Lib.hid hsm
      clear hsm
      go_wp2_with fail
      refine HSM.out.mono ?_
      rintro e w10 ⟨rfl, hb⟩
      have HB7 := Lib.hid (HC9.out.below.trans (hb.mono HC9.out.below.size))
      clear hb HSM HC9
      go_wp2_with fail
      go_ret
      exact ⟨rfl, HB7.out⟩
    case false =>
      have hk0 : ¬ (keyF F l4).size = 0 := by rw [HQ.out.1]; exact of_decide_eq_false HQ.out.2.1
      by_cases hs : O.size = F.body.size - 32 ∧ T.size = F.body.size - 32
      case neg =>
        have hE : changeE F l4 O T = 2 := by unfold changeE; rw [if_neg (not_not_intro HE.out.1), if_neg hk0, if_pos hs]
        have hM := changeL_bad F l4 O T (by rw [hE]; decide)
        rw [hE]
        rw [hM] at HC8 HD
        clear hE hM hk0
        by_cases h1 : O.size = F.body.size - 32
        case neg =>
          have b1 : ((O.size : Int) != (m : Int)) = true := by rw [bne_iff_ne]; have := HE.out.2; omega
          clear hs h1
          go_upto_region 15 with (go_at_call 10; refine (alive14_any _ (HV.out.fmt.on HC8.out.below)).mono ?_; rintro e w9 ⟨rfl, hb⟩; have HC9 := Lib.hid (HC8.out.on hb); have HK9 := Lib.hid (And.intro (HK8.out.1.on hb) (HK8.out.2.on hb)); have d11 := HD.out w9 HC9.out)
          clear HC8 HK8 hb d11
          refine wp_region_lit ?_
          iterate 3 (refine wpList_step (fun K hK => ?_); go_simp; refine hK _ _ ?_; clear hK K)
          refine load_gY (by rfl) _ _ rfl w3.heap.size rfl HC9.out.bc Tryd.underlying32 rfl (by kernel_rfl) ?_
          iterate 1 (refine wpList_step (fun K hK => ?_); go_simp; refine hK _ _ ?_; clear hK K)
          have hsm := sameZ frZ frZ none none 0 0 rfl rfl w9
          rw [decide_eq_true rfl] at hsm
          have HSM := Lib.hid hsm
          clear hsm
          go_wp2_with fail
          refine HSM.out.mono ?_
          rintro e w10 ⟨rfl, hb⟩
          have HB7 := Lib.hid (HC9.out.below.trans (hb.mono HC9.out.below.size))
          clear hb HSM HC9
          go_wp2_with fail
          go_ret
          exact ⟨rfl, HB7.out⟩
        case pos =>
          have b1 : ((O.size : Int) != (m : Int)) = false := by rw [bne_eq_false_iff_eq]; have := HE.out.2; omega
          have b2 : ((T.size : Int) != (m : Int)) = true := by rw [bne_iff_ne]; have := HE.out.2; intro h; exact hs ⟨h1, by omega⟩
          clear hs h1
          go_upto_region 15 with (go_at_call 10; refine (alive14_any _ (HV.out.fmt.on HC8.out.below)).mono ?_; rintro e w9 ⟨rfl, hb⟩; have HC9 := Lib.hid (HC8.out.on hb); have HK9 := Lib.hid (And.intro (HK8.out.1.on hb) (HK8.out.2.on hb)); have d11 := HD.out w9 HC9.out)
          clear HC8 HK8 hb d11
          refine wp_region_lit ?_
          iterate 3 (refine wpList_step (fun K hK => ?_); go_simp; refine hK _ _ ?_; clear hK K)
          refine load_gY (by rfl) _ _ rfl w3.heap.size rfl HC9.out.bc Tryd.underlying32 rfl (by kernel_rfl) ?_
          iterate 1 (refine wpList_step (fun K hK => ?_); go_simp; refine hK _ _ ?_; clear hK K)
          have hsm := sameZ frZ frZ none none 0 0 rfl rfl w9
          rw [decide_eq_true rfl] at hsm
          have HSM := Lib.hid hsm
          clear hsm
          go_wp2_with fail
          refine HSM.out.mono ?_
          rintro e w10 ⟨rfl, hb⟩
          have HB7 := Lib.hid (HC9.out.below.trans (hb.mono HC9.out.below.size))
          clear hb HSM HC9
          go_wp2_with fail
          go_ret
          exact ⟨rfl, HB7.out⟩
      case pos =>
        have hE : changeE F l4 O T = 0 := by unfold changeE; rw [if_neg (not_not_intro HE.out.1), if_neg hk0, if_neg (not_not_intro hs)]
        have hM := changeL_good F l4 O T hE
        have b1 : ((O.size : Int) != (m : Int)) = false := by rw [bne_eq_false_iff_eq]; have := HE.out.2; omega
        have b2 : ((T.size : Int) != (m : Int)) = false := by rw [bne_eq_false_iff_eq]; have := HE.out.2; omega
        have hQ32 : Q.size = 32 := by
          rw [← HQ.out.1]
          rcases firstK_or (strL (headF F)) (hidB F) F.body l4 with h | h
          · exact absurd h hk0
          · exact h.1
        have HS := Lib.hid (And.intro hs hQ32)
        rw [hE]
        rw [hM, HQ.out.1] at HC8 HD
        clear hE hM hk0 hs hQ32
        have hkeys := (able_of (whyF_zero HE.out.1).1 (whyF_zero HE.out.1).2.1 HF.out.ok).none
        have HKS := Lib.hid (show (changeF Q F O T).keys = [] from hkeys)
        clear hkeys
        go_upto_region 16 with (go_at_call 10; refine (alive14_any _ (HV.out.fmt.on HC8.out.below)).mono ?_; rintro e w9 ⟨rfl, hb⟩; have HC9 := Lib.hid (HC8.out.on hb); have HK9 := Lib.hid (And.intro (HK8.out.1.on hb) (HK8.out.2.on hb)); have d11 := (show w9.cell? ⟨w.heap.size, 11, none⟩ = some (.string F.body) from HC9.out.bf.cell 11 _ rfl))
        clear HC8 HK8 hb d11 b1 b2 hwr
        have hch := fun (d : Nat) (os : Array Obj) => Change14_any (.agg #[v0, v1]) Q HS.out.2 F fa fc HE.out.1 HF.out.ok O T HS.out.1.1 HS.out.1.2 (grow (redrawn w9 d) os) (HK9.out.2.on (below_regrown w9 d os))
        have ef : frV F fa fc = .agg (frL F fa fc).toArray := rfl
        have ec : frV (changeF Q F O T) fa fc = .agg (frL (changeF Q F O T) fa fc).toArray := rfl
        rw [ef, ec] at hch
        have hsm := fun (d : Nat) (os : Array Obj) => sameZ (changeF Q F O T) (changeF Q F O T) none fa 0 fc HKS.out HKS.out (grow (redrawn w9 d) os)
        rw [decide_eq_true rfl] at hsm
        generalize frL (changeF Q F O T) fa fc = M2 at hch hsm
        have hMl : (frL (changeF Q F O T) none 0).length = 13 := rfl
        obtain ⟨M1, eM1⟩ : ∃ M1, frL (changeF Q F O T) none 0 = M1 := ⟨_, rfl⟩
        rw [eM1] at HC9 hsm hMl
        have HCH := Lib.hid hch; have HSM := Lib.hid hsm; have HML := Lib.hid hMl
        clear hch hsm ef ec eM1 hMl HD
        have HO1 := Lib.hid (fun (w' : World) (h : ∃ p : Regrown, w' = grow (redrawn w9 p.d) p.os) => (show BlkV w' w3.heap.size 32 M1 by obtain ⟨⟨dd, os⟩, rfl⟩ := h; exact HC9.out.bc.on (below_regrown w9 dd os)))
        have HO2 := Lib.hid (fun (w' : World) (h : ∃ p : Regrown, w' = grow (redrawn w9 p.d) p.os) => (show BlkV w' w6.heap.size 49 [v0, v1] by obtain ⟨⟨dd, os⟩, rfl⟩ := h; exact HK9.out.1.on (below_regrown w9 dd os)))
        have HO3 := Lib.hid (fun (w' : World) (h : ∃ p : Regrown, w' = grow (redrawn w9 p.d) p.os) => (show BlkV w' w.heap.size 32 (frL F fa fc) by obtain ⟨⟨dd, os⟩, rfl⟩ := h; exact HC9.out.bf.on (below_regrown w9 dd os)))
        refine wp_region_quiet_below (by kernel_rfl) (by kernel_rfl) ?_
        iterate 3 (go_big_quiet_step (fail))
        refine load_qY (by rfl) _ _ rfl w3.heap.size rfl (l := M1) HO1.out Tryd.underlying32 rfl (by rw [HML.out]; kernel_rfl) ?_
        try simp only [Act.put, List.setIfInBounds_toArray, List.set_cons_zero, List.set_cons_succ]
        refine load_qY (by rfl) _ _ rfl w6.heap.size rfl (l := [v0, v1]) HO2.out Tryd.underlying49 rfl (by kernel_rfl) ?_
        try simp only [Act.put, List.setIfInBounds_toArray, List.set_cons_zero, List.set_cons_succ]
        iterate 1 (go_big_quiet_step (fail))
        refine load_qY (by rfl) _ _ rfl w.heap.size rfl (l := frL F fa fc) HO3.out Tryd.underlying32 rfl (by kernel_rfl) ?_
        try simp only [Act.put, List.setIfInBounds_toArray, List.set_cons_zero, List.set_cons_succ]
        iterate 2 (go_big_quiet_step (fail))
        iterate 1 (go_big_quiet_step (first | (go_at_call 20; with_reducible exact Calls.regrown_of (HCH.out _ _))))
        iterate 1 (go_big_quiet_step (first | (go_at_call 9; with_reducible exact Calls.regrown_of (HSM.out _ _))))
        iterate 2 (go_big_quiet_step (fail))
        refine wpQuiet_nil ?_
        intro _ hw'
        obtain ⟨⟨dq, osq⟩, hw''⟩ := hw'
        subst hw''
        have HB9 := Lib.hid (HC9.out.below.trans ((below_regrown w9 dq osq).mono HC9.out.below.size))
        clear HCH HSM HO1 HO2 HO3 HC9 HK9
        generalize grow (redrawn w9 dq) osq = V9 at HB9 ⊢
        rename_i K hK
        refine hK _ _ ?_
        clear hK K
        go_wp2_with fail
        go_ret
        exact ⟨rfl, HB9.out⟩
end Go.Proofs.YtdnjieffbgmagaaDoor
