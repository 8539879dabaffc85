/- RevealTakes: any session without some keys, and these, and a frame of any keys. -/
import Derived.Test.YtdnjieffbgmagaaDoorZe
import Derived.Test.YtdnjieffbgmagaaDoorZf
import Derived.Test.YtdnjieffbgmagaaDoorZi
import Derived.Test.YtdnjieffbgmagaaDoorQk
import Derived.Test.YtdnjieffbgmagaaDoorBRg1
import Derived.Test.YtdnjieffbgmagaaDoorBRg2
import Derived.Test.YtdnjieffbgmagaaDoorBg16
import Derived.BigQuiet
namespace Go.Proofs.YtdnjieffbgmagaaDoor
open Go.RowKit Go.Sort
set_option maxRecDepth 100000

theorem skipZ {P : Program} {ops : Array Oper} {Q : Exit → Act → World → Prop} {rest : List Oper} {o : Oper} {a : Act} {w : World} (hw : Region.wanted o (yielded ops a.tmps) = false)
    (h : wpList P ops Q rest (a.put o.dst undef) w) : wpList P ops Q (o :: rest) a w :=
  wpList_step fun K hK => by
    rw [if_neg (by rw [hw]; decide)]
    exact hK _ _ h
/-- a session's first keys and tags -/
def fewZ (s : Se) : Se := { s with kept := s.kept.take 22, used := s.used.take 42 }
def TakeU (w : World) (S : Se) (m : Int) (LS : List Value) (kv : Value) (code : Int) (w' : World) : Prop :=
  LS.length = 10 ∧ (∀ v ∈ LS, v.oneCell' = true) ∧ Below w.heap.size w w' ∧
  ((takeE S m ≠ 0 ∧ LS = seL se0 none 0 none 0 ∧ kv = .slice none 0 0 ∧ code = takeE S m) ∨
   (takeE S m = 0 ∧ code = 0 ∧ ∃ (n : Nat) (a' : Option Addr) (c' : Nat) (b' : Option Addr) (d' : Nat) (k : Option Addr) (j : Nat), min m (S.used.length : Int) = (n : Int) ∧ LS = seL (takeS S n) a' c' b' d' ∧ kv = .slice k (S.used.take n).length j ∧ Rd9 w' b' d' (S.used.drop n) ∧ Rd9 w' k j (S.used.take n)))
theorem take_u {w : World} {S : Se} {m : Int} {e : Ending} {w' : World} (h : TakePost w S m e w') : ∃ (LS : List Value) (kv : Value) (code : Int), e = .returned (.tuple #[.agg LS.toArray, kv, .int .i64 code]) ∧ TakeU w S m LS kv code w' := by
  rcases h with ⟨h0, he, hb⟩ | ⟨h0, n, a', c', b', d', k, j, hn, he, -, h1, h2, -, hb⟩
  · exact ⟨_, _, _, he, rfl, seL_oneZ _ _ _ _ _, hb, Or.inl ⟨h0, rfl, rfl, rfl⟩⟩
  · exact ⟨_, _, _, he, rfl, seL_oneZ _ _ _ _ _, hb, Or.inr ⟨h0, rfl, n, a', c', b', d', k, j, hn, rfl, rfl, h1, h2⟩⟩
def FrameU (w : World) (F : Fr) (LF : List Value) (g : Int) (w' : World) : Prop :=
  LF.length = 13 ∧ (∀ v ∈ LF, v.oneCell' = true) ∧ Below w.heap.size w w' ∧
  ((rightF F = true ∧ g = 0 ∧ ∃ (a' : Option Addr) (c' : Nat), LF = frL F a' c' ∧ Rd9 w' a' c' F.keys) ∨ (rightF F = false ∧ g = 1 ∧ LF = zeroZ))
theorem frame_u {w : World} {x y z : Nat} {l : List ByteArray} {e : Ending} {w' : World} (h : FramePost w x y z l e w') : ∃ (LF : List Value) (g : Int), e = .returned (.tuple #[.agg LF.toArray, .int .i64 g]) ∧ FrameU w (revF x y z l) LF g w' := by
  rcases h with ⟨h0, a', c', he, h1, hb⟩ | ⟨h0, he, hb⟩
  · exact ⟨_, _, he, rfl, frL_oneZ _ _ _, hb, Or.inl ⟨h0, rfl, a', c', rfl, h1⟩⟩
  · exact ⟨_, _, he, rfl, frL_oneZ _ _ _, hb, Or.inr ⟨h0, rfl, rfl⟩⟩
/-- both sessions' boxes -/
structure D3 (w : World) (L : List Value) (n : Nat) (M : List Value) (w2 wx : World) : Prop where
  below : Below w.heap.size w wx
  bs : BlkV wx w.heap.size 26 L
  bt : BlkV wx n 26 M
  up : Below w2.heap.size w2 wx
theorem D3.on {w wx wy w2 : World} {L : List Value} {n : Nat} {M : List Value} (h : D3 w L n M w2 wx) (hb : Below wx.heap.size wx wy) : D3 w L n M w2 wy := ⟨h.below.trans (hb.mono h.below.size), h.bs.on hb, h.bt.on hb, h.up.trans (hb.mono h.up.size)⟩
theorem sameZq (w : World) :
    Calls Tryd.prog 9 #[.agg zeroZ.toArray, .agg zeroZ.toArray] w fun e w' => e = .returned (.bool true) ∧ Below w.heap.size w w' := by
  have h := r8Same_any frZ frZ none none 0 0 (Nat.zero_le _) (Nat.zero_le _) w (fun h => absurd h (Nat.lt_irrefl 0)) (fun h => absurd h (Nat.lt_irrefl 0))
  rw [decide_eq_true rfl] at h
  exact h
theorem sameS0 (w : World) :
    Calls Tryd.prog 12 #[.agg (seL se0 none 0 none 0).toArray, .agg (seL se0 none 0 none 0).toArray] w fun e w' => e = .returned (.bool true) ∧ Below w.heap.size w w' := by
  have hn : SeAt w se0 none none := ⟨fun h => absurd h (Nat.lt_irrefl 0), fun h => absurd h (Nat.lt_irrefl 0)⟩
  have h := rSame_any se0 se0 none 0 none 0 none 0 none 0 (Nat.zero_le _) (Nat.zero_le _) w hn hn
  rw [decide_eq_true rfl] at h
  exact h
/-- what was cut, put together again -/
theorem cat_back (k b' : Option Addr) (j d' : Nat) (u : List ByteArray) (n : Nat) (hn : n ≤ u.length) (hu : u.length ≤ 42) (w : World) (h1 : Rd9 w k j (u.take n)) (h2 : Rd9 w b' d' (u.drop n)) :
    Calls Tryd.prog 14 #[.slice (some ⟨w.heap.size, 0, none⟩) 2 2] (w.alloc (.cells #[.slice k n j, .slice b' (u.drop n).length d'] 24)) fun e w' => ∃ v, e = .returned v ∧ ∃ a2 c2, v = .slice a2 u.length c2 ∧ SSl w' a2 u ∧
      Below (w.alloc (.cells #[.slice k n j, .slice b' (u.drop n).length d'] 24)).heap.size (w.alloc (.cells #[.slice k n j, .slice b' (u.drop n).length d'] 24)) w' := by
  have htl : (u.take n).length = n := by rw [List.length_take]; omega
  have hb : Below w.heap.size w (w.alloc (.cells #[.slice k n j, .slice b' (u.drop n).length d'] 24)) := (Below.refl _ _).alloc (Nat.le_refl _) _
  have hX : BlkV (w.alloc (.cells #[.slice k n j, .slice b' (u.drop n).length d'] 24)) w.heap.size 24 [.slice k n j, .slice b' (u.drop n).length d'] := BlkV.fresh _ _ _ _ rfl _ rfl
  have h := concat_rd k b' j d' (u.take n) (u.drop n) (by rw [htl]; omega) (by rw [List.length_drop]; omega) w.heap.size _ hX.lt (by rw [htl]; exact hX.cell 0 _ rfl) (hX.cell 1 _ rfl) (h1.on hb) (h2.on hb)
  rw [List.take_append_drop] at h
  refine h.mono ?_
  rintro e w' ⟨a2, c2, he, hr, hb2⟩
  exact ⟨_, he, a2, c2, rfl, hr.ss, hb2⟩
set_option maxHeartbeats 32000000 in
theorem revealTakes_any (s : Se) (a : Option Addr) (c : Nat) (b : Option Addr) (d : Nat) (_hk : s.kept.length ≤ maxLen) (hkc : s.kept.length ≤ c) (_hu : s.used.length ≤ maxLen) (hud : s.used.length ≤ d) (m : Int) (x y z : Nat) (ka : Option Addr) (kc : Nat) (l : List ByteArray) (hl : l.length ≤ maxLen) (hlc : l.length ≤ kc)
    (w : World) (hF : FmtAt w) (hs : SeAt w s a b) (hp : SSl w ka l) :
    Calls Tryd.prog 3 #[seV s a c b d, .int .i64 m, .int .u64 (x : Int), .int .u64 (y : Int), .int .u64 (z : Int), .slice ka l.length kc] w fun e w' => e = .returned (.bool true) ∧ Below w.heap.size w w' := by
  obtain ⟨W, eW⟩ : ∃ W, w.alloc (.cells (seL s a c b d).toArray 26) = W := ⟨_, rfl⟩
  have hbW : Below w.heap.size w W := by rw [← eW]; exact (Below.refl _ _).alloc (Nat.le_refl _) _
  have hX : BlkV W w.heap.size 26 (seL s a c b d) := by rw [← eW]; exact BlkV.fresh _ _ _ _ rfl _ rfl
  have es : seV s a c b d = .agg (seL s a c b d).toArray := rfl
  rw [es]
  obtain ⟨mk, emk⟩ : ∃ m : Nat, min (s.kept.length : Int) 22 = (m : Int) := ⟨min s.kept.length 22, by omega⟩
  obtain ⟨mu, emu⟩ : ∃ m : Nat, min (s.used.length : Int) 42 = (m : Int) := ⟨min s.used.length 42, by omega⟩
  have kk : (mk : Int) ≤ (c : Int) := by omega
  have ku : (mu : Int) ≤ (d : Int) := by omega
  have hm1 : (fewZ s).kept.length = mk := by show (s.kept.take 22).length = mk; rw [List.length_take]; omega
  have hm2 : (fewZ s).used.length = mu := by show (s.used.take 42).length = mu; rw [List.length_take]; omega
  have hset : ((seL s a c b d).set 8 (.slice a mk c)).set 9 (.slice b mu d) = seL (fewZ s) a c b d := by rw [← hm1, ← hm2]; rfl
  have hlen : (fewZ s).kept.length ≤ 1000 ∧ (fewZ s).kept.length ≤ c ∧ (fewZ s).used.length ≤ 42 ∧ (fewZ s).used.length ≤ d := by omega
  have hat : SeAt w (fewZ s) a b := ⟨hs.kept.take 22, hs.used.take 42⟩
  have hfw := fun V => few14_any ka kc l hl hlc V
  have hkl : (l.take 34).length ≤ 34 := by rw [List.length_take]; omega
  have hks : SSl w ka (l.take 34) := hp.take 34
  have HX := Lib.hid hX; have HB := Lib.hid hbW; have HE := Lib.hid eW; have HFW := Lib.hid hfw; have HM := Lib.hid (And.intro hset hlen); have HF := Lib.hid hF; have HA := Lib.hid hat; have HK := Lib.hid (And.intro hkl hks)
  clear hX hbW eW es hm1 hm2 hset hlen hat hfw hkl hks hkc hud hl hlc hF hs hp
  go_enter Tryd.func3, Tryd.ntmps3
  go_upto_region 1 with fail
  generalize hG : World.alloc w _ = G
  obtain rfl : W = G := by rw [← hG, ← HE.out]
  clear hG HE
  have hS0 : BlkV W.drew w.heap.size 26 (seL s a c b d) ∧ Below W.heap.size W W.drew := ⟨HX.out.on (Below.refl _ _).drew, (Below.refl _ _).drew⟩
  refine region_K 17 (fun V => BlkV V w.heap.size 26 (seL s a c b d) ∧ Below W.heap.size W V) (by kernel_rfl) ?_
  generalize W.drew = D at hS0 ⊢
  refine K_pure (i := 0) (v := Value.pointer (some ⟨w.heap.size, 8, none⟩)) rfl (by kernel_rfl) (by kernel_rfl) (by kernel_rfl) (by kernel_rfl) (fun _ _ _ h => h) (Or.inl ⟨rfl, fun _ _ => by first | (go_simp; done) | kernel_rfl⟩) hS0 ?_
  try simp only [Act.put, List.getElem_toArray, List.getElem_cons_zero, List.setIfInBounds_toArray, List.set_cons_zero, List.set_cons_succ]
  refine K_take (i := 1) (v := Value.slice a s.kept.length c) rfl (by kernel_rfl) (by kernel_rfl) (by kernel_rfl) (by kernel_rfl) (by kernel_rfl) (fun _ _ _ h => h) (Or.inl ⟨rfl, fun W hW => by have hc := hW.1.cell 8 _ rfl; go_simp⟩) hS0 ?_
  try simp only [Act.put, List.getElem_toArray, List.getElem_cons_zero, List.getElem_cons_succ, List.setIfInBounds_toArray, List.set_cons_zero, List.set_cons_succ]
  refine K_pure (i := 2) (v := Value.pointer (some ⟨w.heap.size, 8, none⟩)) rfl (by kernel_rfl) (by kernel_rfl) (by kernel_rfl) (by kernel_rfl) (fun _ _ _ h => h) (Or.inl ⟨rfl, fun _ _ => by first | (go_simp; done) | kernel_rfl⟩) hS0 ?_
  try simp only [Act.put, List.getElem_toArray, List.getElem_cons_zero, List.getElem_cons_succ, List.setIfInBounds_toArray, List.set_cons_zero, List.set_cons_succ]
  refine K_take (i := 3) (v := Value.slice a s.kept.length c) rfl (by kernel_rfl) (by kernel_rfl) (by kernel_rfl) (by kernel_rfl) (by kernel_rfl) (fun _ _ _ h => h) (Or.inl ⟨rfl, fun W hW => by have hc := hW.1.cell 8 _ rfl; go_simp⟩) hS0 ?_
  try simp only [Act.put, List.getElem_toArray, List.getElem_cons_zero, List.getElem_cons_succ, List.setIfInBounds_toArray, List.set_cons_zero, List.set_cons_succ]
  refine K_pure (i := 4) (v := Value.int .i64 (s.kept.length : Int)) rfl (by kernel_rfl) (by kernel_rfl) (by kernel_rfl) (by kernel_rfl) (fun _ _ _ h => h) (Or.inl ⟨rfl, fun _ _ => by first | (go_simp; done) | kernel_rfl⟩) hS0 ?_
  try simp only [Act.put, List.getElem_toArray, List.getElem_cons_zero, List.getElem_cons_succ, List.setIfInBounds_toArray, List.set_cons_zero, List.set_cons_succ]
  refine K_pure (i := 5) (v := Value.int .i64 (mk : Int)) rfl (by kernel_rfl) (by kernel_rfl) (by kernel_rfl) (by kernel_rfl) (fun _ _ _ h => h) (Or.inl ⟨rfl, fun _ _ => by first | (go_simp; done) | kernel_rfl⟩) hS0 ?_
  try simp only [Act.put, List.getElem_toArray, List.getElem_cons_zero, List.getElem_cons_succ, List.setIfInBounds_toArray, List.set_cons_zero, List.set_cons_succ]
  refine K_pure (i := 6) (v := Value.slice a mk c) rfl (by kernel_rfl) (by kernel_rfl) (by kernel_rfl) (by kernel_rfl) (fun _ _ _ h => h) (Or.inl ⟨rfl, fun _ _ => by first | (go_simp; done) | kernel_rfl⟩) hS0 ?_
  try simp only [Act.put, List.getElem_toArray, List.getElem_cons_zero, List.getElem_cons_succ, List.setIfInBounds_toArray, List.set_cons_zero, List.set_cons_succ]
  refine K_pure (i := 7) (v := Value.pointer (some ⟨w.heap.size, 9, none⟩)) rfl (by kernel_rfl) (by kernel_rfl) (by kernel_rfl) (by kernel_rfl) (fun _ _ _ h => h) (Or.inl ⟨rfl, fun _ _ => by first | (go_simp; done) | kernel_rfl⟩) hS0 ?_
  try simp only [Act.put, List.getElem_toArray, List.getElem_cons_zero, List.getElem_cons_succ, List.setIfInBounds_toArray, List.set_cons_zero, List.set_cons_succ]
  refine K_take (i := 8) (v := Value.slice b s.used.length d) rfl (by kernel_rfl) (by kernel_rfl) (by kernel_rfl) (by kernel_rfl) (by kernel_rfl) (fun _ _ _ h => h) (Or.inl ⟨rfl, fun W hW => by have hc := hW.1.cell 9 _ rfl; go_simp⟩) hS0 ?_
  try simp only [Act.put, List.getElem_toArray, List.getElem_cons_zero, List.getElem_cons_succ, List.setIfInBounds_toArray, List.set_cons_zero, List.set_cons_succ]
  refine K_pure (i := 9) (v := Value.pointer (some ⟨w.heap.size, 9, none⟩)) rfl (by kernel_rfl) (by kernel_rfl) (by kernel_rfl) (by kernel_rfl) (fun _ _ _ h => h) (Or.inl ⟨rfl, fun _ _ => by first | (go_simp; done) | kernel_rfl⟩) hS0 ?_
  try simp only [Act.put, List.getElem_toArray, List.getElem_cons_zero, List.getElem_cons_succ, List.setIfInBounds_toArray, List.set_cons_zero, List.set_cons_succ]
  refine K_take (i := 10) (v := Value.slice b s.used.length d) rfl (by kernel_rfl) (by kernel_rfl) (by kernel_rfl) (by kernel_rfl) (by kernel_rfl) (fun _ _ _ h => h) (Or.inl ⟨rfl, fun W hW => by have hc := hW.1.cell 9 _ rfl; go_simp⟩) hS0 ?_
  try simp only [Act.put, List.getElem_toArray, List.getElem_cons_zero, List.getElem_cons_succ, List.setIfInBounds_toArray, List.set_cons_zero, List.set_cons_succ]
  refine K_pure (i := 11) (v := Value.int .i64 (s.used.length : Int)) rfl (by kernel_rfl) (by kernel_rfl) (by kernel_rfl) (by kernel_rfl) (fun _ _ _ h => h) (Or.inl ⟨rfl, fun _ _ => by first | (go_simp; done) | kernel_rfl⟩) hS0 ?_
  try simp only [Act.put, List.getElem_toArray, List.getElem_cons_zero, List.getElem_cons_succ, List.setIfInBounds_toArray, List.set_cons_zero, List.set_cons_succ]
  refine K_pure (i := 12) (v := Value.int .i64 (mu : Int)) rfl (by kernel_rfl) (by kernel_rfl) (by kernel_rfl) (by kernel_rfl) (fun _ _ _ h => h) (Or.inl ⟨rfl, fun _ _ => by first | (go_simp; done) | kernel_rfl⟩) hS0 ?_
  try simp only [Act.put, List.getElem_toArray, List.getElem_cons_zero, List.getElem_cons_succ, List.setIfInBounds_toArray, List.set_cons_zero, List.set_cons_succ]
  refine K_pure (i := 13) (v := Value.slice b mu d) rfl (by kernel_rfl) (by kernel_rfl) (by kernel_rfl) (by kernel_rfl) (fun _ _ _ h => h) (Or.inl ⟨rfl, fun _ _ => by first | (go_simp; done) | kernel_rfl⟩) hS0 ?_
  try simp only [Act.put, List.getElem_toArray, List.getElem_cons_zero, List.getElem_cons_succ, List.setIfInBounds_toArray, List.set_cons_zero, List.set_cons_succ]
  refine K_pure (i := 14) (v := Value.slice ka l.length kc) rfl (by kernel_rfl) (by kernel_rfl) (by kernel_rfl) (by kernel_rfl) (fun _ _ _ h => h) (Or.inl ⟨rfl, fun _ _ => by first | (go_simp; done) | kernel_rfl⟩) hS0 ?_
  try simp only [Act.put, List.getElem_toArray, List.getElem_cons_zero, List.getElem_cons_succ, List.setIfInBounds_toArray, List.set_cons_zero, List.set_cons_succ]
  refine K_pure (i := 16) (v := Value.pointer (some ⟨w.heap.size, 8, none⟩)) rfl (by kernel_rfl) (by kernel_rfl) (by kernel_rfl) (by kernel_rfl) (fun _ _ _ h => h) (Or.inl ⟨rfl, fun _ _ => by first | (go_simp; done) | kernel_rfl⟩) hS0 ?_
  try simp only [Act.put, List.getElem_toArray, List.getElem_cons_zero, List.getElem_cons_succ, List.setIfInBounds_toArray, List.set_cons_zero, List.set_cons_succ]
  refine K_all (rs := [15]) (by kernel_rfl) (by decide) (List.forall_mem_cons.2 ⟨?_, List.forall_mem_nil _⟩)
  refine callv_any (f := 5) (args := #[.slice ka l.length kc]) rfl rfl (by kernel_rfl) (v := .slice ka (l.take 34).length kc) (R := fun V => D = V) (HFW.out D) ?_
  rintro _ rfl
  refine ⟨fun _ => hS0, ?_⟩
  try simp only [Act.put, List.getElem_toArray, List.getElem_cons_zero, List.getElem_cons_succ, List.setIfInBounds_toArray, List.set_cons_zero, List.set_cons_succ]
  refine K_all (rs := [17]) (by kernel_rfl) (by decide) (List.forall_mem_cons.2 ⟨?_, List.forall_mem_nil _⟩)
  have h8 := hS0.1.cell 8 _ rfl
  have y8 := hS0.1.frozen 8
  refine skip_any rfl rfl (w' := D.setCell ⟨w.heap.size, 8, none⟩ (.slice a mk c)) (by go_simp) ?_
  clear h8 y8
  refine ⟨fun hf => absurd (show true = false from hf) (by decide), K_of_any _ _ _ _ (by kernel_rfl) ?_⟩
  try simp only [Act.put, List.getElem_toArray, List.getElem_cons_zero, List.getElem_cons_succ]
  have hX5 := hS0.1.set 8 (.slice a mk c)
  refine wpAny_take (i := 18) (v := Value.pointer (some ⟨w.heap.size, 9, none⟩)) rfl (by kernel_rfl) (by kernel_rfl) (by kernel_rfl) (fun _ _ _ h => h) (.inl ⟨rfl, fun W => by first | (go_simp; done) | kernel_rfl⟩) ?_
  try simp only [Act.put, List.getElem_toArray, List.getElem_cons_zero, List.getElem_cons_succ, List.setIfInBounds_toArray, List.set_cons_zero, List.set_cons_succ]
  refine wpAny_all (rs := [19]) (by kernel_rfl) (by decide) (List.forall_mem_cons.2 ⟨?_, List.forall_mem_nil _⟩)
  have h9 := hX5.cell 9 _ rfl
  have y9 := hX5.frozen 9
  refine skip_any rfl rfl (w' := (D.setCell ⟨w.heap.size, 8, none⟩ (.slice a mk c)).setCell ⟨w.heap.size, 9, none⟩ (.slice b mu d)) (by go_simp) ?_
  clear h9 y9
  try simp only [Act.put, List.getElem_toArray, List.getElem_cons_zero, List.getElem_cons_succ]
  refine wpAny_take (i := 20) (v := Value.slice ka (l.take 34).length kc) rfl (by kernel_rfl) (by kernel_rfl) (by kernel_rfl) (fun _ _ _ h => h) (.inl ⟨rfl, fun W => by first | (go_simp; done) | kernel_rfl⟩) ?_
  try simp only [Act.put, List.getElem_toArray, List.getElem_cons_zero, List.getElem_cons_succ, List.setIfInBounds_toArray, List.set_cons_zero, List.set_cons_succ]
  refine wpAny_done (by kernel_rfl) ?_ _
  have hX6 := hX5.set 9 (.slice b mu d)
  rw [HM.out.1] at hX6
  have hb6 := ((HB.out.trans (hS0.2.mono HB.out.size)).setCell (p := ⟨w.heap.size, 8, none⟩) (Nat.le_refl _) (.slice a mk c)).setCell (p := ⟨w.heap.size, 9, none⟩) (Nat.le_refl _) (.slice b mu d)
  obtain ⟨S, eS⟩ : ∃ S, fewZ s = S := ⟨_, rfl⟩
  obtain ⟨l3, el3⟩ : ∃ l3, l.take 34 = l3 := ⟨_, rfl⟩
  rw [eS] at hX6
  rw [eS] at HM HA
  rw [el3] at HK
  rw [el3]
  clear hS0 hX5 emk emu kk ku eS el3 HFW HX HB
  generalize World.setCell (World.setCell D _ _) _ _ = V1 at hX6 hb6 ⊢
  have HX1 := Lib.hid hX6; have HB1 := Lib.hid hb6
  clear hX6 hb6
  go_upto_region 2 with fail
  refine wp_region_lit ?_
  refine load_v rfl _ _ rfl w.heap.size rfl HX1.out Tryd.underlying26 rfl (by kernel_rfl) ?_
  have htk := Take_any S a c b d HM.out.2.1 HM.out.2.2.1 (by have := HM.out.2; omega) HM.out.2.2.2.2 m V1 ⟨HA.out.kept.on HB1.out, HA.out.used.on HB1.out⟩
  have es : seV S a c b d = .agg (seL S a c b d).toArray := rfl
  rw [es] at htk
  have HTK := Lib.hid htk
  clear htk es
  go_wp2_with fail
  refine HTK.out.mono ?_
  rintro e w2 hT0
  obtain ⟨LS, kv, code, rfl, hT⟩ := take_u hT0
  clear hT0
  have HT := Lib.hid hT
  have HX2 := Lib.hid (HX1.out.on hT.2.2.1)
  have HB2 := Lib.hid (HB1.out.trans (hT.2.2.1.mono HB1.out.size))
  clear hT HTK HX1 HB1
  rename_i K hK
  refine hK _ _ ?_
  clear hK K
  iterate 5 (refine wpList_step (fun K hK => ?_); go_simp; refine hK _ _ ?_; clear hK K)
  obtain ⟨g0, g1, g2⟩ := newBlk w2 26 (seL se0 none 0 none 0) LS HT.out.1
  obtain ⟨V, eV⟩ : ∃ V, w2.alloc (.cells (seL se0 none 0 none 0).toArray 26) = V := ⟨_, rfl⟩
  rw [eV] at g0 g1 g2
  generalize hG : World.alloc w2 _ = G
  obtain rfl : V = G := by rw [← hG, ← eV]; rfl
  clear hG eV
  refine store_v rfl rfl _ _ _ rfl w2.heap.size rfl (l' := LS) rfl g0 HT.out.1 HT.out.2.1 (by kernel_rfl) ?_
  generalize World.setCells V _ _ _ = V3 at g1 g2 ⊢
  have HD3 := Lib.hid (show D3 w (seL S a c b d) w2.heap.size LS w2 V3 from ⟨HB2.out.trans (g2.mono HB2.out.size), HX2.out.on g2, g1, g2⟩)
  clear g0 g1 g2 HX2 HB2
  go_upto_region 3 with fail
  refine wp_region_lit ?_
  iterate 4 (refine wpList_step (fun K hK => ?_); go_simp; refine hK _ _ ?_; clear hK K)
  have hfr := Frame_any x y z ka kc l3 (by have := HK.out.1; omega) V3 (HK.out.2.on HD3.out.below) (HF.out.on HD3.out.below)
  have HFR := Lib.hid hfr
  clear hfr
  go_wp2_with fail
  refine HFR.out.mono ?_
  rintro e w4 hU0
  obtain ⟨LF, g, rfl, hU⟩ := frame_u hU0
  clear hU0
  have HU := Lib.hid hU
  have HD4 := Lib.hid (HD3.out.on hU.2.2.1)
  clear hU HFR HD3
  obtain ⟨F, eF⟩ : ∃ F, revF x y z l3 = F := ⟨_, rfl⟩
  have hfk : F.keys = l3 := by rw [← eF]; rfl
  have hlist : frL F ka kc = [.int .i64 2, .int .u64 (x : Int), .int .u64 (y : Int), .int .u64 (z : Int), .string ⟨#[]⟩, .string ⟨#[]⟩, .int .u64 0, .int .u64 0, .string ⟨#[]⟩, .int .u64 0, .int .u64 0, .string ⟨#[]⟩, .slice ka l3.length kc] := by rw [← eF]; rfl
  rw [eF] at HU
  have HFL := Lib.hid (And.intro hfk hlist)
  clear hfk hlist eF
  rename_i K hK
  refine hK _ _ ?_
  clear hK K
  iterate 4 (refine wpList_step (fun K hK => ?_); go_simp; refine hK _ _ ?_; clear hK K)
  obtain ⟨g0, g1, g2⟩ := newBlk w4 32 (zeroZ) LF HU.out.1
  obtain ⟨V, eV⟩ : ∃ V, w4.alloc (.cells (zeroZ).toArray 32) = V := ⟨_, rfl⟩
  rw [eV] at g0 g1 g2
  generalize hG : World.alloc w4 _ = G
  obtain rfl : V = G := by rw [← hG, ← eV]; rfl
  clear hG eV
  refine store_v rfl rfl _ _ _ rfl w4.heap.size rfl (l' := LF) rfl g0 HU.out.1 HU.out.2.1 (by kernel_rfl) ?_
  generalize World.setCells V _ _ _ = V5 at g1 g2 ⊢
  have HD5 := Lib.hid (HD4.out.on g2)
  have HG5 := Lib.hid g1
  have HU5 := Lib.hid g2
  clear g0 g1 g2 HD4
  go_upto_region 4 with fail
  refine wp_region_lit ?_
  iterate 6 (refine wpList_step (fun K hK => ?_); go_simp; refine hK _ _ ?_; clear hK K)
  obtain ⟨g0, g1, g2⟩ := newBlk V5 32 zeroZ (frL F ka kc) rfl
  obtain ⟨V, eV⟩ : ∃ V, V5.alloc (.cells (zeroZ).toArray 32) = V := ⟨_, rfl⟩
  rw [eV] at g0 g1 g2
  generalize hG : World.alloc V5 _ = G
  obtain rfl : V = G := by rw [← hG, ← eV]; rfl
  clear hG eV
  refine store_v rfl rfl _ _ _ rfl V5.heap.size rfl (l' := frL F ka kc) (by rw [HFL.out.2]; rfl) g0 rfl (frL_oneZ _ _ _) (by kernel_rfl) ?_
  generalize World.setCells V _ _ _ = V6 at g1 g2 ⊢
  have HD6 := Lib.hid (HD5.out.on g2)
  have HG6 := Lib.hid (And.intro (HG5.out.on g2) g1)
  have HU6 := Lib.hid (HU5.out.trans (g2.mono HU5.out.size))
  clear g0 g1 g2 HD5 HG5 HU5
  go_upto_region 5 with fail
  refine wp_region_lit ?_
  refine load_v rfl _ _ rfl V5.heap.size rfl HG6.out.2 Tryd.underlying32 rfl (by kernel_rfl) ?_
  have hrt := r8Right_any F ka kc (by rw [HFL.out.1]; have := HK.out.1; unfold maxLen; omega) V6 (by rw [HFL.out.1]; exact HK.out.2.on HD6.out.below)
  have ef : frV F ka kc = .agg (frL F ka kc).toArray := rfl
  rw [ef] at hrt
  have HRT := Lib.hid hrt
  clear hrt ef
  go_wp2_with fail
  refine HRT.out.mono ?_
  rintro e w7 ⟨rfl, hb⟩
  have HD7 := Lib.hid (HD6.out.on hb)
  have HG7 := Lib.hid (And.intro (HG6.out.1.on hb) (HG6.out.2.on hb))
  have HU7 := Lib.hid (HU6.out.trans (hb.mono HU6.out.size))
  clear hb HD6 HG6 HU6 HRT
  have hcase := HU.out.2.2.2
  obtain ⟨may, emay⟩ : ∃ may, rightF F = may := ⟨_, rfl⟩
  rw [emay] at hcase ⊢
  have hE2 := HT.out.2.2.2
  cases may
  case false =>
    obtain ⟨-, rfl, rfl⟩ := hcase.resolve_left (fun h => by cases h.1)
    have hsm := sameZq w7
    have HSM := Lib.hid hsm
    clear hsm hcase
    have q0 : w7.cell? ⟨w4.heap.size, 0, none⟩ = some (.int .i64 0) := HG7.out.1.cell 0 _ rfl
    have q1 : w7.cell? ⟨w4.heap.size, 1, none⟩ = some (.int .u64 0) := HG7.out.1.cell 1 _ rfl
    have q2 : w7.cell? ⟨w4.heap.size, 2, none⟩ = some (.int .u64 0) := HG7.out.1.cell 2 _ rfl
    have q3 : w7.cell? ⟨w4.heap.size, 3, none⟩ = some (.int .u64 0) := HG7.out.1.cell 3 _ rfl
    have q4 : w7.cell? ⟨w4.heap.size, 4, none⟩ = some (.string ⟨#[]⟩) := HG7.out.1.cell 4 _ rfl
    have q5 : w7.cell? ⟨w4.heap.size, 5, none⟩ = some (.string ⟨#[]⟩) := HG7.out.1.cell 5 _ rfl
    have q6 : w7.cell? ⟨w4.heap.size, 6, none⟩ = some (.int .u64 0) := HG7.out.1.cell 6 _ rfl
    have q7 : w7.cell? ⟨w4.heap.size, 7, none⟩ = some (.int .u64 0) := HG7.out.1.cell 7 _ rfl
    have q8 : w7.cell? ⟨w4.heap.size, 8, none⟩ = some (.string ⟨#[]⟩) := HG7.out.1.cell 8 _ rfl
    have q9 : w7.cell? ⟨w4.heap.size, 9, none⟩ = some (.int .u64 0) := HG7.out.1.cell 9 _ rfl
    have q10 : w7.cell? ⟨w4.heap.size, 10, none⟩ = some (.int .u64 0) := HG7.out.1.cell 10 _ rfl
    have q11 : w7.cell? ⟨w4.heap.size, 11, none⟩ = some (.string ⟨#[]⟩) := HG7.out.1.cell 11 _ rfl
    have q12 : w7.cell? ⟨w4.heap.size, 12, none⟩ = some (.slice none 0 0) := HG7.out.1.cell 12 _ rfl
    go_upto_region 8 with (first | (go_at_call 9; refine HSM.out.mono ?_; rintro e w8 ⟨rfl, hb8⟩; have HD8 := Lib.hid (HD7.out.on hb8)) | (go_at_call 10; refine (alive14_any _ (HF.out.on HD8.out.below)).mono ?_; rintro e w9 ⟨rfl, hb9⟩; have HD9 := Lib.hid (HD8.out.on hb9)))
    clear q0 q1 q2 q3 q4 q5 q6 q7 q8 q9 q10 q11 q12
    clear hb8 hb9 HD7 HD8 HG7 HU7 HU HSM HFL HK HF
    go_upto_region 8 with fail
    refine wp_region_lit ?_
    refine load_v rfl _ _ rfl w.heap.size rfl HD9.out.bs Tryd.underlying26 rfl (by kernel_rfl) ?_
    have hrr := rRight_any S a c b d HM.out.2.1 HM.out.2.2.1 (by have := HM.out.2; omega) w9 ⟨HA.out.kept.on HD9.out.below, HA.out.used.on HD9.out.below⟩
    have es : seV S a c b d = .agg (seL S a c b d).toArray := rfl
    rw [es] at hrr
    have HRR := Lib.hid hrr
    clear hrr es
    go_wp2_with fail
    refine HRR.out.mono ?_
    rintro e w10 ⟨rfl, hb⟩
    have HD10 := Lib.hid (HD9.out.on hb)
    clear hb HD9 HRR
    by_cases hr : rightS S
    case neg =>
      have h1 : takeE S m = 1 := by unfold takeE; rw [if_pos hr]
      obtain ⟨-, rfl, rfl, hcode⟩ := hE2.resolve_right (fun h => by rw [h1] at h; cases h.1)
      rw [h1] at hcode
      subst hcode
      rw [decide_eq_false hr]
      clear hE2 h1 hr HT
      go_upto_region 9 with fail
      refine wp_region_lit ?_
      iterate 8 (refine wpList_step (fun K hK => ?_); go_simp; refine hK _ _ ?_; clear hK K)
      refine load_gY (by rfl) _ _ rfl w2.heap.size rfl HD10.out.bt Tryd.underlying26 rfl (by kernel_rfl) ?_
      iterate 1 (refine wpList_step (fun K hK => ?_); go_simp; refine hK _ _ ?_; clear hK K)
      have hsm := sameS0 w10
      have HSM := Lib.hid hsm
      clear hsm
      go_wp2_with fail
      refine HSM.out.mono ?_
      rintro e w11 ⟨rfl, hb⟩
      have HB7 := Lib.hid (HD10.out.below.trans (hb.mono HD10.out.below.size))
      clear hb HSM HD10
      go_wp2_with fail
      go_ret
      exact ⟨rfl, HB7.out⟩
    case pos =>
      rw [decide_eq_true hr]
      by_cases h0 : m < 0
      case pos =>
        have h1 : takeE S m = 2 := by unfold takeE; rw [if_neg (not_not_intro hr), if_pos (Or.inl h0)]
        obtain ⟨-, rfl, rfl, hcode⟩ := hE2.resolve_right (fun h => by rw [h1] at h; cases h.1)
        rw [h1] at hcode
        subst hcode
        clear hE2 h1 hr HT
        go_upto_region 11 with fail
        refine wp_region_lit ?_
        iterate 8 (refine wpList_step (fun K hK => ?_); go_simp; refine hK _ _ ?_; clear hK K)
        refine load_gY (by rfl) _ _ rfl w2.heap.size rfl HD10.out.bt Tryd.underlying26 rfl (by kernel_rfl) ?_
        iterate 1 (refine wpList_step (fun K hK => ?_); go_simp; refine hK _ _ ?_; clear hK K)
        have hsm := sameS0 w10
        have HSM := Lib.hid hsm
        clear hsm
        go_wp2_with fail
        refine HSM.out.mono ?_
        rintro e w11 ⟨rfl, hb⟩
        have HB7 := Lib.hid (HD10.out.below.trans (hb.mono HD10.out.below.size))
        clear hb HSM HD10
        go_wp2_with fail
        go_ret
        exact ⟨rfl, HB7.out⟩
      case neg =>
        by_cases h32 : 32 < m
        case pos =>
          have h1 : takeE S m = 2 := by unfold takeE; rw [if_neg (not_not_intro hr), if_pos (Or.inr h32)]
          obtain ⟨-, rfl, rfl, hcode⟩ := hE2.resolve_right (fun h => by rw [h1] at h; cases h.1)
          rw [h1] at hcode
          subst hcode
          clear hE2 h1 hr HT
          go_upto_region 11 with fail
          refine wp_region_lit ?_
          iterate 8 (refine wpList_step (fun K hK => ?_); go_simp; refine hK _ _ ?_; clear hK K)
          refine load_gY (by rfl) _ _ rfl w2.heap.size rfl HD10.out.bt Tryd.underlying26 rfl (by kernel_rfl) ?_
          iterate 1 (refine wpList_step (fun K hK => ?_); go_simp; refine hK _ _ ?_; clear hK K)
          have hsm := sameS0 w10
          have HSM := Lib.hid hsm
          clear hsm
          go_wp2_with fail
          refine HSM.out.mono ?_
          rintro e w11 ⟨rfl, hb⟩
          have HB7 := Lib.hid (HD10.out.below.trans (hb.mono HD10.out.below.size))
          clear hb HSM HD10
          go_wp2_with fail
          go_ret
          exact ⟨rfl, HB7.out⟩
        case neg =>
          have h1 : takeE S m = 0 := by unfold takeE; rw [if_neg (not_not_intro hr), if_neg (by omega)]
          obtain ⟨-, rfl, n, a', c', b', d', k, j, en, rfl, rfl, hd1, hd2⟩ := hE2.resolve_left (fun h => h.1 h1)
          have hnl : n ≤ S.used.length := by omega
          have htl : (S.used.take n).length = n := by rw [List.length_take]; omega
          have hn0 : (n : Int) ≤ (d : Int) := by have := HM.out.2; omega
          have h42 := HM.out.2.2.2.1
          have h9 : w10.cell? ⟨w.heap.size, 9, none⟩ = some (.slice b S.used.length d) := HD10.out.bs.cell 9 _ rfl
          have ht1 := fun (V : World) (hV : Below w10.heap.size w10 V) => textsY_any k b j d (S.used.take n) (S.used.take n) (by rw [htl]; unfold maxLen; omega) V (hd2.ss.on (HD10.out.up.trans (hV.mono HD10.out.up.size))) ((HA.out.used.on (HD10.out.below.trans (hV.mono HD10.out.below.size))).take n)
          rw [decide_eq_true rfl, htl] at ht1
          have ht2 := fun (a2 : Option Addr) (c2 : Nat) (V : World) (hV : Below w10.heap.size w10 V) (hs : SSl V a2 S.used) => textsY_any a2 b c2 d S.used S.used (by unfold maxLen; omega) V hs (HA.out.used.on (HD10.out.below.trans (hV.mono HD10.out.below.size)))
          rw [decide_eq_true rfl] at ht2
          have hcc := fun (V : World) (hV : Below w10.heap.size w10 V) => cat_back k b' j d' S.used n hnl h42 V (hd2.on (HD10.out.up.trans (hV.mono HD10.out.up.size))) (hd1.on (HD10.out.up.trans (hV.mono HD10.out.up.size)))
          rw [htl]
          have HT1 := Lib.hid ht1; have HT2 := Lib.hid ht2; have HCC := Lib.hid hcc
          clear ht1 ht2 hcc hd1 hd2 hE2 h1 hr htl h42
          go_upto_region 13 with fail
          clear h9 en h0 h32 hnl
          refine wp_region_held (S := fun V => BlkV V w.heap.size 26 (seL S a c b d) ∧ BlkV V w2.heap.size 26 (seL (takeS S n) a' c' b' d') ∧ Below w10.heap.size w10 V) (by kernel_rfl) ?_
          change wpAnyH _ _ _ _ _ _ _ _ w10.drew
          have hS0 : BlkV w10.drew w.heap.size 26 (seL S a c b d) ∧ BlkV w10.drew w2.heap.size 26 (seL (takeS S n) a' c' b' d') ∧ Below w10.heap.size w10 w10.drew := ⟨HD10.out.bs.on (Below.refl _ _).drew, HD10.out.bt.on (Below.refl _ _).drew, (Below.refl _ _).drew⟩
          generalize w10.drew = D0 at hS0 ⊢
          refine wpAnyH_take (i := 0) (v := Value.int .i64 0) rfl (by kernel_rfl) (by kernel_rfl) (by kernel_rfl) (fun _ _ _ h => h) (Or.inl ⟨rfl, fun _ _ => by first | (go_simp; done) | kernel_rfl⟩) hS0 ?_
          try simp only [Act.put, List.getElem_toArray, List.getElem_cons_zero, List.setIfInBounds_toArray, List.set_cons_zero, List.set_cons_succ]
          refine wpAnyH_take (i := 1) (v := Value.bool true) rfl (by kernel_rfl) (by kernel_rfl) (by kernel_rfl) (fun _ _ _ h => h) (Or.inl ⟨rfl, fun _ _ => by first | (go_simp; done) | kernel_rfl⟩) hS0 ?_
          try simp only [Act.put, List.getElem_toArray, List.getElem_cons_zero, List.getElem_cons_succ, List.setIfInBounds_toArray, List.set_cons_zero, List.set_cons_succ]
          refine wpAnyH_take (i := 2) (v := Value.bool true) rfl (by kernel_rfl) (by kernel_rfl) (by kernel_rfl) (fun _ _ _ h => h) (Or.inl ⟨rfl, fun _ _ => by first | (go_simp; done) | kernel_rfl⟩) hS0 ?_
          try simp only [Act.put, List.getElem_toArray, List.getElem_cons_zero, List.getElem_cons_succ, List.setIfInBounds_toArray, List.set_cons_zero, List.set_cons_succ]
          refine wpAnyH_take (i := 3) (v := Value.slice k n j) rfl (by kernel_rfl) (by kernel_rfl) (by kernel_rfl) (fun _ _ _ h => h) (Or.inl ⟨rfl, fun _ _ => by first | (go_simp; done) | kernel_rfl⟩) hS0 ?_
          try simp only [Act.put, List.getElem_toArray, List.getElem_cons_zero, List.getElem_cons_succ, List.setIfInBounds_toArray, List.set_cons_zero, List.set_cons_succ]
          refine wpAnyH_take (i := 4) (v := Value.pointer (some ⟨w.heap.size, 9, none⟩)) rfl (by kernel_rfl) (by kernel_rfl) (by kernel_rfl) (fun _ _ _ h => h) (Or.inl ⟨rfl, fun _ _ => by first | (go_simp; done) | kernel_rfl⟩) hS0 ?_
          try simp only [Act.put, List.getElem_toArray, List.getElem_cons_zero, List.getElem_cons_succ, List.setIfInBounds_toArray, List.set_cons_zero, List.set_cons_succ]
          refine wpAnyH_take (i := 5) (v := Value.slice b S.used.length d) rfl (by kernel_rfl) (by kernel_rfl) (by kernel_rfl) (fun _ _ _ h => h) (Or.inl ⟨rfl, fun W hW => by have hc := hW.1.cell 9 _ rfl; go_simp⟩) hS0 ?_
          try simp only [Act.put, List.getElem_toArray, List.getElem_cons_zero, List.getElem_cons_succ, List.setIfInBounds_toArray, List.set_cons_zero, List.set_cons_succ]
          refine wpAnyH_take (i := 6) (v := Value.int .i64 (n : Int)) rfl (by kernel_rfl) (by kernel_rfl) (by kernel_rfl) (fun _ _ _ h => h) (Or.inl ⟨rfl, fun _ _ => by first | (go_simp; done) | kernel_rfl⟩) hS0 ?_
          try simp only [Act.put, List.getElem_toArray, List.getElem_cons_zero, List.getElem_cons_succ, List.setIfInBounds_toArray, List.set_cons_zero, List.set_cons_succ]
          refine wpAnyH_take (i := 7) (v := Value.slice b n d) rfl (by kernel_rfl) (by kernel_rfl) (by kernel_rfl) (fun _ _ _ h => h) (Or.inl ⟨rfl, fun _ _ => by first | (go_simp; done) | kernel_rfl⟩) hS0 ?_
          try simp only [Act.put, List.getElem_toArray, List.getElem_cons_zero, List.getElem_cons_succ, List.setIfInBounds_toArray, List.set_cons_zero, List.set_cons_succ]
          refine wpAnyH_all (rs := [8]) (by kernel_rfl) (by decide) (List.forall_mem_cons.2 ⟨?_, List.forall_mem_nil _⟩)
          refine callv_any (f := 13) (args := #[Value.slice k n j, Value.slice b n d]) (by rfl) (by rfl) (by kernel_rfl) (v := .bool true) (HT1.out D0 hS0.2.2) ?_
          intro D1 hb
          have hS1 := And.intro (hS0.1.on hb) (And.intro (hS0.2.1.on hb) (hS0.2.2.trans (hb.mono hS0.2.2.size)))
          refine ⟨hS1, ?_⟩
          clear hb
          try simp only [Act.put, List.getElem_toArray, List.getElem_cons_zero, List.getElem_cons_succ, List.setIfInBounds_toArray, List.set_cons_zero, List.set_cons_succ]
          refine wpAnyH_take (i := 9) (v := Value.bool true) rfl (by kernel_rfl) (by kernel_rfl) (by kernel_rfl) (fun _ _ _ h => h) (Or.inl ⟨rfl, fun _ _ => by first | (go_simp; done) | kernel_rfl⟩) hS1 ?_
          try simp only [Act.put, List.getElem_toArray, List.getElem_cons_zero, List.getElem_cons_succ, List.setIfInBounds_toArray, List.set_cons_zero, List.set_cons_succ]
          refine wpAnyH_take (i := 10) (v := Value.bool true) rfl (by kernel_rfl) (by kernel_rfl) (by kernel_rfl) (fun _ _ _ h => h) (Or.inl ⟨rfl, fun _ _ => by first | (go_simp; done) | kernel_rfl⟩) hS1 ?_
          try simp only [Act.put, List.getElem_toArray, List.getElem_cons_zero, List.getElem_cons_succ, List.setIfInBounds_toArray, List.set_cons_zero, List.set_cons_succ]
          refine wpAnyH_take (i := 11) (v := Value.slice k n j) rfl (by kernel_rfl) (by kernel_rfl) (by kernel_rfl) (fun _ _ _ h => h) (Or.inl ⟨rfl, fun _ _ => by first | (go_simp; done) | kernel_rfl⟩) hS1 ?_
          try simp only [Act.put, List.getElem_toArray, List.getElem_cons_zero, List.getElem_cons_succ, List.setIfInBounds_toArray, List.set_cons_zero, List.set_cons_succ]
          refine wpAnyH_take (i := 12) (v := Value.pointer (some ⟨w2.heap.size, 9, none⟩)) rfl (by kernel_rfl) (by kernel_rfl) (by kernel_rfl) (fun _ _ _ h => h) (Or.inl ⟨rfl, fun _ _ => by first | (go_simp; done) | kernel_rfl⟩) hS1 ?_
          try simp only [Act.put, List.getElem_toArray, List.getElem_cons_zero, List.getElem_cons_succ, List.setIfInBounds_toArray, List.set_cons_zero, List.set_cons_succ]
          refine wpAnyH_take (i := 13) (v := Value.slice b' (S.used.drop n).length d') rfl (by kernel_rfl) (by kernel_rfl) (by kernel_rfl) (fun _ _ _ h => h) (Or.inl ⟨rfl, fun W hW => by have hc := (show W.cell? ⟨w2.heap.size, 9, none⟩ = some (Value.slice b' (S.used.drop n).length d') from hW.2.1.cell 9 _ rfl); go_simp⟩) hS1 ?_
          try simp only [Act.put, List.getElem_toArray, List.getElem_cons_zero, List.getElem_cons_succ, List.setIfInBounds_toArray, List.set_cons_zero, List.set_cons_succ]
          refine wpAnyH_take (i := 16) (v := Value.pointer (some ⟨w.heap.size, 9, none⟩)) rfl (by kernel_rfl) (by kernel_rfl) (by kernel_rfl) (fun _ _ _ h => h) (Or.inl ⟨rfl, fun _ _ => by first | (go_simp; done) | kernel_rfl⟩) hS1 ?_
          try simp only [Act.put, List.getElem_toArray, List.getElem_cons_zero, List.getElem_cons_succ, List.setIfInBounds_toArray, List.set_cons_zero, List.set_cons_succ]
          refine wpAnyH_take (i := 17) (v := Value.slice b S.used.length d) rfl (by kernel_rfl) (by kernel_rfl) (by kernel_rfl) (fun _ _ _ h => h) (Or.inl ⟨rfl, fun W hW => by have hc := hW.1.cell 9 _ rfl; go_simp⟩) hS1 ?_
          try simp only [Act.put, List.getElem_toArray, List.getElem_cons_zero, List.getElem_cons_succ, List.setIfInBounds_toArray, List.set_cons_zero, List.set_cons_succ]
          refine wpAnyH_all (rs := [14]) (by kernel_rfl) (by decide) (List.forall_mem_cons.2 ⟨?_, List.forall_mem_nil _⟩)
          refine val_any (by rfl) (by rfl) (v := .slice (some ⟨D1.heap.size, 0, none⟩) 2 2) (w' := D1.alloc (.cells #[Value.slice k n j, Value.slice b' (S.used.drop n).length d'] 24)) (by first | (go_simp; done) | kernel_rfl) ?_
          have ha : Below D1.heap.size D1 (D1.alloc (.cells #[Value.slice k n j, Value.slice b' (S.used.drop n).length d'] 24)) := (Below.refl _ _).alloc (Nat.le_refl _) _
          have hS2 := And.intro (hS1.1.on ha) (And.intro (hS1.2.1.on ha) (hS1.2.2.trans (ha.mono hS1.2.2.size)))
          refine ⟨hS2, ?_⟩
          try simp only [Act.put, List.getElem_toArray, List.getElem_cons_zero, List.getElem_cons_succ, List.setIfInBounds_toArray, List.set_cons_zero, List.set_cons_succ]
          have hcc := HCC.out D1 hS1.2.2
          refine wpAnyH_all (rs := [15]) (by kernel_rfl) (by decide) (List.forall_mem_cons.2 ⟨?_, List.forall_mem_nil _⟩)
          refine callx_any (f := 14) (args := #[.slice (some ⟨D1.heap.size, 0, none⟩) 2 2]) (by rfl) (by rfl) (by kernel_rfl) (R := fun v W => ∃ a2 c2, v = .slice a2 S.used.length c2 ∧ SSl W a2 S.used ∧ Below (D1.alloc (.cells #[Value.slice k n j, Value.slice b' (S.used.drop n).length d'] 24)).heap.size (D1.alloc (.cells #[Value.slice k n j, Value.slice b' (S.used.drop n).length d'] 24)) W) hcc ?_
          rintro v D3 ⟨a2, c2, rfl, hs2, hb⟩
          have hS3 := And.intro (hS2.1.on hb) (And.intro (hS2.2.1.on hb) (hS2.2.2.trans (hb.mono hS2.2.2.size)))
          refine ⟨hS3, ?_⟩
          try simp only [Act.put, List.getElem_toArray, List.getElem_cons_zero, List.getElem_cons_succ, List.setIfInBounds_toArray, List.set_cons_zero, List.set_cons_succ]
          have ht2 := HT2.out a2 c2 D3 hS3.2.2 hs2
          refine wpAnyH_all (rs := [18]) (by kernel_rfl) (by decide) (List.forall_mem_cons.2 ⟨?_, List.forall_mem_nil _⟩)
          refine callv_any (f := 13) (args := #[.slice a2 S.used.length c2, Value.slice b S.used.length d]) (by rfl) (by rfl) (by kernel_rfl) (v := .bool true) ht2 ?_
          intro D4 hb4
          have hS4 := And.intro (hS3.1.on hb4) (And.intro (hS3.2.1.on hb4) (hS3.2.2.trans (hb4.mono hS3.2.2.size)))
          refine ⟨hS4, ?_⟩
          try simp only [Act.put, List.getElem_toArray, List.getElem_cons_zero, List.getElem_cons_succ, List.setIfInBounds_toArray, List.set_cons_zero, List.set_cons_succ]
          refine wpAnyH_take (i := 19) (v := Value.bool true) rfl (by kernel_rfl) (by kernel_rfl) (by kernel_rfl) (fun _ _ _ h => h) (Or.inl ⟨rfl, fun _ _ => by first | (go_simp; done) | kernel_rfl⟩) hS4 ?_
          try simp only [Act.put, List.getElem_toArray, List.getElem_cons_zero, List.getElem_cons_succ, List.setIfInBounds_toArray, List.set_cons_zero, List.set_cons_succ]
          refine wpAnyH_take (i := 20) (v := Value.bool true) rfl (by kernel_rfl) (by kernel_rfl) (by kernel_rfl) (fun _ _ _ h => h) (Or.inl ⟨rfl, fun _ _ => by first | (go_simp; done) | kernel_rfl⟩) hS4 ?_
          try simp only [Act.put, List.getElem_toArray, List.getElem_cons_zero, List.getElem_cons_succ, List.setIfInBounds_toArray, List.set_cons_zero, List.set_cons_succ]
          refine wpAnyH_take (i := 21) (v := Value.pointer (some ⟨w2.heap.size, 0, none⟩)) rfl (by kernel_rfl) (by kernel_rfl) (by kernel_rfl) (fun _ _ _ h => h) (Or.inl ⟨rfl, fun _ _ => by first | (go_simp; done) | kernel_rfl⟩) hS4 ?_
          try simp only [Act.put, List.getElem_toArray, List.getElem_cons_zero, List.getElem_cons_succ, List.setIfInBounds_toArray, List.set_cons_zero, List.set_cons_succ]
          refine wpAnyH_take (i := 22) (v := Value.string S.own) rfl (by kernel_rfl) (by kernel_rfl) (by kernel_rfl) (fun _ _ _ h => h) (Or.inl ⟨rfl, fun W hW => by have hc := (show W.cell? ⟨w2.heap.size, 0, none⟩ = some (Value.string S.own) from hW.2.1.cell 0 _ rfl); go_simp⟩) hS4 ?_
          try simp only [Act.put, List.getElem_toArray, List.getElem_cons_zero, List.getElem_cons_succ, List.setIfInBounds_toArray, List.set_cons_zero, List.set_cons_succ]
          refine wpAnyH_take (i := 23) (v := Value.pointer (some ⟨w.heap.size, 0, none⟩)) rfl (by kernel_rfl) (by kernel_rfl) (by kernel_rfl) (fun _ _ _ h => h) (Or.inl ⟨rfl, fun _ _ => by first | (go_simp; done) | kernel_rfl⟩) hS4 ?_
          try simp only [Act.put, List.getElem_toArray, List.getElem_cons_zero, List.getElem_cons_succ, List.setIfInBounds_toArray, List.set_cons_zero, List.set_cons_succ]
          refine wpAnyH_take (i := 24) (v := Value.string S.own) rfl (by kernel_rfl) (by kernel_rfl) (by kernel_rfl) (fun _ _ _ h => h) (Or.inl ⟨rfl, fun W hW => by have hc := hW.1.cell 0 _ rfl; go_simp⟩) hS4 ?_
          try simp only [Act.put, List.getElem_toArray, List.getElem_cons_zero, List.getElem_cons_succ, List.setIfInBounds_toArray, List.set_cons_zero, List.set_cons_succ]
          refine wpAnyH_take (i := 25) (v := Value.bool true) rfl (by kernel_rfl) (by kernel_rfl) (by kernel_rfl) (fun _ _ _ h => h) (Or.inl ⟨rfl, fun _ _ => by first | (go_simp; done) | kernel_rfl⟩) hS4 ?_
          try simp only [Act.put, List.getElem_toArray, List.getElem_cons_zero, List.getElem_cons_succ, List.setIfInBounds_toArray, List.set_cons_zero, List.set_cons_succ]
          refine wpAnyH_take (i := 26) (v := Value.bool true) rfl (by kernel_rfl) (by kernel_rfl) (by kernel_rfl) (fun _ _ _ h => h) (Or.inl ⟨rfl, fun _ _ => by first | (go_simp; done) | kernel_rfl⟩) hS4 ?_
          try simp only [Act.put, List.getElem_toArray, List.getElem_cons_zero, List.getElem_cons_succ, List.setIfInBounds_toArray, List.set_cons_zero, List.set_cons_succ]
          refine wpAnyH_take (i := 27) (v := Value.bool true) rfl (by kernel_rfl) (by kernel_rfl) (by kernel_rfl) (fun _ _ _ h => h) (Or.inl ⟨rfl, fun _ _ => by first | (go_simp; done) | kernel_rfl⟩) hS4 ?_
          try simp only [Act.put, List.getElem_toArray, List.getElem_cons_zero, List.getElem_cons_succ, List.setIfInBounds_toArray, List.set_cons_zero, List.set_cons_succ]
          refine wpAnyH_take (i := 28) (v := Value.pointer (some ⟨w2.heap.size, 2, none⟩)) rfl (by kernel_rfl) (by kernel_rfl) (by kernel_rfl) (fun _ _ _ h => h) (Or.inl ⟨rfl, fun _ _ => by first | (go_simp; done) | kernel_rfl⟩) hS4 ?_
          try simp only [Act.put, List.getElem_toArray, List.getElem_cons_zero, List.getElem_cons_succ, List.setIfInBounds_toArray, List.set_cons_zero, List.set_cons_succ]
          refine wpAnyH_take (i := 29) (v := Value.string S.root) rfl (by kernel_rfl) (by kernel_rfl) (by kernel_rfl) (fun _ _ _ h => h) (Or.inl ⟨rfl, fun W hW => by have hc := (show W.cell? ⟨w2.heap.size, 2, none⟩ = some (Value.string S.root) from hW.2.1.cell 2 _ rfl); go_simp⟩) hS4 ?_
          try simp only [Act.put, List.getElem_toArray, List.getElem_cons_zero, List.getElem_cons_succ, List.setIfInBounds_toArray, List.set_cons_zero, List.set_cons_succ]
          refine wpAnyH_take (i := 30) (v := Value.pointer (some ⟨w.heap.size, 2, none⟩)) rfl (by kernel_rfl) (by kernel_rfl) (by kernel_rfl) (fun _ _ _ h => h) (Or.inl ⟨rfl, fun _ _ => by first | (go_simp; done) | kernel_rfl⟩) hS4 ?_
          try simp only [Act.put, List.getElem_toArray, List.getElem_cons_zero, List.getElem_cons_succ, List.setIfInBounds_toArray, List.set_cons_zero, List.set_cons_succ]
          refine wpAnyH_take (i := 31) (v := Value.string S.root) rfl (by kernel_rfl) (by kernel_rfl) (by kernel_rfl) (fun _ _ _ h => h) (Or.inl ⟨rfl, fun W hW => by have hc := hW.1.cell 2 _ rfl; go_simp⟩) hS4 ?_
          try simp only [Act.put, List.getElem_toArray, List.getElem_cons_zero, List.getElem_cons_succ, List.setIfInBounds_toArray, List.set_cons_zero, List.set_cons_succ]
          refine wpAnyH_take (i := 32) (v := Value.bool true) rfl (by kernel_rfl) (by kernel_rfl) (by kernel_rfl) (fun _ _ _ h => h) (Or.inl ⟨rfl, fun _ _ => by first | (go_simp; done) | kernel_rfl⟩) hS4 ?_
          try simp only [Act.put, List.getElem_toArray, List.getElem_cons_zero, List.getElem_cons_succ, List.setIfInBounds_toArray, List.set_cons_zero, List.set_cons_succ]
          refine wpAnyH_take (i := 33) (v := Value.bool true) rfl (by kernel_rfl) (by kernel_rfl) (by kernel_rfl) (fun _ _ _ h => h) (Or.inl ⟨rfl, fun _ _ => by first | (go_simp; done) | kernel_rfl⟩) hS4 ?_
          try simp only [Act.put, List.getElem_toArray, List.getElem_cons_zero, List.getElem_cons_succ, List.setIfInBounds_toArray, List.set_cons_zero, List.set_cons_succ]
          refine wpAnyH_take (i := 34) (v := Value.bool true) rfl (by kernel_rfl) (by kernel_rfl) (by kernel_rfl) (fun _ _ _ h => h) (Or.inl ⟨rfl, fun _ _ => by first | (go_simp; done) | kernel_rfl⟩) hS4 ?_
          try simp only [Act.put, List.getElem_toArray, List.getElem_cons_zero, List.getElem_cons_succ, List.setIfInBounds_toArray, List.set_cons_zero, List.set_cons_succ]
          refine wpAnyH_take (i := 35) (v := Value.pointer (some ⟨w2.heap.size, 3, none⟩)) rfl (by kernel_rfl) (by kernel_rfl) (by kernel_rfl) (fun _ _ _ h => h) (Or.inl ⟨rfl, fun _ _ => by first | (go_simp; done) | kernel_rfl⟩) hS4 ?_
          try simp only [Act.put, List.getElem_toArray, List.getElem_cons_zero, List.getElem_cons_succ, List.setIfInBounds_toArray, List.set_cons_zero, List.set_cons_succ]
          refine wpAnyH_take (i := 36) (v := Value.string S.send) rfl (by kernel_rfl) (by kernel_rfl) (by kernel_rfl) (fun _ _ _ h => h) (Or.inl ⟨rfl, fun W hW => by have hc := (show W.cell? ⟨w2.heap.size, 3, none⟩ = some (Value.string S.send) from hW.2.1.cell 3 _ rfl); go_simp⟩) hS4 ?_
          try simp only [Act.put, List.getElem_toArray, List.getElem_cons_zero, List.getElem_cons_succ, List.setIfInBounds_toArray, List.set_cons_zero, List.set_cons_succ]
          refine wpAnyH_take (i := 37) (v := Value.pointer (some ⟨w.heap.size, 3, none⟩)) rfl (by kernel_rfl) (by kernel_rfl) (by kernel_rfl) (fun _ _ _ h => h) (Or.inl ⟨rfl, fun _ _ => by first | (go_simp; done) | kernel_rfl⟩) hS4 ?_
          try simp only [Act.put, List.getElem_toArray, List.getElem_cons_zero, List.getElem_cons_succ, List.setIfInBounds_toArray, List.set_cons_zero, List.set_cons_succ]
          refine wpAnyH_take (i := 38) (v := Value.string S.send) rfl (by kernel_rfl) (by kernel_rfl) (by kernel_rfl) (fun _ _ _ h => h) (Or.inl ⟨rfl, fun W hW => by have hc := hW.1.cell 3 _ rfl; go_simp⟩) hS4 ?_
          try simp only [Act.put, List.getElem_toArray, List.getElem_cons_zero, List.getElem_cons_succ, List.setIfInBounds_toArray, List.set_cons_zero, List.set_cons_succ]
          refine wpAnyH_take (i := 39) (v := Value.bool true) rfl (by kernel_rfl) (by kernel_rfl) (by kernel_rfl) (fun _ _ _ h => h) (Or.inl ⟨rfl, fun _ _ => by first | (go_simp; done) | kernel_rfl⟩) hS4 ?_
          try simp only [Act.put, List.getElem_toArray, List.getElem_cons_zero, List.getElem_cons_succ, List.setIfInBounds_toArray, List.set_cons_zero, List.set_cons_succ]
          refine wpAnyH_take (i := 40) (v := Value.bool true) rfl (by kernel_rfl) (by kernel_rfl) (by kernel_rfl) (fun _ _ _ h => h) (Or.inl ⟨rfl, fun _ _ => by first | (go_simp; done) | kernel_rfl⟩) hS4 ?_
          try simp only [Act.put, List.getElem_toArray, List.getElem_cons_zero, List.getElem_cons_succ, List.setIfInBounds_toArray, List.set_cons_zero, List.set_cons_succ]
          refine wpAnyH_take (i := 41) (v := Value.bool true) rfl (by kernel_rfl) (by kernel_rfl) (by kernel_rfl) (fun _ _ _ h => h) (Or.inl ⟨rfl, fun _ _ => by first | (go_simp; done) | kernel_rfl⟩) hS4 ?_
          try simp only [Act.put, List.getElem_toArray, List.getElem_cons_zero, List.getElem_cons_succ, List.setIfInBounds_toArray, List.set_cons_zero, List.set_cons_succ]
          refine wpAnyH_take (i := 42) (v := Value.pointer (some ⟨w2.heap.size, 4, none⟩)) rfl (by kernel_rfl) (by kernel_rfl) (by kernel_rfl) (fun _ _ _ h => h) (Or.inl ⟨rfl, fun _ _ => by first | (go_simp; done) | kernel_rfl⟩) hS4 ?_
          try simp only [Act.put, List.getElem_toArray, List.getElem_cons_zero, List.getElem_cons_succ, List.setIfInBounds_toArray, List.set_cons_zero, List.set_cons_succ]
          refine wpAnyH_take (i := 43) (v := Value.string S.recv) rfl (by kernel_rfl) (by kernel_rfl) (by kernel_rfl) (fun _ _ _ h => h) (Or.inl ⟨rfl, fun W hW => by have hc := (show W.cell? ⟨w2.heap.size, 4, none⟩ = some (Value.string S.recv) from hW.2.1.cell 4 _ rfl); go_simp⟩) hS4 ?_
          try simp only [Act.put, List.getElem_toArray, List.getElem_cons_zero, List.getElem_cons_succ, List.setIfInBounds_toArray, List.set_cons_zero, List.set_cons_succ]
          refine wpAnyH_take (i := 44) (v := Value.pointer (some ⟨w.heap.size, 4, none⟩)) rfl (by kernel_rfl) (by kernel_rfl) (by kernel_rfl) (fun _ _ _ h => h) (Or.inl ⟨rfl, fun _ _ => by first | (go_simp; done) | kernel_rfl⟩) hS4 ?_
          try simp only [Act.put, List.getElem_toArray, List.getElem_cons_zero, List.getElem_cons_succ, List.setIfInBounds_toArray, List.set_cons_zero, List.set_cons_succ]
          refine wpAnyH_take (i := 45) (v := Value.string S.recv) rfl (by kernel_rfl) (by kernel_rfl) (by kernel_rfl) (fun _ _ _ h => h) (Or.inl ⟨rfl, fun W hW => by have hc := hW.1.cell 4 _ rfl; go_simp⟩) hS4 ?_
          try simp only [Act.put, List.getElem_toArray, List.getElem_cons_zero, List.getElem_cons_succ, List.setIfInBounds_toArray, List.set_cons_zero, List.set_cons_succ]
          refine wpAnyH_take (i := 46) (v := Value.bool true) rfl (by kernel_rfl) (by kernel_rfl) (by kernel_rfl) (fun _ _ _ h => h) (Or.inl ⟨rfl, fun _ _ => by first | (go_simp; done) | kernel_rfl⟩) hS4 ?_
          try simp only [Act.put, List.getElem_toArray, List.getElem_cons_zero, List.getElem_cons_succ, List.setIfInBounds_toArray, List.set_cons_zero, List.set_cons_succ]
          refine wpAnyH_take (i := 47) (v := Value.bool true) rfl (by kernel_rfl) (by kernel_rfl) (by kernel_rfl) (fun _ _ _ h => h) (Or.inl ⟨rfl, fun _ _ => by first | (go_simp; done) | kernel_rfl⟩) hS4 ?_
          try simp only [Act.put, List.getElem_toArray, List.getElem_cons_zero, List.getElem_cons_succ, List.setIfInBounds_toArray, List.set_cons_zero, List.set_cons_succ]
          refine wpAnyH_take (i := 48) (v := Value.bool true) rfl (by kernel_rfl) (by kernel_rfl) (by kernel_rfl) (fun _ _ _ h => h) (Or.inl ⟨rfl, fun _ _ => by first | (go_simp; done) | kernel_rfl⟩) hS4 ?_
          try simp only [Act.put, List.getElem_toArray, List.getElem_cons_zero, List.getElem_cons_succ, List.setIfInBounds_toArray, List.set_cons_zero, List.set_cons_succ]
          refine wpAnyH_take (i := 49) (v := Value.pointer (some ⟨w2.heap.size, 5, none⟩)) rfl (by kernel_rfl) (by kernel_rfl) (by kernel_rfl) (fun _ _ _ h => h) (Or.inl ⟨rfl, fun _ _ => by first | (go_simp; done) | kernel_rfl⟩) hS4 ?_
          try simp only [Act.put, List.getElem_toArray, List.getElem_cons_zero, List.getElem_cons_succ, List.setIfInBounds_toArray, List.set_cons_zero, List.set_cons_succ]
          refine wpAnyH_take (i := 50) (v := Value.int .u64 (S.sent : Int)) rfl (by kernel_rfl) (by kernel_rfl) (by kernel_rfl) (fun _ _ _ h => h) (Or.inl ⟨rfl, fun W hW => by have hc := (show W.cell? ⟨w2.heap.size, 5, none⟩ = some (Value.int .u64 (S.sent : Int)) from hW.2.1.cell 5 _ rfl); go_simp⟩) hS4 ?_
          try simp only [Act.put, List.getElem_toArray, List.getElem_cons_zero, List.getElem_cons_succ, List.setIfInBounds_toArray, List.set_cons_zero, List.set_cons_succ]
          refine wpAnyH_take (i := 51) (v := Value.pointer (some ⟨w.heap.size, 5, none⟩)) rfl (by kernel_rfl) (by kernel_rfl) (by kernel_rfl) (fun _ _ _ h => h) (Or.inl ⟨rfl, fun _ _ => by first | (go_simp; done) | kernel_rfl⟩) hS4 ?_
          try simp only [Act.put, List.getElem_toArray, List.getElem_cons_zero, List.getElem_cons_succ, List.setIfInBounds_toArray, List.set_cons_zero, List.set_cons_succ]
          refine wpAnyH_take (i := 52) (v := Value.int .u64 (S.sent : Int)) rfl (by kernel_rfl) (by kernel_rfl) (by kernel_rfl) (fun _ _ _ h => h) (Or.inl ⟨rfl, fun W hW => by have hc := hW.1.cell 5 _ rfl; go_simp⟩) hS4 ?_
          try simp only [Act.put, List.getElem_toArray, List.getElem_cons_zero, List.getElem_cons_succ, List.setIfInBounds_toArray, List.set_cons_zero, List.set_cons_succ]
          refine wpAnyH_take (i := 53) (v := Value.bool true) rfl (by kernel_rfl) (by kernel_rfl) (by kernel_rfl) (fun _ _ _ h => h) (Or.inl ⟨rfl, fun _ _ => by first | (go_simp; done) | kernel_rfl⟩) hS4 ?_
          try simp only [Act.put, List.getElem_toArray, List.getElem_cons_zero, List.getElem_cons_succ, List.setIfInBounds_toArray, List.set_cons_zero, List.set_cons_succ]
          refine wpAnyH_take (i := 54) (v := Value.bool true) rfl (by kernel_rfl) (by kernel_rfl) (by kernel_rfl) (fun _ _ _ h => h) (Or.inl ⟨rfl, fun _ _ => by first | (go_simp; done) | kernel_rfl⟩) hS4 ?_
          try simp only [Act.put, List.getElem_toArray, List.getElem_cons_zero, List.getElem_cons_succ, List.setIfInBounds_toArray, List.set_cons_zero, List.set_cons_succ]
          refine wpAnyH_take (i := 55) (v := Value.bool true) rfl (by kernel_rfl) (by kernel_rfl) (by kernel_rfl) (fun _ _ _ h => h) (Or.inl ⟨rfl, fun _ _ => by first | (go_simp; done) | kernel_rfl⟩) hS4 ?_
          try simp only [Act.put, List.getElem_toArray, List.getElem_cons_zero, List.getElem_cons_succ, List.setIfInBounds_toArray, List.set_cons_zero, List.set_cons_succ]
          refine wpAnyH_take (i := 56) (v := Value.pointer (some ⟨w2.heap.size, 6, none⟩)) rfl (by kernel_rfl) (by kernel_rfl) (by kernel_rfl) (fun _ _ _ h => h) (Or.inl ⟨rfl, fun _ _ => by first | (go_simp; done) | kernel_rfl⟩) hS4 ?_
          try simp only [Act.put, List.getElem_toArray, List.getElem_cons_zero, List.getElem_cons_succ, List.setIfInBounds_toArray, List.set_cons_zero, List.set_cons_succ]
          refine wpAnyH_take (i := 57) (v := Value.int .u64 (S.got : Int)) rfl (by kernel_rfl) (by kernel_rfl) (by kernel_rfl) (fun _ _ _ h => h) (Or.inl ⟨rfl, fun W hW => by have hc := (show W.cell? ⟨w2.heap.size, 6, none⟩ = some (Value.int .u64 (S.got : Int)) from hW.2.1.cell 6 _ rfl); go_simp⟩) hS4 ?_
          try simp only [Act.put, List.getElem_toArray, List.getElem_cons_zero, List.getElem_cons_succ, List.setIfInBounds_toArray, List.set_cons_zero, List.set_cons_succ]
          refine wpAnyH_take (i := 58) (v := Value.pointer (some ⟨w.heap.size, 6, none⟩)) rfl (by kernel_rfl) (by kernel_rfl) (by kernel_rfl) (fun _ _ _ h => h) (Or.inl ⟨rfl, fun _ _ => by first | (go_simp; done) | kernel_rfl⟩) hS4 ?_
          try simp only [Act.put, List.getElem_toArray, List.getElem_cons_zero, List.getElem_cons_succ, List.setIfInBounds_toArray, List.set_cons_zero, List.set_cons_succ]
          refine wpAnyH_take (i := 59) (v := Value.int .u64 (S.got : Int)) rfl (by kernel_rfl) (by kernel_rfl) (by kernel_rfl) (fun _ _ _ h => h) (Or.inl ⟨rfl, fun W hW => by have hc := hW.1.cell 6 _ rfl; go_simp⟩) hS4 ?_
          try simp only [Act.put, List.getElem_toArray, List.getElem_cons_zero, List.getElem_cons_succ, List.setIfInBounds_toArray, List.set_cons_zero, List.set_cons_succ]
          refine wpAnyH_take (i := 60) (v := Value.bool true) rfl (by kernel_rfl) (by kernel_rfl) (by kernel_rfl) (fun _ _ _ h => h) (Or.inl ⟨rfl, fun _ _ => by first | (go_simp; done) | kernel_rfl⟩) hS4 ?_
          try simp only [Act.put, List.getElem_toArray, List.getElem_cons_zero, List.getElem_cons_succ, List.setIfInBounds_toArray, List.set_cons_zero, List.set_cons_succ]
          refine wpAnyH_take (i := 61) (v := Value.bool true) rfl (by kernel_rfl) (by kernel_rfl) (by kernel_rfl) (fun _ _ _ h => h) (Or.inl ⟨rfl, fun _ _ => by first | (go_simp; done) | kernel_rfl⟩) hS4 ?_
          try simp only [Act.put, List.getElem_toArray, List.getElem_cons_zero, List.getElem_cons_succ, List.setIfInBounds_toArray, List.set_cons_zero, List.set_cons_succ]
          refine wpAnyH_take (i := 62) (v := Value.bool true) rfl (by kernel_rfl) (by kernel_rfl) (by kernel_rfl) (fun _ _ _ h => h) (Or.inl ⟨rfl, fun _ _ => by first | (go_simp; done) | kernel_rfl⟩) hS4 ?_
          try simp only [Act.put, List.getElem_toArray, List.getElem_cons_zero, List.getElem_cons_succ, List.setIfInBounds_toArray, List.set_cons_zero, List.set_cons_succ]
          refine wpAnyH_done (by kernel_rfl) ?_ _
          have HB7 := Lib.hid (HD10.out.below.trans (hS4.2.2.mono HD10.out.below.size))
          clear hS0 hS1 hS2 hS3 hS4 ha hb hb4 hcc ht2 hs2 HCC HT1 HT2 HD10 HT
          go_wp2_with fail
          go_ret
          exact ⟨rfl, HB7.out⟩
  case true =>
    obtain ⟨-, rfl, a', c', rfl, hrd⟩ := hcase.resolve_right (fun h => by cases h.1)
    have hsm := r8Same_any F F a' ka c' kc (by rw [HFL.out.1]; have := HK.out.1; unfold maxLen; omega) (by rw [HFL.out.1]; have := HK.out.1; unfold maxLen; omega) w7 (hrd.ss.on HU7.out) (by rw [HFL.out.1]; exact HK.out.2.on HD7.out.below)
    rw [decide_eq_true rfl] at hsm
    have e1 : frV F a' c' = .agg (frL F a' c').toArray := rfl
    have e2 : frV F ka kc = .agg (frL F ka kc).toArray := rfl
    rw [e1, e2] at hsm
    have HSM := Lib.hid hsm
    clear hsm e1 e2 hcase hrd
    go_upto_region 6 with fail
    refine wp_region_lit ?_
    iterate 5 (refine wpList_step (fun K hK => ?_); go_simp; refine hK _ _ ?_; clear hK K)
    refine load_gY (by rfl) _ _ rfl w4.heap.size rfl HG7.out.1 Tryd.underlying32 rfl (by kernel_rfl) ?_
    refine load_gY (by rfl) _ _ rfl V5.heap.size rfl HG7.out.2 Tryd.underlying32 rfl (by kernel_rfl) ?_
    generalize frL F a' c' = LA at HSM ⊢
    generalize frL F ka kc = LB at HSM ⊢
    go_upto_region 8 with (first | (go_at_call 9; refine HSM.out.mono ?_; rintro e w8 ⟨rfl, hb8⟩; have HD8 := Lib.hid (HD7.out.on hb8)) | (go_at_call 10; refine (alive14_any _ (HF.out.on HD8.out.below)).mono ?_; rintro e w9 ⟨rfl, hb9⟩; have HD9 := Lib.hid (HD8.out.on hb9)))
    clear hb8 hb9 HD7 HD8 HG7 HU7 HU HSM HFL HK HF
    go_upto_region 8 with fail
    refine wp_region_lit ?_
    refine load_v rfl _ _ rfl w.heap.size rfl HD9.out.bs Tryd.underlying26 rfl (by kernel_rfl) ?_
    have hrr := rRight_any S a c b d HM.out.2.1 HM.out.2.2.1 (by have := HM.out.2; omega) w9 ⟨HA.out.kept.on HD9.out.below, HA.out.used.on HD9.out.below⟩
    have es : seV S a c b d = .agg (seL S a c b d).toArray := rfl
    rw [es] at hrr
    have HRR := Lib.hid hrr
    clear hrr es
    go_wp2_with fail
    refine HRR.out.mono ?_
    rintro e w10 ⟨rfl, hb⟩
    have HD10 := Lib.hid (HD9.out.on hb)
    clear hb HD9 HRR
    by_cases hr : rightS S
    case neg =>
      have h1 : takeE S m = 1 := by unfold takeE; rw [if_pos hr]
      obtain ⟨-, rfl, rfl, hcode⟩ := hE2.resolve_right (fun h => by rw [h1] at h; cases h.1)
      rw [h1] at hcode
      subst hcode
      rw [decide_eq_false hr]
      clear hE2 h1 hr HT
      go_upto_region 9 with fail
      refine wp_region_lit ?_
      iterate 8 (refine wpList_step (fun K hK => ?_); go_simp; refine hK _ _ ?_; clear hK K)
      refine load_gY (by rfl) _ _ rfl w2.heap.size rfl HD10.out.bt Tryd.underlying26 rfl (by kernel_rfl) ?_
      iterate 1 (refine wpList_step (fun K hK => ?_); go_simp; refine hK _ _ ?_; clear hK K)
      have hsm := sameS0 w10
      have HSM := Lib.hid hsm
      clear hsm
      go_wp2_with fail
      refine HSM.out.mono ?_
      rintro e w11 ⟨rfl, hb⟩
      have HB7 := Lib.hid (HD10.out.below.trans (hb.mono HD10.out.below.size))
      clear hb HSM HD10
      go_wp2_with fail
      go_ret
      exact ⟨rfl, HB7.out⟩
    case pos =>
      rw [decide_eq_true hr]
      by_cases h0 : m < 0
      case pos =>
        have h1 : takeE S m = 2 := by unfold takeE; rw [if_neg (not_not_intro hr), if_pos (Or.inl h0)]
        obtain ⟨-, rfl, rfl, hcode⟩ := hE2.resolve_right (fun h => by rw [h1] at h; cases h.1)
        rw [h1] at hcode
        subst hcode
        clear hE2 h1 hr HT
        go_upto_region 11 with fail
        refine wp_region_lit ?_
        iterate 8 (refine wpList_step (fun K hK => ?_); go_simp; refine hK _ _ ?_; clear hK K)
        refine load_gY (by rfl) _ _ rfl w2.heap.size rfl HD10.out.bt Tryd.underlying26 rfl (by kernel_rfl) ?_
        iterate 1 (refine wpList_step (fun K hK => ?_); go_simp; refine hK _ _ ?_; clear hK K)
        have hsm := sameS0 w10
        have HSM := Lib.hid hsm
        clear hsm
        go_wp2_with fail
        refine HSM.out.mono ?_
        rintro e w11 ⟨rfl, hb⟩
        have HB7 := Lib.hid (HD10.out.below.trans (hb.mono HD10.out.below.size))
        clear hb HSM HD10
        go_wp2_with fail
        go_ret
        exact ⟨rfl, HB7.out⟩
      case neg =>
        by_cases h32 : 32 < m
        case pos =>
          have h1 : takeE S m = 2 := by unfold takeE; rw [if_neg (not_not_intro hr), if_pos (Or.inr h32)]
          obtain ⟨-, rfl, rfl, hcode⟩ := hE2.resolve_right (fun h => by rw [h1] at h; cases h.1)
          rw [h1] at hcode
          subst hcode
          clear hE2 h1 hr HT
          go_upto_region 11 with fail
          refine wp_region_lit ?_
          iterate 8 (refine wpList_step (fun K hK => ?_); go_simp; refine hK _ _ ?_; clear hK K)
          refine load_gY (by rfl) _ _ rfl w2.heap.size rfl HD10.out.bt Tryd.underlying26 rfl (by kernel_rfl) ?_
          iterate 1 (refine wpList_step (fun K hK => ?_); go_simp; refine hK _ _ ?_; clear hK K)
          have hsm := sameS0 w10
          have HSM := Lib.hid hsm
          clear hsm
          go_wp2_with fail
          refine HSM.out.mono ?_
          rintro e w11 ⟨rfl, hb⟩
          have HB7 := Lib.hid (HD10.out.below.trans (hb.mono HD10.out.below.size))
          clear hb HSM HD10
          go_wp2_with fail
          go_ret
          exact ⟨rfl, HB7.out⟩
        case neg =>
          have h1 : takeE S m = 0 := by unfold takeE; rw [if_neg (not_not_intro hr), if_neg (by omega)]
          obtain ⟨-, rfl, n, a', c', b', d', k, j, en, rfl, rfl, hd1, hd2⟩ := hE2.resolve_left (fun h => h.1 h1)
          have hnl : n ≤ S.used.length := by omega
          have htl : (S.used.take n).length = n := by rw [List.length_take]; omega
          have hn0 : (n : Int) ≤ (d : Int) := by have := HM.out.2; omega
          have h42 := HM.out.2.2.2.1
          have h9 : w10.cell? ⟨w.heap.size, 9, none⟩ = some (.slice b S.used.length d) := HD10.out.bs.cell 9 _ rfl
          have ht1 := fun (V : World) (hV : Below w10.heap.size w10 V) => textsY_any k b j d (S.used.take n) (S.used.take n) (by rw [htl]; unfold maxLen; omega) V (hd2.ss.on (HD10.out.up.trans (hV.mono HD10.out.up.size))) ((HA.out.used.on (HD10.out.below.trans (hV.mono HD10.out.below.size))).take n)
          rw [decide_eq_true rfl, htl] at ht1
          have ht2 := fun (a2 : Option Addr) (c2 : Nat) (V : World) (hV : Below w10.heap.size w10 V) (hs : SSl V a2 S.used) => textsY_any a2 b c2 d S.used S.used (by unfold maxLen; omega) V hs (HA.out.used.on (HD10.out.below.trans (hV.mono HD10.out.below.size)))
          rw [decide_eq_true rfl] at ht2
          have hcc := fun (V : World) (hV : Below w10.heap.size w10 V) => cat_back k b' j d' S.used n hnl h42 V (hd2.on (HD10.out.up.trans (hV.mono HD10.out.up.size))) (hd1.on (HD10.out.up.trans (hV.mono HD10.out.up.size)))
          rw [htl]
          have HT1 := Lib.hid ht1; have HT2 := Lib.hid ht2; have HCC := Lib.hid hcc
          clear ht1 ht2 hcc hd1 hd2 hE2 h1 hr htl h42
          go_upto_region 13 with fail
          clear h9 en h0 h32 hnl
          refine wp_region_held (S := fun V => BlkV V w.heap.size 26 (seL S a c b d) ∧ BlkV V w2.heap.size 26 (seL (takeS S n) a' c' b' d') ∧ Below w10.heap.size w10 V) (by kernel_rfl) ?_
          change wpAnyH _ _ _ _ _ _ _ _ w10.drew
          have hS0 : BlkV w10.drew w.heap.size 26 (seL S a c b d) ∧ BlkV w10.drew w2.heap.size 26 (seL (takeS S n) a' c' b' d') ∧ Below w10.heap.size w10 w10.drew := ⟨HD10.out.bs.on (Below.refl _ _).drew, HD10.out.bt.on (Below.refl _ _).drew, (Below.refl _ _).drew⟩
          generalize w10.drew = D0 at hS0 ⊢
          refine wpAnyH_take (i := 0) (v := Value.int .i64 0) rfl (by kernel_rfl) (by kernel_rfl) (by kernel_rfl) (fun _ _ _ h => h) (Or.inl ⟨rfl, fun _ _ => by first | (go_simp; done) | kernel_rfl⟩) hS0 ?_
          try simp only [Act.put, List.getElem_toArray, List.getElem_cons_zero, List.setIfInBounds_toArray, List.set_cons_zero, List.set_cons_succ]
          refine wpAnyH_take (i := 1) (v := Value.bool true) rfl (by kernel_rfl) (by kernel_rfl) (by kernel_rfl) (fun _ _ _ h => h) (Or.inl ⟨rfl, fun _ _ => by first | (go_simp; done) | kernel_rfl⟩) hS0 ?_
          try simp only [Act.put, List.getElem_toArray, List.getElem_cons_zero, List.getElem_cons_succ, List.setIfInBounds_toArray, List.set_cons_zero, List.set_cons_succ]
          refine wpAnyH_take (i := 2) (v := Value.bool true) rfl (by kernel_rfl) (by kernel_rfl) (by kernel_rfl) (fun _ _ _ h => h) (Or.inl ⟨rfl, fun _ _ => by first | (go_simp; done) | kernel_rfl⟩) hS0 ?_
          try simp only [Act.put, List.getElem_toArray, List.getElem_cons_zero, List.getElem_cons_succ, List.setIfInBounds_toArray, List.set_cons_zero, List.set_cons_succ]
          refine wpAnyH_take (i := 3) (v := Value.slice k n j) rfl (by kernel_rfl) (by kernel_rfl) (by kernel_rfl) (fun _ _ _ h => h) (Or.inl ⟨rfl, fun _ _ => by first | (go_simp; done) | kernel_rfl⟩) hS0 ?_
          try simp only [Act.put, List.getElem_toArray, List.getElem_cons_zero, List.getElem_cons_succ, List.setIfInBounds_toArray, List.set_cons_zero, List.set_cons_succ]
          refine wpAnyH_take (i := 4) (v := Value.pointer (some ⟨w.heap.size, 9, none⟩)) rfl (by kernel_rfl) (by kernel_rfl) (by kernel_rfl) (fun _ _ _ h => h) (Or.inl ⟨rfl, fun _ _ => by first | (go_simp; done) | kernel_rfl⟩) hS0 ?_
          try simp only [Act.put, List.getElem_toArray, List.getElem_cons_zero, List.getElem_cons_succ, List.setIfInBounds_toArray, List.set_cons_zero, List.set_cons_succ]
          refine wpAnyH_take (i := 5) (v := Value.slice b S.used.length d) rfl (by kernel_rfl) (by kernel_rfl) (by kernel_rfl) (fun _ _ _ h => h) (Or.inl ⟨rfl, fun W hW => by have hc := hW.1.cell 9 _ rfl; go_simp⟩) hS0 ?_
          try simp only [Act.put, List.getElem_toArray, List.getElem_cons_zero, List.getElem_cons_succ, List.setIfInBounds_toArray, List.set_cons_zero, List.set_cons_succ]
          refine wpAnyH_take (i := 6) (v := Value.int .i64 (n : Int)) rfl (by kernel_rfl) (by kernel_rfl) (by kernel_rfl) (fun _ _ _ h => h) (Or.inl ⟨rfl, fun _ _ => by first | (go_simp; done) | kernel_rfl⟩) hS0 ?_
          try simp only [Act.put, List.getElem_toArray, List.getElem_cons_zero, List.getElem_cons_succ, List.setIfInBounds_toArray, List.set_cons_zero, List.set_cons_succ]
          refine wpAnyH_take (i := 7) (v := Value.slice b n d) rfl (by kernel_rfl) (by kernel_rfl) (by kernel_rfl) (fun _ _ _ h => h) (Or.inl ⟨rfl, fun _ _ => by first | (go_simp; done) | kernel_rfl⟩) hS0 ?_
          try simp only [Act.put, List.getElem_toArray, List.getElem_cons_zero, List.getElem_cons_succ, List.setIfInBounds_toArray, List.set_cons_zero, List.set_cons_succ]
          refine wpAnyH_all (rs := [8]) (by kernel_rfl) (by decide) (List.forall_mem_cons.2 ⟨?_, List.forall_mem_nil _⟩)
          refine callv_any (f := 13) (args := #[Value.slice k n j, Value.slice b n d]) (by rfl) (by rfl) (by kernel_rfl) (v := .bool true) (HT1.out D0 hS0.2.2) ?_
          intro D1 hb
          have hS1 := And.intro (hS0.1.on hb) (And.intro (hS0.2.1.on hb) (hS0.2.2.trans (hb.mono hS0.2.2.size)))
          refine ⟨hS1, ?_⟩
          clear hb
          try simp only [Act.put, List.getElem_toArray, List.getElem_cons_zero, List.getElem_cons_succ, List.setIfInBounds_toArray, List.set_cons_zero, List.set_cons_succ]
          refine wpAnyH_take (i := 9) (v := Value.bool true) rfl (by kernel_rfl) (by kernel_rfl) (by kernel_rfl) (fun _ _ _ h => h) (Or.inl ⟨rfl, fun _ _ => by first | (go_simp; done) | kernel_rfl⟩) hS1 ?_
          try simp only [Act.put, List.getElem_toArray, List.getElem_cons_zero, List.getElem_cons_succ, List.setIfInBounds_toArray, List.set_cons_zero, List.set_cons_succ]
          refine wpAnyH_take (i := 10) (v := Value.bool true) rfl (by kernel_rfl) (by kernel_rfl) (by kernel_rfl) (fun _ _ _ h => h) (Or.inl ⟨rfl, fun _ _ => by first | (go_simp; done) | kernel_rfl⟩) hS1 ?_
          try simp only [Act.put, List.getElem_toArray, List.getElem_cons_zero, List.getElem_cons_succ, List.setIfInBounds_toArray, List.set_cons_zero, List.set_cons_succ]
          refine wpAnyH_take (i := 11) (v := Value.slice k n j) rfl (by kernel_rfl) (by kernel_rfl) (by kernel_rfl) (fun _ _ _ h => h) (Or.inl ⟨rfl, fun _ _ => by first | (go_simp; done) | kernel_rfl⟩) hS1 ?_
          try simp only [Act.put, List.getElem_toArray, List.getElem_cons_zero, List.getElem_cons_succ, List.setIfInBounds_toArray, List.set_cons_zero, List.set_cons_succ]
          refine wpAnyH_take (i := 12) (v := Value.pointer (some ⟨w2.heap.size, 9, none⟩)) rfl (by kernel_rfl) (by kernel_rfl) (by kernel_rfl) (fun _ _ _ h => h) (Or.inl ⟨rfl, fun _ _ => by first | (go_simp; done) | kernel_rfl⟩) hS1 ?_
          try simp only [Act.put, List.getElem_toArray, List.getElem_cons_zero, List.getElem_cons_succ, List.setIfInBounds_toArray, List.set_cons_zero, List.set_cons_succ]
          refine wpAnyH_take (i := 13) (v := Value.slice b' (S.used.drop n).length d') rfl (by kernel_rfl) (by kernel_rfl) (by kernel_rfl) (fun _ _ _ h => h) (Or.inl ⟨rfl, fun W hW => by have hc := (show W.cell? ⟨w2.heap.size, 9, none⟩ = some (Value.slice b' (S.used.drop n).length d') from hW.2.1.cell 9 _ rfl); go_simp⟩) hS1 ?_
          try simp only [Act.put, List.getElem_toArray, List.getElem_cons_zero, List.getElem_cons_succ, List.setIfInBounds_toArray, List.set_cons_zero, List.set_cons_succ]
          refine wpAnyH_take (i := 16) (v := Value.pointer (some ⟨w.heap.size, 9, none⟩)) rfl (by kernel_rfl) (by kernel_rfl) (by kernel_rfl) (fun _ _ _ h => h) (Or.inl ⟨rfl, fun _ _ => by first | (go_simp; done) | kernel_rfl⟩) hS1 ?_
          try simp only [Act.put, List.getElem_toArray, List.getElem_cons_zero, List.getElem_cons_succ, List.setIfInBounds_toArray, List.set_cons_zero, List.set_cons_succ]
          refine wpAnyH_take (i := 17) (v := Value.slice b S.used.length d) rfl (by kernel_rfl) (by kernel_rfl) (by kernel_rfl) (fun _ _ _ h => h) (Or.inl ⟨rfl, fun W hW => by have hc := hW.1.cell 9 _ rfl; go_simp⟩) hS1 ?_
          try simp only [Act.put, List.getElem_toArray, List.getElem_cons_zero, List.getElem_cons_succ, List.setIfInBounds_toArray, List.set_cons_zero, List.set_cons_succ]
          refine wpAnyH_all (rs := [14]) (by kernel_rfl) (by decide) (List.forall_mem_cons.2 ⟨?_, List.forall_mem_nil _⟩)
          refine val_any (by rfl) (by rfl) (v := .slice (some ⟨D1.heap.size, 0, none⟩) 2 2) (w' := D1.alloc (.cells #[Value.slice k n j, Value.slice b' (S.used.drop n).length d'] 24)) (by first | (go_simp; done) | kernel_rfl) ?_
          have ha : Below D1.heap.size D1 (D1.alloc (.cells #[Value.slice k n j, Value.slice b' (S.used.drop n).length d'] 24)) := (Below.refl _ _).alloc (Nat.le_refl _) _
          have hS2 := And.intro (hS1.1.on ha) (And.intro (hS1.2.1.on ha) (hS1.2.2.trans (ha.mono hS1.2.2.size)))
          refine ⟨hS2, ?_⟩
          try simp only [Act.put, List.getElem_toArray, List.getElem_cons_zero, List.getElem_cons_succ, List.setIfInBounds_toArray, List.set_cons_zero, List.set_cons_succ]
          have hcc := HCC.out D1 hS1.2.2
          refine wpAnyH_all (rs := [15]) (by kernel_rfl) (by decide) (List.forall_mem_cons.2 ⟨?_, List.forall_mem_nil _⟩)
          refine callx_any (f := 14) (args := #[.slice (some ⟨D1.heap.size, 0, none⟩) 2 2]) (by rfl) (by rfl) (by kernel_rfl) (R := fun v W => ∃ a2 c2, v = .slice a2 S.used.length c2 ∧ SSl W a2 S.used ∧ Below (D1.alloc (.cells #[Value.slice k n j, Value.slice b' (S.used.drop n).length d'] 24)).heap.size (D1.alloc (.cells #[Value.slice k n j, Value.slice b' (S.used.drop n).length d'] 24)) W) hcc ?_
          rintro v D3 ⟨a2, c2, rfl, hs2, hb⟩
          have hS3 := And.intro (hS2.1.on hb) (And.intro (hS2.2.1.on hb) (hS2.2.2.trans (hb.mono hS2.2.2.size)))
          refine ⟨hS3, ?_⟩
          try simp only [Act.put, List.getElem_toArray, List.getElem_cons_zero, List.getElem_cons_succ, List.setIfInBounds_toArray, List.set_cons_zero, List.set_cons_succ]
          have ht2 := HT2.out a2 c2 D3 hS3.2.2 hs2
          refine wpAnyH_all (rs := [18]) (by kernel_rfl) (by decide) (List.forall_mem_cons.2 ⟨?_, List.forall_mem_nil _⟩)
          refine callv_any (f := 13) (args := #[.slice a2 S.used.length c2, Value.slice b S.used.length d]) (by rfl) (by rfl) (by kernel_rfl) (v := .bool true) ht2 ?_
          intro D4 hb4
          have hS4 := And.intro (hS3.1.on hb4) (And.intro (hS3.2.1.on hb4) (hS3.2.2.trans (hb4.mono hS3.2.2.size)))
          refine ⟨hS4, ?_⟩
          try simp only [Act.put, List.getElem_toArray, List.getElem_cons_zero, List.getElem_cons_succ, List.setIfInBounds_toArray, List.set_cons_zero, List.set_cons_succ]
          refine wpAnyH_take (i := 19) (v := Value.bool true) rfl (by kernel_rfl) (by kernel_rfl) (by kernel_rfl) (fun _ _ _ h => h) (Or.inl ⟨rfl, fun _ _ => by first | (go_simp; done) | kernel_rfl⟩) hS4 ?_
          try simp only [Act.put, List.getElem_toArray, List.getElem_cons_zero, List.getElem_cons_succ, List.setIfInBounds_toArray, List.set_cons_zero, List.set_cons_succ]
          refine wpAnyH_take (i := 20) (v := Value.bool true) rfl (by kernel_rfl) (by kernel_rfl) (by kernel_rfl) (fun _ _ _ h => h) (Or.inl ⟨rfl, fun _ _ => by first | (go_simp; done) | kernel_rfl⟩) hS4 ?_
          try simp only [Act.put, List.getElem_toArray, List.getElem_cons_zero, List.getElem_cons_succ, List.setIfInBounds_toArray, List.set_cons_zero, List.set_cons_succ]
          refine wpAnyH_take (i := 21) (v := Value.pointer (some ⟨w2.heap.size, 0, none⟩)) rfl (by kernel_rfl) (by kernel_rfl) (by kernel_rfl) (fun _ _ _ h => h) (Or.inl ⟨rfl, fun _ _ => by first | (go_simp; done) | kernel_rfl⟩) hS4 ?_
          try simp only [Act.put, List.getElem_toArray, List.getElem_cons_zero, List.getElem_cons_succ, List.setIfInBounds_toArray, List.set_cons_zero, List.set_cons_succ]
          refine wpAnyH_take (i := 22) (v := Value.string S.own) rfl (by kernel_rfl) (by kernel_rfl) (by kernel_rfl) (fun _ _ _ h => h) (Or.inl ⟨rfl, fun W hW => by have hc := (show W.cell? ⟨w2.heap.size, 0, none⟩ = some (Value.string S.own) from hW.2.1.cell 0 _ rfl); go_simp⟩) hS4 ?_
          try simp only [Act.put, List.getElem_toArray, List.getElem_cons_zero, List.getElem_cons_succ, List.setIfInBounds_toArray, List.set_cons_zero, List.set_cons_succ]
          refine wpAnyH_take (i := 23) (v := Value.pointer (some ⟨w.heap.size, 0, none⟩)) rfl (by kernel_rfl) (by kernel_rfl) (by kernel_rfl) (fun _ _ _ h => h) (Or.inl ⟨rfl, fun _ _ => by first | (go_simp; done) | kernel_rfl⟩) hS4 ?_
          try simp only [Act.put, List.getElem_toArray, List.getElem_cons_zero, List.getElem_cons_succ, List.setIfInBounds_toArray, List.set_cons_zero, List.set_cons_succ]
          refine wpAnyH_take (i := 24) (v := Value.string S.own) rfl (by kernel_rfl) (by kernel_rfl) (by kernel_rfl) (fun _ _ _ h => h) (Or.inl ⟨rfl, fun W hW => by have hc := hW.1.cell 0 _ rfl; go_simp⟩) hS4 ?_
          try simp only [Act.put, List.getElem_toArray, List.getElem_cons_zero, List.getElem_cons_succ, List.setIfInBounds_toArray, List.set_cons_zero, List.set_cons_succ]
          refine wpAnyH_take (i := 25) (v := Value.bool true) rfl (by kernel_rfl) (by kernel_rfl) (by kernel_rfl) (fun _ _ _ h => h) (Or.inl ⟨rfl, fun _ _ => by first | (go_simp; done) | kernel_rfl⟩) hS4 ?_
          try simp only [Act.put, List.getElem_toArray, List.getElem_cons_zero, List.getElem_cons_succ, List.setIfInBounds_toArray, List.set_cons_zero, List.set_cons_succ]
          refine wpAnyH_take (i := 26) (v := Value.bool true) rfl (by kernel_rfl) (by kernel_rfl) (by kernel_rfl) (fun _ _ _ h => h) (Or.inl ⟨rfl, fun _ _ => by first | (go_simp; done) | kernel_rfl⟩) hS4 ?_
          try simp only [Act.put, List.getElem_toArray, List.getElem_cons_zero, List.getElem_cons_succ, List.setIfInBounds_toArray, List.set_cons_zero, List.set_cons_succ]
          refine wpAnyH_take (i := 27) (v := Value.bool true) rfl (by kernel_rfl) (by kernel_rfl) (by kernel_rfl) (fun _ _ _ h => h) (Or.inl ⟨rfl, fun _ _ => by first | (go_simp; done) | kernel_rfl⟩) hS4 ?_
          try simp only [Act.put, List.getElem_toArray, List.getElem_cons_zero, List.getElem_cons_succ, List.setIfInBounds_toArray, List.set_cons_zero, List.set_cons_succ]
          refine wpAnyH_take (i := 28) (v := Value.pointer (some ⟨w2.heap.size, 2, none⟩)) rfl (by kernel_rfl) (by kernel_rfl) (by kernel_rfl) (fun _ _ _ h => h) (Or.inl ⟨rfl, fun _ _ => by first | (go_simp; done) | kernel_rfl⟩) hS4 ?_
          try simp only [Act.put, List.getElem_toArray, List.getElem_cons_zero, List.getElem_cons_succ, List.setIfInBounds_toArray, List.set_cons_zero, List.set_cons_succ]
          refine wpAnyH_take (i := 29) (v := Value.string S.root) rfl (by kernel_rfl) (by kernel_rfl) (by kernel_rfl) (fun _ _ _ h => h) (Or.inl ⟨rfl, fun W hW => by have hc := (show W.cell? ⟨w2.heap.size, 2, none⟩ = some (Value.string S.root) from hW.2.1.cell 2 _ rfl); go_simp⟩) hS4 ?_
          try simp only [Act.put, List.getElem_toArray, List.getElem_cons_zero, List.getElem_cons_succ, List.setIfInBounds_toArray, List.set_cons_zero, List.set_cons_succ]
          refine wpAnyH_take (i := 30) (v := Value.pointer (some ⟨w.heap.size, 2, none⟩)) rfl (by kernel_rfl) (by kernel_rfl) (by kernel_rfl) (fun _ _ _ h => h) (Or.inl ⟨rfl, fun _ _ => by first | (go_simp; done) | kernel_rfl⟩) hS4 ?_
          try simp only [Act.put, List.getElem_toArray, List.getElem_cons_zero, List.getElem_cons_succ, List.setIfInBounds_toArray, List.set_cons_zero, List.set_cons_succ]
          refine wpAnyH_take (i := 31) (v := Value.string S.root) rfl (by kernel_rfl) (by kernel_rfl) (by kernel_rfl) (fun _ _ _ h => h) (Or.inl ⟨rfl, fun W hW => by have hc := hW.1.cell 2 _ rfl; go_simp⟩) hS4 ?_
          try simp only [Act.put, List.getElem_toArray, List.getElem_cons_zero, List.getElem_cons_succ, List.setIfInBounds_toArray, List.set_cons_zero, List.set_cons_succ]
          refine wpAnyH_take (i := 32) (v := Value.bool true) rfl (by kernel_rfl) (by kernel_rfl) (by kernel_rfl) (fun _ _ _ h => h) (Or.inl ⟨rfl, fun _ _ => by first | (go_simp; done) | kernel_rfl⟩) hS4 ?_
          try simp only [Act.put, List.getElem_toArray, List.getElem_cons_zero, List.getElem_cons_succ, List.setIfInBounds_toArray, List.set_cons_zero, List.set_cons_succ]
          refine wpAnyH_take (i := 33) (v := Value.bool true) rfl (by kernel_rfl) (by kernel_rfl) (by kernel_rfl) (fun _ _ _ h => h) (Or.inl ⟨rfl, fun _ _ => by first | (go_simp; done) | kernel_rfl⟩) hS4 ?_
          try simp only [Act.put, List.getElem_toArray, List.getElem_cons_zero, List.getElem_cons_succ, List.setIfInBounds_toArray, List.set_cons_zero, List.set_cons_succ]
          refine wpAnyH_take (i := 34) (v := Value.bool true) rfl (by kernel_rfl) (by kernel_rfl) (by kernel_rfl) (fun _ _ _ h => h) (Or.inl ⟨rfl, fun _ _ => by first | (go_simp; done) | kernel_rfl⟩) hS4 ?_
          try simp only [Act.put, List.getElem_toArray, List.getElem_cons_zero, List.getElem_cons_succ, List.setIfInBounds_toArray, List.set_cons_zero, List.set_cons_succ]
          refine wpAnyH_take (i := 35) (v := Value.pointer (some ⟨w2.heap.size, 3, none⟩)) rfl (by kernel_rfl) (by kernel_rfl) (by kernel_rfl) (fun _ _ _ h => h) (Or.inl ⟨rfl, fun _ _ => by first | (go_simp; done) | kernel_rfl⟩) hS4 ?_
          try simp only [Act.put, List.getElem_toArray, List.getElem_cons_zero, List.getElem_cons_succ, List.setIfInBounds_toArray, List.set_cons_zero, List.set_cons_succ]
          refine wpAnyH_take (i := 36) (v := Value.string S.send) rfl (by kernel_rfl) (by kernel_rfl) (by kernel_rfl) (fun _ _ _ h => h) (Or.inl ⟨rfl, fun W hW => by have hc := (show W.cell? ⟨w2.heap.size, 3, none⟩ = some (Value.string S.send) from hW.2.1.cell 3 _ rfl); go_simp⟩) hS4 ?_
          try simp only [Act.put, List.getElem_toArray, List.getElem_cons_zero, List.getElem_cons_succ, List.setIfInBounds_toArray, List.set_cons_zero, List.set_cons_succ]
          refine wpAnyH_take (i := 37) (v := Value.pointer (some ⟨w.heap.size, 3, none⟩)) rfl (by kernel_rfl) (by kernel_rfl) (by kernel_rfl) (fun _ _ _ h => h) (Or.inl ⟨rfl, fun _ _ => by first | (go_simp; done) | kernel_rfl⟩) hS4 ?_
          try simp only [Act.put, List.getElem_toArray, List.getElem_cons_zero, List.getElem_cons_succ, List.setIfInBounds_toArray, List.set_cons_zero, List.set_cons_succ]
          refine wpAnyH_take (i := 38) (v := Value.string S.send) rfl (by kernel_rfl) (by kernel_rfl) (by kernel_rfl) (fun _ _ _ h => h) (Or.inl ⟨rfl, fun W hW => by have hc := hW.1.cell 3 _ rfl; go_simp⟩) hS4 ?_
          try simp only [Act.put, List.getElem_toArray, List.getElem_cons_zero, List.getElem_cons_succ, List.setIfInBounds_toArray, List.set_cons_zero, List.set_cons_succ]
          refine wpAnyH_take (i := 39) (v := Value.bool true) rfl (by kernel_rfl) (by kernel_rfl) (by kernel_rfl) (fun _ _ _ h => h) (Or.inl ⟨rfl, fun _ _ => by first | (go_simp; done) | kernel_rfl⟩) hS4 ?_
          try simp only [Act.put, List.getElem_toArray, List.getElem_cons_zero, List.getElem_cons_succ, List.setIfInBounds_toArray, List.set_cons_zero, List.set_cons_succ]
          refine wpAnyH_take (i := 40) (v := Value.bool true) rfl (by kernel_rfl) (by kernel_rfl) (by kernel_rfl) (fun _ _ _ h => h) (Or.inl ⟨rfl, fun _ _ => by first | (go_simp; done) | kernel_rfl⟩) hS4 ?_
          try simp only [Act.put, List.getElem_toArray, List.getElem_cons_zero, List.getElem_cons_succ, List.setIfInBounds_toArray, List.set_cons_zero, List.set_cons_succ]
          refine wpAnyH_take (i := 41) (v := Value.bool true) rfl (by kernel_rfl) (by kernel_rfl) (by kernel_rfl) (fun _ _ _ h => h) (Or.inl ⟨rfl, fun _ _ => by first | (go_simp; done) | kernel_rfl⟩) hS4 ?_
          try simp only [Act.put, List.getElem_toArray, List.getElem_cons_zero, List.getElem_cons_succ, List.setIfInBounds_toArray, List.set_cons_zero, List.set_cons_succ]
          refine wpAnyH_take (i := 42) (v := Value.pointer (some ⟨w2.heap.size, 4, none⟩)) rfl (by kernel_rfl) (by kernel_rfl) (by kernel_rfl) (fun _ _ _ h => h) (Or.inl ⟨rfl, fun _ _ => by first | (go_simp; done) | kernel_rfl⟩) hS4 ?_
          try simp only [Act.put, List.getElem_toArray, List.getElem_cons_zero, List.getElem_cons_succ, List.setIfInBounds_toArray, List.set_cons_zero, List.set_cons_succ]
          refine wpAnyH_take (i := 43) (v := Value.string S.recv) rfl (by kernel_rfl) (by kernel_rfl) (by kernel_rfl) (fun _ _ _ h => h) (Or.inl ⟨rfl, fun W hW => by have hc := (show W.cell? ⟨w2.heap.size, 4, none⟩ = some (Value.string S.recv) from hW.2.1.cell 4 _ rfl); go_simp⟩) hS4 ?_
          try simp only [Act.put, List.getElem_toArray, List.getElem_cons_zero, List.getElem_cons_succ, List.setIfInBounds_toArray, List.set_cons_zero, List.set_cons_succ]
          refine wpAnyH_take (i := 44) (v := Value.pointer (some ⟨w.heap.size, 4, none⟩)) rfl (by kernel_rfl) (by kernel_rfl) (by kernel_rfl) (fun _ _ _ h => h) (Or.inl ⟨rfl, fun _ _ => by first | (go_simp; done) | kernel_rfl⟩) hS4 ?_
          try simp only [Act.put, List.getElem_toArray, List.getElem_cons_zero, List.getElem_cons_succ, List.setIfInBounds_toArray, List.set_cons_zero, List.set_cons_succ]
          refine wpAnyH_take (i := 45) (v := Value.string S.recv) rfl (by kernel_rfl) (by kernel_rfl) (by kernel_rfl) (fun _ _ _ h => h) (Or.inl ⟨rfl, fun W hW => by have hc := hW.1.cell 4 _ rfl; go_simp⟩) hS4 ?_
          try simp only [Act.put, List.getElem_toArray, List.getElem_cons_zero, List.getElem_cons_succ, List.setIfInBounds_toArray, List.set_cons_zero, List.set_cons_succ]
          refine wpAnyH_take (i := 46) (v := Value.bool true) rfl (by kernel_rfl) (by kernel_rfl) (by kernel_rfl) (fun _ _ _ h => h) (Or.inl ⟨rfl, fun _ _ => by first | (go_simp; done) | kernel_rfl⟩) hS4 ?_
          try simp only [Act.put, List.getElem_toArray, List.getElem_cons_zero, List.getElem_cons_succ, List.setIfInBounds_toArray, List.set_cons_zero, List.set_cons_succ]
          refine wpAnyH_take (i := 47) (v := Value.bool true) rfl (by kernel_rfl) (by kernel_rfl) (by kernel_rfl) (fun _ _ _ h => h) (Or.inl ⟨rfl, fun _ _ => by first | (go_simp; done) | kernel_rfl⟩) hS4 ?_
          try simp only [Act.put, List.getElem_toArray, List.getElem_cons_zero, List.getElem_cons_succ, List.setIfInBounds_toArray, List.set_cons_zero, List.set_cons_succ]
          refine wpAnyH_take (i := 48) (v := Value.bool true) rfl (by kernel_rfl) (by kernel_rfl) (by kernel_rfl) (fun _ _ _ h => h) (Or.inl ⟨rfl, fun _ _ => by first | (go_simp; done) | kernel_rfl⟩) hS4 ?_
          try simp only [Act.put, List.getElem_toArray, List.getElem_cons_zero, List.getElem_cons_succ, List.setIfInBounds_toArray, List.set_cons_zero, List.set_cons_succ]
          refine wpAnyH_take (i := 49) (v := Value.pointer (some ⟨w2.heap.size, 5, none⟩)) rfl (by kernel_rfl) (by kernel_rfl) (by kernel_rfl) (fun _ _ _ h => h) (Or.inl ⟨rfl, fun _ _ => by first | (go_simp; done) | kernel_rfl⟩) hS4 ?_
          try simp only [Act.put, List.getElem_toArray, List.getElem_cons_zero, List.getElem_cons_succ, List.setIfInBounds_toArray, List.set_cons_zero, List.set_cons_succ]
          refine wpAnyH_take (i := 50) (v := Value.int .u64 (S.sent : Int)) rfl (by kernel_rfl) (by kernel_rfl) (by kernel_rfl) (fun _ _ _ h => h) (Or.inl ⟨rfl, fun W hW => by have hc := (show W.cell? ⟨w2.heap.size, 5, none⟩ = some (Value.int .u64 (S.sent : Int)) from hW.2.1.cell 5 _ rfl); go_simp⟩) hS4 ?_
          try simp only [Act.put, List.getElem_toArray, List.getElem_cons_zero, List.getElem_cons_succ, List.setIfInBounds_toArray, List.set_cons_zero, List.set_cons_succ]
          refine wpAnyH_take (i := 51) (v := Value.pointer (some ⟨w.heap.size, 5, none⟩)) rfl (by kernel_rfl) (by kernel_rfl) (by kernel_rfl) (fun _ _ _ h => h) (Or.inl ⟨rfl, fun _ _ => by first | (go_simp; done) | kernel_rfl⟩) hS4 ?_
          try simp only [Act.put, List.getElem_toArray, List.getElem_cons_zero, List.getElem_cons_succ, List.setIfInBounds_toArray, List.set_cons_zero, List.set_cons_succ]
          refine wpAnyH_take (i := 52) (v := Value.int .u64 (S.sent : Int)) rfl (by kernel_rfl) (by kernel_rfl) (by kernel_rfl) (fun _ _ _ h => h) (Or.inl ⟨rfl, fun W hW => by have hc := hW.1.cell 5 _ rfl; go_simp⟩) hS4 ?_
          try simp only [Act.put, List.getElem_toArray, List.getElem_cons_zero, List.getElem_cons_succ, List.setIfInBounds_toArray, List.set_cons_zero, List.set_cons_succ]
          refine wpAnyH_take (i := 53) (v := Value.bool true) rfl (by kernel_rfl) (by kernel_rfl) (by kernel_rfl) (fun _ _ _ h => h) (Or.inl ⟨rfl, fun _ _ => by first | (go_simp; done) | kernel_rfl⟩) hS4 ?_
          try simp only [Act.put, List.getElem_toArray, List.getElem_cons_zero, List.getElem_cons_succ, List.setIfInBounds_toArray, List.set_cons_zero, List.set_cons_succ]
          refine wpAnyH_take (i := 54) (v := Value.bool true) rfl (by kernel_rfl) (by kernel_rfl) (by kernel_rfl) (fun _ _ _ h => h) (Or.inl ⟨rfl, fun _ _ => by first | (go_simp; done) | kernel_rfl⟩) hS4 ?_
          try simp only [Act.put, List.getElem_toArray, List.getElem_cons_zero, List.getElem_cons_succ, List.setIfInBounds_toArray, List.set_cons_zero, List.set_cons_succ]
          refine wpAnyH_take (i := 55) (v := Value.bool true) rfl (by kernel_rfl) (by kernel_rfl) (by kernel_rfl) (fun _ _ _ h => h) (Or.inl ⟨rfl, fun _ _ => by first | (go_simp; done) | kernel_rfl⟩) hS4 ?_
          try simp only [Act.put, List.getElem_toArray, List.getElem_cons_zero, List.getElem_cons_succ, List.setIfInBounds_toArray, List.set_cons_zero, List.set_cons_succ]
          refine wpAnyH_take (i := 56) (v := Value.pointer (some ⟨w2.heap.size, 6, none⟩)) rfl (by kernel_rfl) (by kernel_rfl) (by kernel_rfl) (fun _ _ _ h => h) (Or.inl ⟨rfl, fun _ _ => by first | (go_simp; done) | kernel_rfl⟩) hS4 ?_
          try simp only [Act.put, List.getElem_toArray, List.getElem_cons_zero, List.getElem_cons_succ, List.setIfInBounds_toArray, List.set_cons_zero, List.set_cons_succ]
          refine wpAnyH_take (i := 57) (v := Value.int .u64 (S.got : Int)) rfl (by kernel_rfl) (by kernel_rfl) (by kernel_rfl) (fun _ _ _ h => h) (Or.inl ⟨rfl, fun W hW => by have hc := (show W.cell? ⟨w2.heap.size, 6, none⟩ = some (Value.int .u64 (S.got : Int)) from hW.2.1.cell 6 _ rfl); go_simp⟩) hS4 ?_
          try simp only [Act.put, List.getElem_toArray, List.getElem_cons_zero, List.getElem_cons_succ, List.setIfInBounds_toArray, List.set_cons_zero, List.set_cons_succ]
          refine wpAnyH_take (i := 58) (v := Value.pointer (some ⟨w.heap.size, 6, none⟩)) rfl (by kernel_rfl) (by kernel_rfl) (by kernel_rfl) (fun _ _ _ h => h) (Or.inl ⟨rfl, fun _ _ => by first | (go_simp; done) | kernel_rfl⟩) hS4 ?_
          try simp only [Act.put, List.getElem_toArray, List.getElem_cons_zero, List.getElem_cons_succ, List.setIfInBounds_toArray, List.set_cons_zero, List.set_cons_succ]
          refine wpAnyH_take (i := 59) (v := Value.int .u64 (S.got : Int)) rfl (by kernel_rfl) (by kernel_rfl) (by kernel_rfl) (fun _ _ _ h => h) (Or.inl ⟨rfl, fun W hW => by have hc := hW.1.cell 6 _ rfl; go_simp⟩) hS4 ?_
          try simp only [Act.put, List.getElem_toArray, List.getElem_cons_zero, List.getElem_cons_succ, List.setIfInBounds_toArray, List.set_cons_zero, List.set_cons_succ]
          refine wpAnyH_take (i := 60) (v := Value.bool true) rfl (by kernel_rfl) (by kernel_rfl) (by kernel_rfl) (fun _ _ _ h => h) (Or.inl ⟨rfl, fun _ _ => by first | (go_simp; done) | kernel_rfl⟩) hS4 ?_
          try simp only [Act.put, List.getElem_toArray, List.getElem_cons_zero, List.getElem_cons_succ, List.setIfInBounds_toArray, List.set_cons_zero, List.set_cons_succ]
          refine wpAnyH_take (i := 61) (v := Value.bool true) rfl (by kernel_rfl) (by kernel_rfl) (by kernel_rfl) (fun _ _ _ h => h) (Or.inl ⟨rfl, fun _ _ => by first | (go_simp; done) | kernel_rfl⟩) hS4 ?_
          try simp only [Act.put, List.getElem_toArray, List.getElem_cons_zero, List.getElem_cons_succ, List.setIfInBounds_toArray, List.set_cons_zero, List.set_cons_succ]
          refine wpAnyH_take (i := 62) (v := Value.bool true) rfl (by kernel_rfl) (by kernel_rfl) (by kernel_rfl) (fun _ _ _ h => h) (Or.inl ⟨rfl, fun _ _ => by first | (go_simp; done) | kernel_rfl⟩) hS4 ?_
          try simp only [Act.put, List.getElem_toArray, List.getElem_cons_zero, List.getElem_cons_succ, List.setIfInBounds_toArray, List.set_cons_zero, List.set_cons_succ]
          refine wpAnyH_done (by kernel_rfl) ?_ _
          have HB7 := Lib.hid (HD10.out.below.trans (hS4.2.2.mono HD10.out.below.size))
          clear hS0 hS1 hS2 hS3 hS4 ha hb hb4 hcc ht2 hs2 HCC HT1 HT2 HD10 HT
          go_wp2_with fail
          go_ret
          exact ⟨rfl, HB7.out⟩
end Go.Proofs.YtdnjieffbgmagaaDoor
