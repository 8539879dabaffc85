/- The texts Kt, Va, Vb, Vc, one behind the other. -/
import Derived.Test.YtolobdeilfgmnaaDoorKs
import Derived.Test.YtolobdeilfgmnaaDoorFexa
/- Structs of two cells in memory; more of rows of the call's own. -/
namespace Go.Proofs.YtolobdeilfgmnaaDoor
open Go.RowKit
set_option maxRecDepth 100000

theorem store2 {w : World} {B : Nat} {a b : Value} {t : TypeId} (h : w.heap[B]? = some (.cells #[a, b] t (0, 0))) (x y : Value) :
    ((w.setCell ⟨B, 0, none⟩ x).setCell ⟨B, 1, none⟩ y).heap[B]? = some (.cells #[x, y] t (0, 0)) := by
  have h1 := heap_setCell_same w B 0 _ t x h
  have h2 := heap_setCell_same _ B 1 _ t y h1
  rw [h2]
  simp
theorem below2 {w0 w : World} {n B : Nat} (h : Below n w0 w) (hB : n ≤ B) (a b : Value) : Below n w0 ((w.setCell ⟨B, 0, none⟩ a).setCell ⟨B, 1, none⟩ b) :=
  (h.setCell (p := ⟨B, 0, none⟩) hB a).setCell (p := ⟨B, 1, none⟩) hB b
theorem store_fst {w : World} {B : Nat} {a b : Value} {t : TypeId} (h : w.heap[B]? = some (.cells #[a, b] t (0, 0))) (x : Value) : (w.setCell ⟨B, 0, none⟩ x).heap[B]? = some (.cells #[x, b] t (0, 0)) := by
  rw [heap_setCell_same w B 0 _ t x h]; simp
theorem store_snd {w : World} {B : Nat} {a b : Value} {t : TypeId} (h : w.heap[B]? = some (.cells #[a, b] t (0, 0))) (y : Value) : (w.setCell ⟨B, 1, none⟩ y).heap[B]? = some (.cells #[a, y] t (0, 0)) := by
  rw [heap_setCell_same w B 1 _ t y h]; simp
theorem OwnS.form {w : World} {base : Nat} {v : Value} {l : List ByteArray} (h : OwnS w base v l) : ∃ a c, v = .slice a l.length c ∧ l.length ≤ c ∧ (0 < l.length → ∃ g, a = some ⟨g, 0, none⟩) := by
  rcases h.2 with ⟨e, h0⟩ | ⟨g, cap, cur, e, -, -, hc, -⟩
  · exact ⟨none, 0, by rw [e, h0], by omega, fun h => by omega⟩
  · exact ⟨_, _, e, hc, fun _ => ⟨g, rfl⟩⟩
theorem OwnS.same {w w' : World} {base : Nat} {v : Value} {l : List ByteArray} (h : OwnS w base v l) (hk : ∀ k, v.ownBlock = some k → w'.heap[k]? = w.heap[k]?) : OwnS w' base v l := by
  refine ⟨h.1, ?_⟩
  rcases h.2 with h2 | ⟨g, cap, cur, e, hg, hc, h3⟩
  · exact .inl h2
  · exact .inr ⟨g, cap, cur, e, hg, by rw [hk g (by rw [e]; rfl)]; exact hc, h3⟩
theorem own_ne {W : World} {base : Nat} {e : TypeId} {size : Nat} {v : Value} {k : Nat} {xs : List Value} (h : W.ownsRow base e size v k xs) (j : Nat) (hj : j < base) : some j ≠ v.ownBlock := by
  intro e'
  have := (h.lt j e'.symm).1
  omega
theorem own_base {W : World} {base base' : Nat} {e : TypeId} {size : Nat} {v : Value} {k : Nat} {xs : List Value} (h : W.ownsRow base e size v k xs) (hb : base' ≤ base) : W.ownsRow base' e size v k xs := by
  refine ⟨h.1, ?_⟩
  rcases h.2 with hn | ⟨g, cap, cur, hv, hbg, rest⟩
  · exact .inl hn
  · exact .inr ⟨g, cap, cur, hv, Nat.le_trans hb hbg, rest⟩
end Go.Proofs.YtolobdeilfgmnaaDoor

/- Chains of keys in plain mathematics: a chain's steps, one behind the other. -/
namespace Go.Proofs.YtolobdeilfgmnaaDoor
open Go.RowKit
set_option maxRecDepth 100000

def rtWord : ByteArray := ⟨#[114, 111, 111, 116]⟩
def stWord : ByteArray := ⟨#[115, 116, 101, 112]⟩
/-- the first of two keys of a secret, by a word -/
def spA (k wd : ByteArray) : ByteArray := strL (lastT (bl k) (bl wd) 1)
/-- the second -/
def spB (k wd : ByteArray) : ByteArray := strL (lastT (bl k) (bl wd) 2)
theorem spA_size (k wd : ByteArray) : (spA k wd).size = 32 := by unfold spA; rw [strL_size]; exact ofL_length _
theorem spB_size (k wd : ByteArray) : (spB k wd).size = 32 := by unfold spB; rw [strL_size]; exact ofL_length _
theorem row2 (k wd : ByteArray) : rowT (bl k) (bl wd) 2 = [spA k wd, spB k wd] := rfl
/-- a chain behind so many steps -/
def runC (c : ByteArray) : Nat → ByteArray
  | 0 => c
  | n + 1 => spA (runC c n) stWord
/-- so many steps of a chain: of each the next chain, and a message's key -/
def stepsL (c : ByteArray) : Nat → List (ByteArray × ByteArray)
  | 0 => []
  | n + 1 => stepsL c n ++ [(spA (runC c n) stWord, spB (runC c n) stWord)]
/-- the keys of so many steps -/
def runK (c : ByteArray) (n : Nat) : List ByteArray := (stepsL c n).map Prod.snd
theorem runC_size (c : ByteArray) (hc : c.size = 32) (n : Nat) : (runC c n).size = 32 := by
  cases n with
  | zero => exact hc
  | succ n => exact spA_size _ _
theorem stepsL_length (c : ByteArray) (n : Nat) : (stepsL c n).length = n := by
  induction n with
  | zero => rfl
  | succ n ih => simp [stepsL, ih]
theorem runK_length (c : ByteArray) (n : Nat) : (runK c n).length = n := by simp [runK, stepsL_length]
theorem runK_succ (c : ByteArray) (n : Nat) : runK c (n + 1) = runK c n ++ [spB (runC c n) stWord] := by simp [runK, stepsL]
/-- so many steps, and then others, are as many at once -/
theorem runC_add (c : ByteArray) (a b : Nat) : runC c (a + b) = runC (runC c a) b := by
  induction b with
  | zero => rfl
  | succ b ih => rw [← Nat.add_assoc, runC, ih, runC]
theorem runK_add (c : ByteArray) (a b : Nat) : runK c (a + b) = runK c a ++ runK (runC c a) b := by
  induction b with
  | zero => simp [runK, stepsL]
  | succ b ih => rw [← Nat.add_assoc, runK_succ, ih, runK_succ, runC_add, List.append_assoc]
/-- the chain that the last of some steps comes to -/
def atC (c : ByteArray) (xs : List (ByteArray × ByteArray)) : ByteArray := match xs.getLast? with | none => c | some p => p.1
theorem atC_snoc (c : ByteArray) (xs : List (ByteArray × ByteArray)) (p : ByteArray × ByteArray) : atC c (xs ++ [p]) = p.1 := by unfold atC; simp
theorem atC_steps (c : ByteArray) (n : Nat) : atC c (stepsL c n) = runC c n := by
  cases n with
  | zero => rfl
  | succ n => rw [stepsL, atC_snoc, runC]
end Go.Proofs.YtolobdeilfgmnaaDoor

/- chain's smallest functions: whether a key may be; a secret split to two. -/
namespace Go.Proofs.YtolobdeilfgmnaaDoor
open Go.RowKit
set_option maxRecDepth 100000

theorem isKeyC_any (s : ByteArray) (w : World) :
    Calls Tryd.prog 17 #[.string s] w fun e w' => e = .returned (.bool (decide (s.size = 32))) ∧ w = w' := by
  have h : ((s.size : Int) == 32) = decide (s.size = 32) := by
    rw [Bool.eq_iff_iff, beq_iff_eq, decide_eq_true_iff]; omega
  go_enter Tryd.func17, Tryd.ntmps17
  go_wp2
  go_ret
  exact ⟨rfl, rfl⟩
set_option maxHeartbeats 1000000 in
theorem splitC_any (k wd : ByteArray) (hk : k.size ≤ 1000000) (hwd : wd.size ≤ 80000) (w : World) (hF : FirstAt w) (hK : KeysAt w) :
    Calls Tryd.prog 18 #[.string k, .string wd] w fun e w' => e = .returned (.tuple #[.string (spA k wd), .string (spB k wd)]) ∧ Below w.heap.size w w' := by
  have hs := split_good k wd 2 hk hwd (by omega) w hF hK
  rw [row2] at hs
  generalize spA k wd = A at hs ⊢
  generalize spB k wd = B at hs ⊢
  have HS := Lib.hid hs
  clear hs hF hK
  go_enter Tryd.func18, Tryd.ntmps18
  go_wp2_with fail
  refine HS.out.mono ?_
  rintro e w1 ⟨g, cap, rfl, hl, -, hb1⟩
  obtain ⟨b, o, c, e0, hlt, hcl⟩ := hl
  obtain ⟨⟨rfl, rfl⟩, rfl⟩ : (g = b ∧ 0 = o) ∧ cap = c := by simpa using e0
  have c0 : w1.cell? ⟨g, 0, none⟩ = some (.string A) := hcl 0 (by simp)
  have c1 : w1.cell? ⟨g, 1, none⟩ = some (.string B) := hcl 1 (by simp)
  have HB := Lib.hid hb1
  clear HS hb1 hcl e0 hlt
  go_wp2_with fail
  go_quiet (fail)
  go_wp2_with fail
  go_ret2
  exact ⟨rfl, below_drewN HB.out _⟩
end Go.Proofs.YtolobdeilfgmnaaDoor

/- chain's Root and Step. -/
namespace Go.Proofs.YtolobdeilfgmnaaDoor
open Go.RowKit
set_option maxRecDepth 100000

set_option maxHeartbeats 1000000 in
theorem Step_bad (c : ByteArray) (hc : c.size ≠ 32) (w : World) :
    Calls Tryd.prog 8 #[.string c] w fun e w' => e = .returned (.tuple #[.string ⟨#[]⟩, .string ⟨#[]⟩, .int .i64 2]) ∧ w = w' := by
  have h1 := isKeyC_any c
  rw [decide_eq_false hc] at h1
  have H1 := Lib.hid h1
  clear h1 hc
  go_enter Tryd.func8, Tryd.ntmps8
  go_wp2_with fail
  refine (H1.out _).mono ?_
  rintro e w1 ⟨rfl, rfl⟩
  go_wp2_with fail
  go_ret3
  exact ⟨rfl, rfl⟩
set_option maxHeartbeats 1000000 in
theorem Step_good (c : ByteArray) (hc : c.size = 32) (w : World) (hF : FirstAt w) (hK : KeysAt w) :
    Calls Tryd.prog 8 #[.string c] w fun e w' => e = .returned (.tuple #[.string (spA c stWord), .string (spB c stWord), .int .i64 0]) ∧ Below w.heap.size w w' := by
  have h1 := isKeyC_any c
  rw [decide_eq_true hc] at h1
  have hs := splitC_any c stWord (by omega) (by decide) w hF hK
  generalize spA c stWord = A at hs ⊢
  generalize spB c stWord = B at hs ⊢
  unfold stWord at hs
  have H1 := Lib.hid h1; have HS := Lib.hid hs
  clear h1 hc hs hF hK
  go_enter Tryd.func8, Tryd.ntmps8
  go_wp2_with fail
  refine (H1.out _).mono ?_
  rintro e w1 ⟨rfl, rfl⟩
  go_wp2_with fail
  refine HS.out.mono ?_
  rintro e w1 ⟨rfl, hb⟩
  have HB := Lib.hid hb
  clear hb H1 HS
  go_wp2_with fail
  go_ret3
  exact ⟨rfl, HB.out⟩

/-- a root's step, with a shared point: the next root -/
def rootA (r s : ByteArray) : ByteArray := spA (strL (tagL (bl r) (bl s))) rtWord
/-- a chain -/
def rootB (r s : ByteArray) : ByteArray := spB (strL (tagL (bl r) (bl s))) rtWord
set_option maxHeartbeats 1000000 in
theorem Root_bad (r s : ByteArray) (hc : ¬ (r.size = 32 ∧ s.size = 32)) (w : World) :
    Calls Tryd.prog 7 #[.string r, .string s] w fun e w' => e = .returned (.tuple #[.string ⟨#[]⟩, .string ⟨#[]⟩, .int .i64 2]) ∧ w = w' := by
  have h1 := isKeyC_any r
  have h2 := isKeyC_any s
  by_cases hr : r.size = 32
  · rw [decide_eq_true hr] at h1
    rw [decide_eq_false (fun h => hc ⟨hr, h⟩)] at h2
    have H1 := Lib.hid h1; have H2 := Lib.hid h2
    clear h1 h2 hc hr
    go_enter Tryd.func7, Tryd.ntmps7
    go_wp2_with fail
    refine (H1.out _).mono ?_
    rintro e w1 ⟨rfl, rfl⟩
    go_wp2_with fail
    refine (H2.out _).mono ?_
    rintro e w1 ⟨rfl, rfl⟩
    go_wp2_with fail
    go_ret3
    exact ⟨rfl, rfl⟩
  · rw [decide_eq_false hr] at h1
    have H1 := Lib.hid h1
    clear h1 h2 hc hr
    go_enter Tryd.func7, Tryd.ntmps7
    go_wp2_with fail
    refine (H1.out _).mono ?_
    rintro e w1 ⟨rfl, rfl⟩
    go_wp2_with fail
    go_ret3
    exact ⟨rfl, rfl⟩
set_option maxHeartbeats 1000000 in
theorem Root_good (r s : ByteArray) (hr : r.size = 32) (hs : s.size = 32) (w : World) (hF : FirstAt w) (hK : KeysAt w) :
    Calls Tryd.prog 7 #[.string r, .string s] w fun e w' => e = .returned (.tuple #[.string (rootA r s), .string (rootB r s), .int .i64 0]) ∧ Below w.heap.size w w' := by
  have h1 := isKeyC_any r
  have h2 := isKeyC_any s
  rw [decide_eq_true hr] at h1
  rw [decide_eq_true hs] at h2
  have he := extract_any r s (by omega) (by omega) w hF hK
  obtain ⟨T, eT⟩ : ∃ T, strL (tagL (bl r) (bl s)) = T := ⟨_, rfl⟩
  have hT : T.size = 32 := by rw [← eT, strL_size]; exact ofL_length _
  have hsp := splitC_any T rtWord (by omega) (by decide)
  unfold rootA rootB
  rw [eT] at he ⊢
  generalize spA T rtWord = A at hsp ⊢
  generalize spB T rtWord = B at hsp ⊢
  unfold rtWord at hsp
  have H1 := Lib.hid h1; have H2 := Lib.hid h2; have HE := Lib.hid he; have HS := Lib.hid hsp; have HFK := Lib.hid (And.intro hF hK)
  clear h1 h2 he hsp hr hs hT eT hF hK
  go_enter Tryd.func7, Tryd.ntmps7
  go_wp2_with fail
  refine (H1.out _).mono ?_
  rintro e w1 ⟨rfl, rfl⟩
  go_wp2_with fail
  refine (H2.out _).mono ?_
  rintro e w1 ⟨rfl, rfl⟩
  go_wp2_with fail
  refine HE.out.mono ?_
  rintro e w1 ⟨rfl, hb⟩
  have HS1 := Lib.hid (HS.out w1 (HFK.out.1.on hb) (HFK.out.2.on hb)); have HB := Lib.hid hb
  clear hb H1 H2 HE HS HFK
  go_wp2_with fail
  refine HS1.out.mono ?_
  rintro e w2 ⟨rfl, hb⟩
  have HB2 := Lib.hid (HB.out.trans (hb.mono HB.out.size))
  clear hb HS1 HB
  go_wp2_with fail
  go_ret3
  exact ⟨rfl, HB2.out⟩
end Go.Proofs.YtolobdeilfgmnaaDoor
