/- The reference 12's Fill. -/
import Derived.Test.YtfkfadcfafbmmaaDoorBg15
import Derived.Test.YtfkfadcfafbmmaaDoorBg13
namespace Go.Proofs.YtfkfadcfafbmmaaDoor
open Go.RowKit Go.Sort
set_option maxRecDepth 100000
set_option maxHeartbeats 16000000 in
theorem fillR_size (kv : Value) (a : Option Addr) (ca : Nat) (l : List Kk) (r c : ByteArray) (f t : Nat)  (hs : ¬ (r.size = 32 ∧ c.size = 32)) (w : World) (hk : KAt w kv) :
    Calls Tryd.prog 9 #[kv, .slice a l.length ca, .string r, .string c, .int .u64 (f : Int), .int .u64 (t : Int)] w fun e w' => e = .returned (.agg #[.slice none 0 0, .string ⟨#[]⟩, .int .i64 2]) ∧ Below w.heap.size w w' := by
  have hKA := id hk
  obtain ⟨k0, k1, rfl, hK0, hK1⟩ := hk
  obtain ⟨g0, o0, c0, rfl, hg0, -⟩ := hK0
  obtain ⟨g1, o1, c1, rfl, hg1, -⟩ := hK1
  simp only [S8.l_length, keysL_length] at hKA ⊢
  clear hg0 hg1
  clear hKA
  by_cases h1 : r.size = 32
  · have h2 : c.size ≠ 32 := fun h2 => hs ⟨h1, h2⟩
    have q1 : ((r.size : Int) != 32) = false := by rw [h1]; rfl
    have q2 : ((c.size : Int) != 32) = true := by rw [bne_iff_ne]; omega
    clear h1 h2 hs
    go_enter Tryd.func9, Tryd.ntmps9
    go_upto_region 1 with fail
    have hb0 : Below w.heap.size w ((w.alloc (.cells #[.slice (some ⟨g0, o0, none⟩) 64 c0, .slice (some ⟨g1, o1, none⟩) 8 c1] 35)).alloc (.cells #[.slice none 0 0, .string ⟨#[]⟩, .int .i64 0] 31)) := by go_grown
    have hc0 : ((w.alloc (.cells #[.slice (some ⟨g0, o0, none⟩) 64 c0, .slice (some ⟨g1, o1, none⟩) 8 c1] 35)).alloc (.cells #[.slice none 0 0, .string ⟨#[]⟩, .int .i64 0] 31)).heap[w.heap.size]? = some (.cells #[.slice (some ⟨g0, o0, none⟩) 64 c0, .slice (some ⟨g1, o1, none⟩) 8 c1] 35) := heap_alloc2_old _ _ _
    have hr0 : ((w.alloc (.cells #[.slice (some ⟨g0, o0, none⟩) 64 c0, .slice (some ⟨g1, o1, none⟩) 8 c1] 35)).alloc (.cells #[.slice none 0 0, .string ⟨#[]⟩, .int .i64 0] 31)).heap[w.heap.size + 1]? = some (.cells #[.slice none 0 0, .string ⟨#[]⟩, .int .i64 0] 31) := heap_alloc2_new _ _ _
    obtain ⟨W, hW⟩ : ∃ W, (w.alloc (.cells #[.slice (some ⟨g0, o0, none⟩) 64 c0, .slice (some ⟨g1, o1, none⟩) 8 c1] 35)).alloc (.cells #[.slice none 0 0, .string ⟨#[]⟩, .int .i64 0] 31) = W := ⟨_, rfl⟩
    rw [hW] at hb0 hc0 hr0 ⊢
    obtain ⟨h, eh⟩ : ∃ h, w.heap.size = h := ⟨_, rfl⟩
    rw [eh] at hb0 hc0 hr0 ⊢
    clear hW
    have HB0 := Lib.hid hb0; have HC0 := Lib.hid hc0; have HR0 := Lib.hid hr0
    clear hb0 hc0 hr0
    have x0 : W.cell? ⟨h + 1, 0, none⟩ = some (.slice none 0 0) := by rw [cell_of_row _ _ _ _ _ _ HR0.out]; rfl
    have x1 : W.cell? ⟨h + 1, 1, none⟩ = some (.string ⟨#[]⟩) := by rw [cell_of_row _ _ _ _ _ _ HR0.out]; rfl
    have x2 : W.cell? ⟨h + 1, 2, none⟩ = some (.int .i64 0) := by rw [cell_of_row _ _ _ _ _ _ HR0.out]; rfl
    have y0 := frozen_of_row W (h + 1) 0 _ _ HR0.out
    have y1 := frozen_of_row W (h + 1) 1 _ _ HR0.out
    have y2 := frozen_of_row W (h + 1) 2 _ _ HR0.out
    have HSS := Lib.hid (store3K HR0.out (.slice none 0 0) (.string ⟨#[]⟩) (.int .i64 2)); have HBS := Lib.hid (below3K HB0.out (Nat.le_succ h) (.slice none 0 0) (.string ⟨#[]⟩) (.int .i64 2))
    go_wp2_with fail
    clear x0 x1 x2 y0 y1 y2
    generalize World.setCell (World.setCell (World.setCell W _ _) _ _) _ _ = V at HSS HBS ⊢
    have s0 : V.cell? ⟨h + 1, 0, none⟩ = some (.slice none 0 0) := by rw [cell_of_row _ _ _ _ _ _ HSS.out]; rfl
    have s1 : V.cell? ⟨h + 1, 1, none⟩ = some (.string ⟨#[]⟩) := by rw [cell_of_row _ _ _ _ _ _ HSS.out]; rfl
    have s2 : V.cell? ⟨h + 1, 2, none⟩ = some (.int .i64 2) := by rw [cell_of_row _ _ _ _ _ _ HSS.out]; rfl
    refine bodyPost_ret (v := .agg #[.slice none 0 0, .string ⟨#[]⟩, .int .i64 2]) (by simp [results, Tryd.results9, go_sem, s0, s1, s2]) rfl ⟨rfl, by first | exact HBS.out | (rw [eh]; exact HBS.out)⟩
  · have q1 : ((r.size : Int) != 32) = true := by rw [bne_iff_ne]; omega
    clear h1 hs
    go_enter Tryd.func9, Tryd.ntmps9
    go_upto_region 1 with fail
    have hb0 : Below w.heap.size w ((w.alloc (.cells #[.slice (some ⟨g0, o0, none⟩) 64 c0, .slice (some ⟨g1, o1, none⟩) 8 c1] 35)).alloc (.cells #[.slice none 0 0, .string ⟨#[]⟩, .int .i64 0] 31)) := by go_grown
    have hc0 : ((w.alloc (.cells #[.slice (some ⟨g0, o0, none⟩) 64 c0, .slice (some ⟨g1, o1, none⟩) 8 c1] 35)).alloc (.cells #[.slice none 0 0, .string ⟨#[]⟩, .int .i64 0] 31)).heap[w.heap.size]? = some (.cells #[.slice (some ⟨g0, o0, none⟩) 64 c0, .slice (some ⟨g1, o1, none⟩) 8 c1] 35) := heap_alloc2_old _ _ _
    have hr0 : ((w.alloc (.cells #[.slice (some ⟨g0, o0, none⟩) 64 c0, .slice (some ⟨g1, o1, none⟩) 8 c1] 35)).alloc (.cells #[.slice none 0 0, .string ⟨#[]⟩, .int .i64 0] 31)).heap[w.heap.size + 1]? = some (.cells #[.slice none 0 0, .string ⟨#[]⟩, .int .i64 0] 31) := heap_alloc2_new _ _ _
    obtain ⟨W, hW⟩ : ∃ W, (w.alloc (.cells #[.slice (some ⟨g0, o0, none⟩) 64 c0, .slice (some ⟨g1, o1, none⟩) 8 c1] 35)).alloc (.cells #[.slice none 0 0, .string ⟨#[]⟩, .int .i64 0] 31) = W := ⟨_, rfl⟩
    rw [hW] at hb0 hc0 hr0 ⊢
    obtain ⟨h, eh⟩ : ∃ h, w.heap.size = h := ⟨_, rfl⟩
    rw [eh] at hb0 hc0 hr0 ⊢
    clear hW
    have HB0 := Lib.hid hb0; have HC0 := Lib.hid hc0; have HR0 := Lib.hid hr0
    clear hb0 hc0 hr0
    have x0 : W.cell? ⟨h + 1, 0, none⟩ = some (.slice none 0 0) := by rw [cell_of_row _ _ _ _ _ _ HR0.out]; rfl
    have x1 : W.cell? ⟨h + 1, 1, none⟩ = some (.string ⟨#[]⟩) := by rw [cell_of_row _ _ _ _ _ _ HR0.out]; rfl
    have x2 : W.cell? ⟨h + 1, 2, none⟩ = some (.int .i64 0) := by rw [cell_of_row _ _ _ _ _ _ HR0.out]; rfl
    have y0 := frozen_of_row W (h + 1) 0 _ _ HR0.out
    have y1 := frozen_of_row W (h + 1) 1 _ _ HR0.out
    have y2 := frozen_of_row W (h + 1) 2 _ _ HR0.out
    have HSS := Lib.hid (store3K HR0.out (.slice none 0 0) (.string ⟨#[]⟩) (.int .i64 2)); have HBS := Lib.hid (below3K HB0.out (Nat.le_succ h) (.slice none 0 0) (.string ⟨#[]⟩) (.int .i64 2))
    go_wp2_with fail
    clear x0 x1 x2 y0 y1 y2
    generalize World.setCell (World.setCell (World.setCell W _ _) _ _) _ _ = V at HSS HBS ⊢
    have s0 : V.cell? ⟨h + 1, 0, none⟩ = some (.slice none 0 0) := by rw [cell_of_row _ _ _ _ _ _ HSS.out]; rfl
    have s1 : V.cell? ⟨h + 1, 1, none⟩ = some (.string ⟨#[]⟩) := by rw [cell_of_row _ _ _ _ _ _ HSS.out]; rfl
    have s2 : V.cell? ⟨h + 1, 2, none⟩ = some (.int .i64 2) := by rw [cell_of_row _ _ _ _ _ _ HSS.out]; rfl
    refine bodyPost_ret (v := .agg #[.slice none 0 0, .string ⟨#[]⟩, .int .i64 2]) (by simp [results, Tryd.results9, go_sem, s0, s1, s2]) rfl ⟨rfl, by first | exact HBS.out | (rw [eh]; exact HBS.out)⟩
set_option maxHeartbeats 16000000 in
theorem fillR_gap (kv : Value) (a : Option Addr) (ca : Nat) (l : List Kk) (r c : ByteArray) (f t : Nat) (hf : f < 18446744073709551616) (ht : t < 18446744073709551616) (h1 : r.size = 32) (h2 : c.size = 32) (hg : ¬ (f ≤ t ∧ t ≤ f + 10)) (w : World) (hk : KAt w kv) :
    Calls Tryd.prog 9 #[kv, .slice a l.length ca, .string r, .string c, .int .u64 (f : Int), .int .u64 (t : Int)] w fun e w' => e = .returned (.agg #[.slice none 0 0, .string ⟨#[]⟩, .int .i64 8]) ∧ Below w.heap.size w w' := by
  have hKA := id hk
  obtain ⟨k0, k1, rfl, hK0, hK1⟩ := hk
  obtain ⟨g0, o0, c0, rfl, hg0, -⟩ := hK0
  obtain ⟨g1, o1, c1, rfl, hg1, -⟩ := hK1
  simp only [S8.l_length, keysL_length] at hKA ⊢
  clear hg0 hg1
  clear hKA
  have q1 : ((r.size : Int) != 32) = false := by rw [h1]; rfl
  have q2 : ((c.size : Int) != 32) = false := by rw [h2]; rfl
  by_cases hft : t < f
  · have q3 : (t : Int) < (f : Int) := by omega
    clear h1 h2 hg hf ht hft
    go_enter Tryd.func9, Tryd.ntmps9
    go_upto_region 1 with fail
    have hb0 : Below w.heap.size w ((w.alloc (.cells #[.slice (some ⟨g0, o0, none⟩) 64 c0, .slice (some ⟨g1, o1, none⟩) 8 c1] 35)).alloc (.cells #[.slice none 0 0, .string ⟨#[]⟩, .int .i64 0] 31)) := by go_grown
    have hc0 : ((w.alloc (.cells #[.slice (some ⟨g0, o0, none⟩) 64 c0, .slice (some ⟨g1, o1, none⟩) 8 c1] 35)).alloc (.cells #[.slice none 0 0, .string ⟨#[]⟩, .int .i64 0] 31)).heap[w.heap.size]? = some (.cells #[.slice (some ⟨g0, o0, none⟩) 64 c0, .slice (some ⟨g1, o1, none⟩) 8 c1] 35) := heap_alloc2_old _ _ _
    have hr0 : ((w.alloc (.cells #[.slice (some ⟨g0, o0, none⟩) 64 c0, .slice (some ⟨g1, o1, none⟩) 8 c1] 35)).alloc (.cells #[.slice none 0 0, .string ⟨#[]⟩, .int .i64 0] 31)).heap[w.heap.size + 1]? = some (.cells #[.slice none 0 0, .string ⟨#[]⟩, .int .i64 0] 31) := heap_alloc2_new _ _ _
    obtain ⟨W, hW⟩ : ∃ W, (w.alloc (.cells #[.slice (some ⟨g0, o0, none⟩) 64 c0, .slice (some ⟨g1, o1, none⟩) 8 c1] 35)).alloc (.cells #[.slice none 0 0, .string ⟨#[]⟩, .int .i64 0] 31) = W := ⟨_, rfl⟩
    rw [hW] at hb0 hc0 hr0 ⊢
    obtain ⟨h, eh⟩ : ∃ h, w.heap.size = h := ⟨_, rfl⟩
    rw [eh] at hb0 hc0 hr0 ⊢
    clear hW
    have HB0 := Lib.hid hb0; have HC0 := Lib.hid hc0; have HR0 := Lib.hid hr0
    clear hb0 hc0 hr0
    have x0 : W.cell? ⟨h + 1, 0, none⟩ = some (.slice none 0 0) := by rw [cell_of_row _ _ _ _ _ _ HR0.out]; rfl
    have x1 : W.cell? ⟨h + 1, 1, none⟩ = some (.string ⟨#[]⟩) := by rw [cell_of_row _ _ _ _ _ _ HR0.out]; rfl
    have x2 : W.cell? ⟨h + 1, 2, none⟩ = some (.int .i64 0) := by rw [cell_of_row _ _ _ _ _ _ HR0.out]; rfl
    have y0 := frozen_of_row W (h + 1) 0 _ _ HR0.out
    have y1 := frozen_of_row W (h + 1) 1 _ _ HR0.out
    have y2 := frozen_of_row W (h + 1) 2 _ _ HR0.out
    have HSS := Lib.hid (store3K HR0.out (.slice none 0 0) (.string ⟨#[]⟩) (.int .i64 8)); have HBS := Lib.hid (below3K HB0.out (Nat.le_succ h) (.slice none 0 0) (.string ⟨#[]⟩) (.int .i64 8))
    go_wp2_with fail
    clear x0 x1 x2 y0 y1 y2
    generalize World.setCell (World.setCell (World.setCell W _ _) _ _) _ _ = V at HSS HBS ⊢
    have s0 : V.cell? ⟨h + 1, 0, none⟩ = some (.slice none 0 0) := by rw [cell_of_row _ _ _ _ _ _ HSS.out]; rfl
    have s1 : V.cell? ⟨h + 1, 1, none⟩ = some (.string ⟨#[]⟩) := by rw [cell_of_row _ _ _ _ _ _ HSS.out]; rfl
    have s2 : V.cell? ⟨h + 1, 2, none⟩ = some (.int .i64 8) := by rw [cell_of_row _ _ _ _ _ _ HSS.out]; rfl
    refine bodyPost_ret (v := .agg #[.slice none 0 0, .string ⟨#[]⟩, .int .i64 8]) (by simp [results, Tryd.results9, go_sem, s0, s1, s2]) rfl ⟨rfl, by first | exact HBS.out | (rw [eh]; exact HBS.out)⟩
  · have q3 : ¬ (t : Int) < (f : Int) := by omega
    obtain ⟨m, em⟩ : ∃ m : Nat, (t : Int) - (f : Int) = (m : Int) := ⟨t - f, by omega⟩
    have q4 : IntKind.u64.wrap ((t : Int) - (f : Int)) = (m : Int) := by rw [em]; exact IntWalk.u64_in _ (by omega)
    have q5 : (10 : Int) < (m : Int) := by omega
    clear h1 h2 hg hf ht hft em
    go_enter Tryd.func9, Tryd.ntmps9
    go_upto_region 1 with fail
    have hb0 : Below w.heap.size w ((w.alloc (.cells #[.slice (some ⟨g0, o0, none⟩) 64 c0, .slice (some ⟨g1, o1, none⟩) 8 c1] 35)).alloc (.cells #[.slice none 0 0, .string ⟨#[]⟩, .int .i64 0] 31)) := by go_grown
    have hc0 : ((w.alloc (.cells #[.slice (some ⟨g0, o0, none⟩) 64 c0, .slice (some ⟨g1, o1, none⟩) 8 c1] 35)).alloc (.cells #[.slice none 0 0, .string ⟨#[]⟩, .int .i64 0] 31)).heap[w.heap.size]? = some (.cells #[.slice (some ⟨g0, o0, none⟩) 64 c0, .slice (some ⟨g1, o1, none⟩) 8 c1] 35) := heap_alloc2_old _ _ _
    have hr0 : ((w.alloc (.cells #[.slice (some ⟨g0, o0, none⟩) 64 c0, .slice (some ⟨g1, o1, none⟩) 8 c1] 35)).alloc (.cells #[.slice none 0 0, .string ⟨#[]⟩, .int .i64 0] 31)).heap[w.heap.size + 1]? = some (.cells #[.slice none 0 0, .string ⟨#[]⟩, .int .i64 0] 31) := heap_alloc2_new _ _ _
    obtain ⟨W, hW⟩ : ∃ W, (w.alloc (.cells #[.slice (some ⟨g0, o0, none⟩) 64 c0, .slice (some ⟨g1, o1, none⟩) 8 c1] 35)).alloc (.cells #[.slice none 0 0, .string ⟨#[]⟩, .int .i64 0] 31) = W := ⟨_, rfl⟩
    rw [hW] at hb0 hc0 hr0 ⊢
    obtain ⟨h, eh⟩ : ∃ h, w.heap.size = h := ⟨_, rfl⟩
    rw [eh] at hb0 hc0 hr0 ⊢
    clear hW
    have HB0 := Lib.hid hb0; have HC0 := Lib.hid hc0; have HR0 := Lib.hid hr0
    clear hb0 hc0 hr0
    have x0 : W.cell? ⟨h + 1, 0, none⟩ = some (.slice none 0 0) := by rw [cell_of_row _ _ _ _ _ _ HR0.out]; rfl
    have x1 : W.cell? ⟨h + 1, 1, none⟩ = some (.string ⟨#[]⟩) := by rw [cell_of_row _ _ _ _ _ _ HR0.out]; rfl
    have x2 : W.cell? ⟨h + 1, 2, none⟩ = some (.int .i64 0) := by rw [cell_of_row _ _ _ _ _ _ HR0.out]; rfl
    have y0 := frozen_of_row W (h + 1) 0 _ _ HR0.out
    have y1 := frozen_of_row W (h + 1) 1 _ _ HR0.out
    have y2 := frozen_of_row W (h + 1) 2 _ _ HR0.out
    have HSS := Lib.hid (store3K HR0.out (.slice none 0 0) (.string ⟨#[]⟩) (.int .i64 8)); have HBS := Lib.hid (below3K HB0.out (Nat.le_succ h) (.slice none 0 0) (.string ⟨#[]⟩) (.int .i64 8))
    go_wp2_with fail
    clear x0 x1 x2 y0 y1 y2
    generalize World.setCell (World.setCell (World.setCell W _ _) _ _) _ _ = V at HSS HBS ⊢
    have s0 : V.cell? ⟨h + 1, 0, none⟩ = some (.slice none 0 0) := by rw [cell_of_row _ _ _ _ _ _ HSS.out]; rfl
    have s1 : V.cell? ⟨h + 1, 1, none⟩ = some (.string ⟨#[]⟩) := by rw [cell_of_row _ _ _ _ _ _ HSS.out]; rfl
    have s2 : V.cell? ⟨h + 1, 2, none⟩ = some (.int .i64 8) := by rw [cell_of_row _ _ _ _ _ _ HSS.out]; rfl
    refine bodyPost_ret (v := .agg #[.slice none 0 0, .string ⟨#[]⟩, .int .i64 8]) (by simp [results, Tryd.results9, go_sem, s0, s1, s2]) rfl ⟨rfl, by first | exact HBS.out | (rw [eh]; exact HBS.out)⟩
def FreeRelK (w : World) (h : Nat) (KB RB : Obj) (l : List Kk) (r : ByteArray) (f m : Nat) (n : Value) (wr : World) : Prop :=
  ∃ i nn : Nat, i ≤ m ∧ nn = f + i ∧ n = .int .u64 (nn : Int) ∧ (∀ j, j < i → atK l r (f + j) = none) ∧ wr.heap[h]? = some KB ∧ wr.heap[h + 1]? = some RB ∧ Below h w wr
def FillRelK (w : World) (h Bo : Nat) (KB RB : Obj) (l : List Kk) (r c : ByteArray) (f m : Nat) (n : Value) (wr : World) : Prop :=
  ∃ (i nn : Nat) (a' : Option Addr) (c' : Nat), i ≤ m ∧ nn = f + i ∧ n = .int .u64 (nn : Int) ∧ wr.heap[Bo]? = some (.cells #[.slice a' (fillK l r c f i).length c', .string (runC c i), .int .i64 0] 31) ∧ (fillK l r c f i).length ≤ c' ∧ KSl wr a' (fillK l r c f i) ∧ (0 < (fillK l r c f i).length → ∀ b off : Nat, a' = some ⟨b, off, none⟩ → b < h ∨ Bo < b) ∧ wr.heap[h]? = some KB ∧ wr.heap[h + 1]? = some RB ∧ Below h w wr
theorem OwnK.kslB {w : World} {base : Nat} {v : Value} {l : List Kk} (h : OwnK w base v l) : ∃ (a : Option Addr) (c : Nat), v = .slice a l.length c ∧ l.length ≤ c ∧ KSl w a l ∧ (∀ b off : Nat, a = some ⟨b, off, none⟩ → base ≤ b) := by
  obtain ⟨a, c, e, hc, hk⟩ := h.ksl
  refine ⟨a, c, e, hc, hk, fun b off ha => ?_⟩
  subst ha
  exact (World.ownsRow.lt h b (by rw [e]; rfl)).1
set_option maxHeartbeats 16000000 in
theorem fillR_loop (kv : Value) (a : Option Addr) (ca : Nat) (l : List Kk) (r c : ByteArray) (f t : Nat) (hl : l.length ≤ 22) (hla : l.length ≤ ca) (ht : t < 18446744073709551616) (h1 : r.size = 32) (h2 : c.size = 32) (hft : f ≤ t) (hg : t ≤ f + 10) (w : World) (hk : KAt w kv) (hp : KSl w a l) :
    Calls Tryd.prog 9 #[kv, .slice a l.length ca, .string r, .string c, .int .u64 (f : Int), .int .u64 (t : Int)] w fun e w' => ∃ (a' : Option Addr) (c' : Nat), e = .returned (.agg #[.slice a' (fillT l r c f t).length c', .string (fillC l r c f t), .int .i64 (fillX l r c f t)]) ∧ (fillT l r c f t).length ≤ c' ∧ KSl w' a' (fillT l r c f t) ∧ Below w.heap.size w w' := by
  have hKA := id hk
  obtain ⟨k0, k1, rfl, hK0, hK1⟩ := hk
  obtain ⟨g0, o0, c0, rfl, hg0, -⟩ := hK0
  obtain ⟨g1, o1, c1, rfl, hg1, -⟩ := hK1
  simp only [S8.l_length, keysL_length] at hKA ⊢
  clear hg0 hg1
  have HKA := Lib.hid hKA
  obtain ⟨kk, ekk⟩ : ∃ kk, Value.agg #[.slice (some ⟨g0, o0, none⟩) 64 c0, .slice (some ⟨g1, o1, none⟩) 8 c1] = kk := ⟨_, rfl⟩
  have HEK := Lib.hid ekk
  obtain ⟨m, em⟩ : ∃ m : Nat, t = f + m := ⟨t - f, by omega⟩
  have htm : t - f = m := by omega
  have q1 : ((r.size : Int) != 32) = false := by rw [h1]; rfl
  have q2 : ((c.size : Int) != 32) = false := by rw [h2]; rfl
  have q3 : ¬ (t : Int) < (f : Int) := by omega
  have q4 : IntKind.u64.wrap ((t : Int) - (f : Int)) = (m : Int) := by rw [show (t : Int) - (f : Int) = (m : Int) by omega]; exact IntWalk.u64_in _ (by omega)
  have q5 : ¬ (10 : Int) < (m : Int) := by omega
  have hold := fun (h3 : ¬ freeK l r f (t - f)) => fill_old (l := l) (f := f) (t := t) ⟨h1, h2⟩ ⟨hft, hg⟩ h3
  have hgood := fun (h3 : freeK l r f (t - f)) => fill_good (l := l) (f := f) (t := t) ⟨h1, h2⟩ ⟨hft, hg⟩ h3
  rw [htm] at hold hgood
  have HP := Lib.hid hp; have HN := Lib.hid (And.intro hl (And.intro hla (And.intro em (And.intro ht h2)))); have HOLD := Lib.hid hold; have HGOOD := Lib.hid hgood
  clear hKA hp hl hla ht hft hg em htm h1 h2 hold hgood ekk
  go_enter Tryd.func9, Tryd.ntmps9
  go_upto_region 1 with fail
  have hb0 : Below w.heap.size w ((w.alloc (.cells #[.slice (some ⟨g0, o0, none⟩) 64 c0, .slice (some ⟨g1, o1, none⟩) 8 c1] 35)).alloc (.cells #[.slice none 0 0, .string ⟨#[]⟩, .int .i64 0] 31)) := by go_grown
  have hc0 : ((w.alloc (.cells #[.slice (some ⟨g0, o0, none⟩) 64 c0, .slice (some ⟨g1, o1, none⟩) 8 c1] 35)).alloc (.cells #[.slice none 0 0, .string ⟨#[]⟩, .int .i64 0] 31)).heap[w.heap.size]? = some (.cells #[.slice (some ⟨g0, o0, none⟩) 64 c0, .slice (some ⟨g1, o1, none⟩) 8 c1] 35) := heap_alloc2_old _ _ _
  have hr0 : ((w.alloc (.cells #[.slice (some ⟨g0, o0, none⟩) 64 c0, .slice (some ⟨g1, o1, none⟩) 8 c1] 35)).alloc (.cells #[.slice none 0 0, .string ⟨#[]⟩, .int .i64 0] 31)).heap[w.heap.size + 1]? = some (.cells #[.slice none 0 0, .string ⟨#[]⟩, .int .i64 0] 31) := heap_alloc2_new _ _ _
  obtain ⟨W, hW⟩ : ∃ W, (w.alloc (.cells #[.slice (some ⟨g0, o0, none⟩) 64 c0, .slice (some ⟨g1, o1, none⟩) 8 c1] 35)).alloc (.cells #[.slice none 0 0, .string ⟨#[]⟩, .int .i64 0] 31) = W := ⟨_, rfl⟩
  rw [hW] at hb0 hc0 hr0 ⊢
  obtain ⟨h, eh⟩ : ∃ h, w.heap.size = h := ⟨_, rfl⟩
  rw [eh] at hb0 hc0 hr0 ⊢
  clear hW
  have HB0 := Lib.hid hb0; have HC0 := Lib.hid hc0; have HR0 := Lib.hid hr0
  clear hb0 hc0 hr0
  go_wp2_with fail
  clear q1 q2 q3 q4 q5
  go_loopw [13] (fun n wr => FreeRelK w h (.cells #[.slice (some ⟨g0, o0, none⟩) 64 c0, .slice (some ⟨g1, o1, none⟩) 8 c1] 35) (.cells #[.slice none 0 0, .string ⟨#[]⟩, .int .i64 0] 31) l r f m n wr) (fun n _ => t - (intOf n).toNat)
  case atStart => exact ⟨0, f, Nat.zero_le _, rfl, rfl, fun j hj => absurd hj (Nat.not_lt_zero j), HC0.out, HR0.out, HB0.out⟩
  case round =>
    obtain ⟨i, nn, hi, hnn, rfl, hfree, hKB, hRB, hB⟩ := hrel
    by_cases hlt : i < m
    · have hnt : nn < t := by have := HN.out.2.2.1; omega
      have h1 : (nn : Int) < (t : Int) := by omega
      have hq : IntKind.u64.wrap ((nn : Int) + 1) = ((nn + 1 : Nat) : Int) := by
        have := HN.out.2.2.2.1
        rw [IntWalk.u64_in _ (by omega)]; omega
      have hA := atR_any a ca l r nn (by have := HN.out.1; omega) wr (HP.out.on (by rw [eh]; exact hB))
      have hlb : h < wr.heap.size := (Array.getElem?_eq_some_iff.1 hKB).1
      have hlr : h + 1 < wr.heap.size := (Array.getElem?_eq_some_iff.1 hRB).1
      have HF := Lib.hid (And.intro hnn hfree); have HKB := Lib.hid (And.intro hKB hlb); have HRB := Lib.hid (And.intro hRB hlr); have HBB := Lib.hid hB
      clear hKB hRB hB hfree hnn hlb hlr
      cases hat : atK l r nn with
      | none =>
        rw [show atI l r nn = -1 by unfold atI; rw [hat]] at hA
        have HAT := Lib.hid hat; have HA := Lib.hid hA
        clear hat hA
        go_wp2_with fail
        refine HA.out.mono ?_
        rintro e w2 ⟨rfl, hb⟩
        have HF2 := Lib.hid (And.intro ((hb.block h HKB.out.2).trans HKB.out.1) (And.intro ((hb.block (h + 1) HRB.out.2).trans HRB.out.1) (HBB.out.trans (hb.mono (by have := HKB.out.2; omega)))))
        clear hb HA HKB HRB HBB
        go_wp2_with fail
        refine ⟨⟨i + 1, nn + 1, by omega, by have := HF.out.1; omega, by simp, fun j hj => ?_, HF2.out.1, HF2.out.2.1, HF2.out.2.2⟩, by simp [intOf]; omega⟩
        by_cases e : j = i
        · subst e; rw [← HF.out.1]; exact HAT.out
        · exact HF.out.2 j (by omega)
      | some j =>
        rw [show atI l r nn = (j : Int) by unfold atI; rw [hat]] at hA
        have hj0 : (0 : Int) ≤ (j : Int) := by omega
        have HX := Lib.hid (HOLD.out fun h3 => by have := h3 i hlt; rw [← HF.out.1, hat] at this; cases this)
        have HA := Lib.hid hA
        clear hat hA HOLD HGOOD HF
        go_wp2_with fail
        refine HA.out.mono ?_
        rintro e w2 ⟨rfl, hb⟩
        have HRR := Lib.hid ((hb.block (h + 1) HRB.out.2).trans HRB.out.1); have HB2 := Lib.hid (HBB.out.trans (hb.mono (by have := HKB.out.2; omega)))
        clear hb HA HKB HRB HBB
        have x0 : w2.cell? ⟨h + 1, 0, none⟩ = some (.slice none 0 0) := by rw [cell_of_row _ _ _ _ _ _ HRR.out]; rfl
        have x1 : w2.cell? ⟨h + 1, 1, none⟩ = some (.string ⟨#[]⟩) := by rw [cell_of_row _ _ _ _ _ _ HRR.out]; rfl
        have x2 : w2.cell? ⟨h + 1, 2, none⟩ = some (.int .i64 0) := by rw [cell_of_row _ _ _ _ _ _ HRR.out]; rfl
        have y0 := frozen_of_row w2 (h + 1) 0 _ _ HRR.out
        have y1 := frozen_of_row w2 (h + 1) 1 _ _ HRR.out
        have y2 := frozen_of_row w2 (h + 1) 2 _ _ HRR.out
        have HSS := Lib.hid (store3K HRR.out (.slice none 0 0) (.string ⟨#[]⟩) (.int .i64 7)); have HBS := Lib.hid (below3K HB2.out (Nat.le_succ h) (.slice none 0 0) (.string ⟨#[]⟩) (.int .i64 7))
        go_wp2_with fail
        clear x0 x1 x2 y0 y1 y2
        generalize World.setCell (World.setCell (World.setCell w2 _ _) _ _) _ _ = V at HSS HBS ⊢
        have s0 : V.cell? ⟨h + 1, 0, none⟩ = some (.slice none 0 0) := by rw [cell_of_row _ _ _ _ _ _ HSS.out]; rfl
        have s1 : V.cell? ⟨h + 1, 1, none⟩ = some (.string ⟨#[]⟩) := by rw [cell_of_row _ _ _ _ _ _ HSS.out]; rfl
        have s2 : V.cell? ⟨h + 1, 2, none⟩ = some (.int .i64 7) := by rw [cell_of_row _ _ _ _ _ _ HSS.out]; rfl
        refine bodyPost_ret (v := .agg #[.slice none 0 0, .string ⟨#[]⟩, .int .i64 7]) (by simp [results, Tryd.results9, go_sem, s0, s1, s2]) rfl ⟨none, 0, ?_, ?_, ?_, by first | exact HBS.out | (rw [eh]; exact HBS.out)⟩
        · rw [HX.out.1, HX.out.2.1, HX.out.2.2]; rfl
        · rw [HX.out.2.1]; exact Nat.le_refl _
        · rw [HX.out.2.1]; exact KSl.nil _ _
    · obtain rfl : i = m := by omega
      have hnt : nn = t := by have := HN.out.2.2.1; omega
      have h1 : ¬ (nn : Int) < (t : Int) := by omega
      have HX := Lib.hid (HGOOD.out hfree)
      have hal : Below h w (wr.alloc (.cells #[.slice a l.length ca, .string c, .int .i64 0] 31)) := hB.alloc (by have := (Array.getElem?_eq_some_iff.1 hKB).1; omega) _
      have hKB2 := (heap_alloc_old wr (.cells #[.slice a l.length ca, .string c, .int .i64 0] 31) (Array.getElem?_eq_some_iff.1 hKB).1).trans hKB
      have hRB2 := (heap_alloc_old wr (.cells #[.slice a l.length ca, .string c, .int .i64 0] 31) (Array.getElem?_eq_some_iff.1 hRB).1).trans hRB
      have hOB := heap_alloc_new wr (.cells #[.slice a l.length ca, .string c, .int .i64 0] 31)
      have hlr : h + 1 < wr.heap.size := (Array.getElem?_eq_some_iff.1 hRB).1
      obtain ⟨Bo, eBo⟩ : ∃ Bo, wr.heap.size = Bo := ⟨_, rfl⟩
      rw [eBo] at hOB hlr
      have hlr2 := hlr
      have HLR := Lib.hid hlr2
      have HAL := Lib.hid (And.intro hal (And.intro hKB2 (And.intro hRB2 hOB)))
      clear hKB hRB hB hfree hnn hal hKB2 hRB2 hOB hlr hlr2 HOLD HGOOD
      subst hnt
      go_upto_region 12 with fail
      clear h1
      obtain ⟨W1, eW1⟩ : ∃ W1, wr.alloc (.cells #[.slice a l.length ca, .string c, .int .i64 0] 31) = W1 := ⟨_, rfl⟩
      rw [eW1] at HAL ⊢
      clear eW1 eBo
      go_loopw [15] (fun n wr => FillRelK w h Bo (.cells #[.slice (some ⟨g0, o0, none⟩) 64 c0, .slice (some ⟨g1, o1, none⟩) 8 c1] 35) (.cells #[.slice none 0 0, .string ⟨#[]⟩, .int .i64 0] 31) l r c f i n wr) (fun n _ => nn - (intOf n).toNat)
      case atStart =>
        refine ⟨0, f, a, ca, Nat.zero_le _, rfl, rfl, HAL.out.2.2.2, HN.out.2.1, HP.out.on (by rw [eh]; exact HAL.out.1), fun h0 b off ha => ?_, HAL.out.2.1, HAL.out.2.2.1, HAL.out.1⟩
        obtain ⟨b', off', e, hlt', -⟩ := HP.out h0
        rw [ha] at e
        cases e
        left; rw [← eh]; exact hlt'
      case round =>
        obtain ⟨j, n2, a', c', hj, hn2, rfl, hOB, hlc, hks, hfar, hKB, hRB, hB⟩ := hrel
        by_cases hlt2 : j < i
        · have hnt2 : n2 < nn := by have := HN.out.2.2.1; omega
          have h1 : (n2 : Int) < (nn : Int) := by omega
          have hq : IntKind.u64.wrap ((n2 : Int) + 1) = ((n2 + 1 : Nat) : Int) := by
            have := HN.out.2.2.2.1
            rw [IntWalk.u64_in _ (by omega)]; omega
          have hcs := runC_sizeK c HN.out.2.2.2.2 j
          have hst := fun (W : World) (hA : KAt W kk) => refstepC_any kk (runC c j) (by omega) W hA
          have hfl := fillK_length l r c f j HN.out.1
          have hput := fun (a : Option Addr) (k : Nat) (x : Kk) (W : World) => putR_any a k (fillK l r c f j) x (by omega) W
          have es : fillK l r c f (j + 1) = putK (fillK l r c f j) ⟨r, n2, spB (runC c j) stWord⟩ := by rw [hn2]; rfl
          have er : runC c (j + 1) = spA (runC c j) stWord := rfl
          obtain ⟨L, eL⟩ : ∃ L, fillK l r c f j = L := ⟨_, rfl⟩
          obtain ⟨C, eC⟩ : ∃ C, runC c j = C := ⟨_, rfl⟩
          rw [eL] at hOB hlc hks hfar es
          rw [eC] at hOB es er
          simp only [eL, eC] at hst hput
          obtain ⟨A, eA⟩ : ∃ A, spA C stWord = A := ⟨_, rfl⟩
          obtain ⟨D, eD⟩ : ∃ D, spB C stWord = D := ⟨_, rfl⟩
          rw [eD] at es
          rw [eA] at er
          simp only [eA, eD] at hst
          have hlb : h < wr.heap.size := (Array.getElem?_eq_some_iff.1 hKB).1
          have hlr : h + 1 < wr.heap.size := (Array.getElem?_eq_some_iff.1 hRB).1
          have hlo : Bo < wr.heap.size := (Array.getElem?_eq_some_iff.1 hOB).1
          have d0 : wr.cell? ⟨h, 0, none⟩ = some (.slice (some ⟨g0, o0, none⟩) 64 c0) := by rw [cell_of_row _ _ _ _ _ _ hKB]; rfl
          have d1 : wr.cell? ⟨h, 1, none⟩ = some (.slice (some ⟨g1, o1, none⟩) 8 c1) := by rw [cell_of_row _ _ _ _ _ _ hKB]; rfl
          have d3 : wr.cell? ⟨Bo, 1, none⟩ = some (.string C) := by rw [cell_of_row _ _ _ _ _ _ hOB]; rfl
          have hST := Lib.hid (hst wr (by rw [← HEK.out]; exact HKA.out.on (by rw [eh]; exact hB)))
          rw [← HEK.out] at hST
          have HES := Lib.hid (And.intro es (And.intro er hn2)); have HPUT := Lib.hid hput; have HB := Lib.hid hB; have HLB := Lib.hid (And.intro hlb (And.intro hlr hlo)); have HKB := Lib.hid hKB; have HRB := Lib.hid hRB; have HOB := Lib.hid hOB; have HKS := Lib.hid (And.intro hks hlc); have HLF := Lib.hid (And.intro hfl hfar)
          clear es er hst hput hB hlb hlr hlo hKB hRB hOB hks hlc hfar hcs hfl eL eC eA eD hn2 hnt2
          go_wp2_with fail
          refine hST.out.mono ?_
          rintro e w2 ⟨rfl, hb⟩
          clear d0 d1 d3 hST
          have hal : Below w2.heap.size w2 (w2.alloc (.cells #[.string A, .string D] 55)) := (Below.refl _ _).alloc (Nat.le_refl _) _
          have hP := heap_alloc_new w2 (.cells #[.string A, .string D] 55)
          have hb2 := hb.trans (hal.mono hb.size)
          have hs2 := hb.size
          obtain ⟨Pb, ePb⟩ : ∃ Pb, w2.heap.size = Pb := ⟨_, rfl⟩
          rw [ePb] at hP
          have hPo : Bo < Pb := by have := HLB.out.2.2; omega
          go_upto_region 15 with fail
          obtain ⟨W2, eW2⟩ : ∃ W2, w2.alloc (.cells #[.string A, .string D] 55) = W2 := ⟨_, rfl⟩
          rw [eW2] at hb2 hP ⊢
          have hPW : Pb < W2.heap.size := (Array.getElem?_eq_some_iff.1 hP).1
          have hOB2 := (hb2.block Bo HLB.out.2.2).trans HOB.out
          have hKB2 := (hb2.block h HLB.out.1).trans HKB.out
          have hRB2 := (hb2.block (h + 1) HLB.out.2.1).trans HRB.out
          have hB2 := HB.out.trans (hb2.mono (by have := HLB.out.1; omega))
          have hput2 := HPUT.out a' c' ⟨r, n2, D⟩ W2 (HKS.out.1.on hb2)
          unfold kkv at hput2
          have x0 : W2.cell? ⟨Bo, 0, none⟩ = some (.slice a' L.length c') := by rw [cell_of_row _ _ _ _ _ _ hOB2]; rfl
          have p1 : W2.cell? ⟨Pb, 1, none⟩ = some (.string D) := by rw [cell_of_row _ _ _ _ _ _ hP]; rfl
          have hs3 : wr.heap.size ≤ W2.heap.size := hb2.size
          have HPU := Lib.hid hput2; have HP2 := Lib.hid (And.intro hP hPW); have HO2 := Lib.hid hOB2; have HK2 := Lib.hid hKB2; have HR2 := Lib.hid hRB2; have HB2 := Lib.hid hB2; have HSZ := Lib.hid (And.intro hPo hs3)
          clear hput2 hP hPW hOB2 hKB2 hRB2 hB2 hPo hs2 hs3 hb hal hb2 eW2 ePb HKB HRB HOB HPUT HKS HB
          go_wp2_with fail
          refine HPU.out.mono ?_
          rintro e w3 ⟨v, rfl, hO, hb3⟩
          obtain ⟨a5, c5, rfl, hl5, hk5, hg5⟩ := hO.kslB
          have hO3 := (hb3.block Bo (by have := HLB.out.2.2; have := HSZ.out.2; omega)).trans HO2.out
          have hK3 := (hb3.block h (by have := HLB.out.1; have := HSZ.out.2; omega)).trans HK2.out
          have hR3 := (hb3.block (h + 1) (by have := HLB.out.2.1; have := HSZ.out.2; omega)).trans HR2.out
          have hP3 := (hb3.block Pb HP2.out.2).trans HP2.out.1
          have hB3 := HB2.out.trans (hb3.mono (by have := HLB.out.1; have := HSZ.out.2; omega))
          have z0 : w3.cell? ⟨Bo, 0, none⟩ = some (.slice a' L.length c') := by rw [cell_of_row _ _ _ _ _ _ hO3]; rfl
          have f0 := frozen_of_row w3 Bo 0 _ _ hO3
          obtain ⟨w4, e4⟩ : ∃ w4, w3.setCell ⟨Bo, 0, none⟩ (.slice a5 (putK L ⟨r, n2, D⟩).length c5) = w4 := ⟨_, rfl⟩
          have hne : Pb ≠ Bo := by have := HSZ.out.1; omega
          have hnh : h ≠ Bo := by have := HLR.out; omega
          have hnr : h + 1 ≠ Bo := by have := HLR.out; omega
          have hO4 := store3K_fst hO3 (.slice a5 (putK L ⟨r, n2, D⟩).length c5)
          have hP4 := (set_otherB w3 Bo 0 Pb (.slice a5 (putK L ⟨r, n2, D⟩).length c5) hne).trans hP3
          have hK4 := (set_otherB w3 Bo 0 h (.slice a5 (putK L ⟨r, n2, D⟩).length c5) hnh).trans hK3
          have hR4 := (set_otherB w3 Bo 0 (h + 1) (.slice a5 (putK L ⟨r, n2, D⟩).length c5) hnr).trans hR3
          have hB4 := hB3.setCell (p := ⟨Bo, 0, none⟩) (by show h ≤ Bo; have := HLR.out; omega) (.slice a5 (putK L ⟨r, n2, D⟩).length c5)
          have hk4 := hk5.far Bo 0 (.slice a5 (putK L ⟨r, n2, D⟩).length c5) (fun _ b off e => by have := hg5 b off e; have := HLB.out.2.2; have := HSZ.out.2; omega)
          rw [e4] at hO4 hP4 hK4 hR4 hB4 hk4
          have p0 : w4.cell? ⟨Pb, 0, none⟩ = some (.string A) := by rw [cell_of_row _ _ _ _ _ _ hP4]; rfl
          have z1 : w4.cell? ⟨Bo, 1, none⟩ = some (.string C) := by rw [cell_of_row _ _ _ _ _ _ hO4]; rfl
          have f1 := frozen_of_row w4 Bo 1 _ _ hO4
          obtain ⟨w5, e5⟩ : ∃ w5, w4.setCell ⟨Bo, 1, none⟩ (.string A) = w5 := ⟨_, rfl⟩
          have hO5 := store3K_snd hO4 (.string A)
          have hK5 := (set_otherB w4 Bo 1 h (.string A) hnh).trans hK4
          have hR5 := (set_otherB w4 Bo 1 (h + 1) (.string A) hnr).trans hR4
          have hB5 := hB4.setCell (p := ⟨Bo, 1, none⟩) (by show h ≤ Bo; have := HLR.out; omega) (.string A)
          have hk6 := hk4.far Bo 1 (.string A) (fun _ b off e => by have := hg5 b off e; have := HLB.out.2.2; have := HSZ.out.2; omega)
          rw [e5] at hO5 hK5 hR5 hB5 hk6
          have hfar5 : 0 < (putK L ⟨r, n2, D⟩).length → ∀ b off : Nat, a5 = some ⟨b, off, none⟩ → b < h ∨ Bo < b := fun _ b off e => by
            right; have := hg5 b off e; have := HLB.out.2.2; have := HSZ.out.2; omega
          have HE := Lib.hid (And.intro hO5 (And.intro hK5 (And.intro hR5 (And.intro hB5 (And.intro hk6 (And.intro hl5 hfar5))))))
          clear hO5 hK5 hR5 hB5 hk6 hl5 hfar5 hO4 hP4 hK4 hR4 hB4 hk4 hO3 hK3 hR3 hP3 hB3 hO hb3 hk5 hg5 HPU HP2 HO2 HK2 HR2 HB2 hne hnh hnr x0 p1
          go_wp2_with fail
          refine ⟨⟨j + 1, n2 + 1, a5, c5, by omega, by have := HES.out.2.2; omega, by simp, ?_, ?_, ?_, ?_, HE.out.2.1, HE.out.2.2.1, HE.out.2.2.2.1⟩, by simp [intOf]; omega⟩
          · rw [HES.out.1, HES.out.2.1]; exact HE.out.1
          · rw [HES.out.1]; exact HE.out.2.2.2.2.2.1
          · rw [HES.out.1]; exact HE.out.2.2.2.2.1
          · rw [HES.out.1]; exact HE.out.2.2.2.2.2.2
        · obtain rfl : j = i := by omega
          have hnt2 : n2 = nn := by have := HN.out.2.2.1; omega
          have h1 : ¬ (n2 : Int) < (nn : Int) := by omega
          obtain ⟨hX1, hX2, hX3⟩ := HX.out
          obtain ⟨L, eL⟩ : ∃ L, fillK l r c f j = L := ⟨_, rfl⟩
          obtain ⟨C, eC⟩ : ∃ C, runC c j = C := ⟨_, rfl⟩
          rw [eL] at hOB hlc hks hfar hX2
          rw [eC] at hOB hX3
          have z0 : wr.cell? ⟨Bo, 0, none⟩ = some (.slice a' L.length c') := by rw [cell_of_row _ _ _ _ _ _ hOB]; rfl
          have z1 : wr.cell? ⟨Bo, 1, none⟩ = some (.string C) := by rw [cell_of_row _ _ _ _ _ _ hOB]; rfl
          have z2 : wr.cell? ⟨Bo, 2, none⟩ = some (.int .i64 0) := by rw [cell_of_row _ _ _ _ _ _ hOB]; rfl
          have x0 : wr.cell? ⟨h + 1, 0, none⟩ = some (.slice none 0 0) := by rw [cell_of_row _ _ _ _ _ _ hRB]; rfl
          have x1 : wr.cell? ⟨h + 1, 1, none⟩ = some (.string ⟨#[]⟩) := by rw [cell_of_row _ _ _ _ _ _ hRB]; rfl
          have x2 : wr.cell? ⟨h + 1, 2, none⟩ = some (.int .i64 0) := by rw [cell_of_row _ _ _ _ _ _ hRB]; rfl
          have y0 := frozen_of_row wr (h + 1) 0 _ _ hRB
          have y1 := frozen_of_row wr (h + 1) 1 _ _ hRB
          have y2 := frozen_of_row wr (h + 1) 2 _ _ hRB
          have hne : 0 < L.length → ∀ b off : Nat, a' = some ⟨b, off, none⟩ → b ≠ h + 1 := fun h0 b off e => by have := hfar h0 b off e; have := HLR.out; omega
          have HSS := Lib.hid (store3K hRB (.slice a' L.length c') (.string C) (.int .i64 0)); have HBS := Lib.hid (below3K hB (Nat.le_succ h) (.slice a' L.length c') (.string C) (.int .i64 0))
          have HKS := Lib.hid (((hks.far (h + 1) 0 (.slice a' L.length c') hne).far (h + 1) 1 (.string C) hne).far (h + 1) 2 (.int .i64 0) hne)
          have HXX := Lib.hid (And.intro hX1 (And.intro hX2 (And.intro hX3 hlc)))
          clear hX1 hX2 hX3 eL eC hOB hRB hKB hB hks hfar hne hn2 hnt2 hlc HX
          go_wp2_with fail
          clear x0 x1 x2 y0 y1 y2 z0 z1 z2
          generalize World.setCell (World.setCell (World.setCell wr _ _) _ _) _ _ = V at HSS HBS HKS ⊢
          have s0 : V.cell? ⟨h + 1, 0, none⟩ = some (.slice a' L.length c') := by rw [cell_of_row _ _ _ _ _ _ HSS.out]; rfl
          have s1 : V.cell? ⟨h + 1, 1, none⟩ = some (.string C) := by rw [cell_of_row _ _ _ _ _ _ HSS.out]; rfl
          have s2 : V.cell? ⟨h + 1, 2, none⟩ = some (.int .i64 0) := by rw [cell_of_row _ _ _ _ _ _ HSS.out]; rfl
          refine bodyPost_ret (v := .agg #[.slice a' L.length c', .string C, .int .i64 0]) (by simp [results, Tryd.results9, go_sem, s0, s1, s2]) rfl ⟨a', c', ?_, ?_, ?_, by first | exact HBS.out | (rw [eh]; exact HBS.out)⟩
          · rw [HXX.out.1, HXX.out.2.1, HXX.out.2.2.1]
          · rw [HXX.out.2.1]; exact HXX.out.2.2.2
          · rw [HXX.out.2.1]; exact HKS.out
theorem fillR_any (kv : Value) (a : Option Addr) (ca : Nat) (l : List Kk) (r c : ByteArray) (f t : Nat) (hl : l.length ≤ 22) (hla : l.length ≤ ca) (hf : f < 18446744073709551616) (ht : t < 18446744073709551616) (w : World) (hk : KAt w kv) (hp : KSl w a l) :
    Calls Tryd.prog 9 #[kv, .slice a l.length ca, .string r, .string c, .int .u64 (f : Int), .int .u64 (t : Int)] w fun e w' => ∃ (a' : Option Addr) (c' : Nat), e = .returned (.agg #[.slice a' (fillT l r c f t).length c', .string (fillC l r c f t), .int .i64 (fillX l r c f t)]) ∧ (fillT l r c f t).length ≤ c' ∧ KSl w' a' (fillT l r c f t) ∧ Below w.heap.size w w' := by
  by_cases hs : r.size = 32 ∧ c.size = 32
  · by_cases hg : f ≤ t ∧ t ≤ f + 10
    · exact fillR_loop kv a ca l r c f t hl hla ht hs.1 hs.2 hg.1 hg.2 w hk hp
    · obtain ⟨h1, h2, h3⟩ := fill_gap (l := l) (f := f) (t := t) hs hg
      rw [h1, h2, h3]
      exact (fillR_gap kv a ca l r c f t hf ht hs.1 hs.2 hg w hk).mono fun _ _ ⟨e1, e2⟩ => ⟨none, 0, e1, Nat.le_refl _, KSl.nil _ _, e2⟩
  · obtain ⟨h1, h2, h3⟩ := fill_size (l := l) (f := f) (t := t) hs
    rw [h1, h2, h3]
    exact (fillR_size kv a ca l r c f t hs w hk).mono fun _ _ ⟨e1, e2⟩ => ⟨none, 0, e1, Nat.le_refl _, KSl.nil _ _, e2⟩
end Go.Proofs.YtfkfadcfafbmmaaDoor