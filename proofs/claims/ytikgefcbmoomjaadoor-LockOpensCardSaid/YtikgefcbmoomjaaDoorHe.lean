/- The contract of stream's begin: the words that a key and a nonce begin with. -/
import Derived.Test.YtikgefcbmoomjaaDoorHd
namespace Go.Proofs.YtikgefcbmoomjaaDoor
open Go.RowKit
set_option maxRecDepth 100000
def base4 : List (BitVec 32) := [1634760805, 857760878, 2036477234, 1797285236, 0, 0, 0, 0, 0, 0, 0, 0, 0, 0, 0, 0]
theorem begin_words (k nc : List UInt8) : putW (putW base4 4 k 8) 13 nc 3 = firstC k 0 nc := by rfl
set_option maxHeartbeats 400000 in
theorem sBegin_any (k nc : ByteArray) (hk : k.size = 32) (hn : nc.size = 12) (w : World) :
    Calls Tryd.prog 53 #[.string k, .string nc] w fun e w' => e = .returned (.agg (Wd (firstC (bl k) 0 (bl nc))).toArray) ∧ Below w.heap.size w w' := by
  go_enter Tryd.func53, Tryd.ntmps53
  go_upto_region 1 with fail
  have hR0 : BlkW (w.alloc (.cells (Wd (List.replicate 16 0)).toArray 86)) w.heap.size 86 (List.replicate 16 0) := BlkW.fresh _ _ _ _ rfl _ rfl
  have hB0 : Below w.heap.size w (w.alloc (.cells (Wd (List.replicate 16 0)).toArray 86)) := by go_grown
  have hs0 : (w.alloc (.cells (Wd (List.replicate 16 0)).toArray 86)).heap.size = w.heap.size + 1 := by simp
  change Code.wp Tryd.prog _ _ _ (w.alloc (.cells (Wd (List.replicate 16 0)).toArray 86))
  generalize World.alloc w _ = W0 at hR0 hB0 hs0 ⊢
  have HR := Lib.hid hR0
  clear hR0
  go_wp2_with fail
  have hw1 : BlkW (W0.alloc (.cells (Wd base4).toArray 86)) (w.heap.size + 1) 86 base4 := BlkW.fresh _ _ _ _ rfl _ hs0.symm
  refine (sRead_any (w.heap.size + 1) base4 4 8 k (by rfl) (by omega) (by omega) _ hw1).mono ?_
  rintro e w1 ⟨rfl, hw2, hb2⟩
  have hB1 : Below (w.heap.size + 1) W0 w1 := ((Below.refl _ _).alloc (by omega) _).trans hb2
  have HW := Lib.hid hw2
  clear hw1 hw2 hb2
  go_wp2_with fail
  refine (sRead_any (w.heap.size + 1) (putW base4 4 (bl k) 8) 13 3 nc (by rw [putW_length]; rfl) (by omega) (by omega) _ HW.out).mono ?_
  rintro e w2 ⟨rfl, hw2, hb2⟩
  rw [begin_words] at hw2
  have hB2 := hB1.trans hb2
  have hR := HR.out.below hB2 (by omega)
  have hB3 := hB0.trans (hB2.mono (by omega))
  have HR2 := Lib.hid hR
  have HW2 := Lib.hid hw2
  have HB3 := Lib.hid hB3
  clear hB0 hB1 hb2 hB2 hR hw2 hB3 HR HW
  go_upto_region 4 with fail
  refine wp_region_lit ?_
  refine load_blk rfl _ _ rfl (w.heap.size + 1) rfl HW2.out Tryd.underlying86 rfl (by rw [firstC_length]; kernel_rfl) ?_
  refine store_blk rfl rfl _ _ _ rfl w.heap.size rfl (l' := firstC (bl k) 0 (bl nc)) rfl HR2.out (by rw [firstC_length]; rfl) (by rw [List.length_replicate]; kernel_rfl) ?_
  refine wpList_nil ?_
  have hF := HR2.out.stored (firstC (bl k) 0 (bl nc)) (by rw [firstC_length]; rfl)
  have hBF := below_setCells (Nat.le_refl w.heap.size) (Wd (firstC (bl k) 0 (bl nc))) 0 _ HB3.out
  generalize World.setCells w2 _ _ _ = W at hF hBF ⊢
  rename_i K hK
  refine hK _ _ ?_
  refine wp_ret ?_
  refine bodyPost_ret (results_blk (p := 4) (T := 86) (by kernel_rfl) _ _ w.heap.size rfl hF Tryd.underlying86 rfl (by rw [firstC_length]; kernel_rfl)) rfl ⟨rfl, hBF⟩
end Go.Proofs.YtikgefcbmoomjaaDoor