/- The contracts of the law's cut and alive, for stream. -/
import Derived.Test.YtchnjjkgaaiclaaHi
namespace Go.Proofs.Ytchnjjkgaaiclaa
open Go.RowKit
set_option maxRecDepth 100000

set_option maxHeartbeats 400000 in
theorem cut5_any (x : ByteArray) (hx : x.size ≤ maxLen) (w : World) :
    Calls Try.prog 6 #[.string x] w fun e w' => e = .returned (.string (cutS x 40)) ∧ w = w' := by
  unfold maxLen at hx
  have hc := cut_min x 40
  have HC := Lib.hid hc
  clear hc
  go_enter Try.func6, Try.ntmps6
  go_wp2
  go_ret
  exact ⟨congrArg (fun z => Ending.returned (.string z)) HC.out, rfl⟩
def key0 : ByteArray := ⟨#[48, 49, 50, 51, 52, 53, 54, 55, 56, 57, 97, 98, 99, 100, 101, 102, 48, 49, 50, 51, 52, 53, 54, 55, 56, 57, 97, 98, 99, 100, 101, 102]⟩
def nonce0 : ByteArray := ⟨#[48, 49, 50, 51, 52, 53, 54, 55, 56, 57, 97, 98]⟩
set_option maxHeartbeats 400000 in
theorem alive5_any (w : World) :
    Calls Try.prog 10 #[] w fun e w' => e = .returned (.bool true) ∧ Below w.heap.size w w' := by
  have hb := Block_any key0 1 nonce0 (by decide) (by decide) w
  obtain ⟨s, hs⟩ : ∃ s, strL (blockC (bl key0) 1 (bl nonce0)) = s := ⟨_, rfl⟩
  have hsz : s.size = 64 := by rw [← hs, strL_size, blockC_length]
  rw [hs] at hb
  unfold key0 nonce0 at hb
  have hq := fun W => quarter_any 0x11111111 0x01020304 0x9b8d6f43 0x01234567 W
  rw [quarter_example] at hq
  have HB := Lib.hid hb; have HQ := Lib.hid hq
  have z : (s.size : Int) = 64 := by omega
  have b0 : ((s.size : Int) == 64) = true := by rw [z]; rfl
  clear hb hq hs z
  go_enter Try.func10, Try.ntmps10
  go_wp2_with fail
  refine HB.out.mono ?_
  rintro e w1 ⟨rfl, hb1⟩
  go_wp2_with fail
  refine (HQ.out _).mono ?_
  rintro e w2 ⟨rfl, rfl⟩
  simp only [Q4.v]
  go_wp2_with fail
  go_ret
  exact ⟨rfl, hb1⟩
end Go.Proofs.Ytchnjjkgaaiclaa
