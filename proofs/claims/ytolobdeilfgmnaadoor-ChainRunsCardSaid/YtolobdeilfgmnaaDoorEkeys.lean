/- The keys and the first words are the roots of the first primes: by the kernel. -/
import Derived.Test.YtolobdeilfgmnaaDoorEroots
namespace Go.Proofs.YtolobdeilfgmnaaDoor
open Go.RowKit
set_option maxRecDepth 100000
theorem primes64 : primU 310 = [2, 3, 5, 7, 11, 13, 17, 19, 23, 29, 31, 37, 41, 43, 47, 53, 59, 61, 67, 71, 73, 79, 83, 89, 97, 101, 103, 107, 109, 113, 127, 131, 137, 139, 149, 151, 157, 163, 167, 173, 179, 181, 191, 193, 197, 199, 211, 223, 227, 229, 233, 239, 241, 251, 257, 263, 269, 271, 277, 281, 283, 293, 307, 311] := by decide +kernel
theorem primes8 : primU 18 = [2, 3, 5, 7, 11, 13, 17, 19] := by decide +kernel
theorem first8 : rootsL 18 false = firstS.l := by
  unfold rootsL
  rw [primes8]
  decide +kernel
theorem keys64 : rootsL 310 true = keysL := by
  unfold rootsL
  rw [primes64]
  decide +kernel
theorem numbers_all (w : World) : Calls Tryd.prog 9 #[] w fun e w' => ∃ v, e = .returned v ∧ KAt w' v ∧ Below w.heap.size w w' :=
  numbers_any keys64 first8 (by rw [primes64]; rfl) (by rw [primes8]; rfl) w
end Go.Proofs.YtolobdeilfgmnaaDoor