/- The contracts of package limb's exported functions Norm, Add, Sub, Mul. -/
import Derived.Test.YtccjhlipcgpkmaaDoorRead
import Derived.Test.YtccjhlipcgpkmaaDoorTell
namespace Go.Proofs.YtccjhlipcgpkmaaDoor
open Go.RowKit

/-- a text and no error, with what lay before left as it was -/
def StrOk (x : Int) (w : World) (e : Ending) (w' : World) : Prop := e = .returned (.tuple #[.string (leStr x), .int .i64 0]) ∧ Below w.heap.size w w'
def StrBad (w : World) (e : Ending) (w' : World) : Prop := e = .returned (.tuple #[.string ⟨#[]⟩, .int .i64 2]) ∧ Below w.heap.size w w'

set_option maxHeartbeats 1000000 in
theorem norm_good (s : ByteArray) (hs : s.size = 32) (w : World) (hP : PrimeAt w) :
    Calls Tryd.prog 10 #[.string s] w (StrOk (leNum s % Pr) w) := by
  go_enter Tryd.func10, Tryd.ntmps10
  go_wp2_with fail
  refine (read_good s hs _).mono ?_
  rintro e w1 ⟨a, b, c, d, rfl, h4, hb1⟩
  have hlt := hP.lt
  have hs1 := hb1.size
  have hP1 : PrimeAt (w1.alloc (.cells #[.int .u64 a, .int .u64 b, .int .u64 c, .int .u64 d] 46)) := hP.below (hb1.alloc hs1 _) hlt
  have HS := Lib.hid hs
  clear hs
  go_wp2_with fail
  refine (tell_any _ _ ⟨_, _, _, _, rfl, h4⟩ _ hP1).mono ?_
  rintro e w2 ⟨rfl, hb2⟩
  go_wp2_with fail
  go_ret2
  exact ⟨rfl, (hb1.alloc hs1 _).trans (hb2.mono (by simp; omega))⟩

set_option maxHeartbeats 1000000 in
theorem norm_bad (s : ByteArray) (hs : s.size ≠ 32) (hm : s.size ≤ maxLen) (w : World) :
    Calls Tryd.prog 10 #[.string s] w (StrBad w) := by
  go_enter Tryd.func10, Tryd.ntmps10
  go_wp2_with fail
  refine (read_bad s hs hm _).mono ?_
  rintro e w1 ⟨rfl, hb1⟩
  have hs1 := hb1.size
  go_wp2_with fail
  go_ret2
  exact ⟨rfl, hb1.alloc hs1 _⟩

theorem pr_pos : (0 : Int) < Pr := by unfold Pr; omega
theorem plus_left (x y : Int) : (x % Pr + y % Pr) % Pr = (x + y) % Pr := by rw [← Int.add_emod]
theorem minus_left (x y : Int) : (x % Pr + (Pr - y % Pr) % Pr) % Pr = (x - y) % Pr := by
  have h1 := Int.emod_add_mul_ediv x Pr
  have h2 := Int.emod_add_mul_ediv y Pr
  rw [Int.emod_add_emod, Int.add_emod_emod]
  have : x - y = x + (Pr - y % Pr) + Pr * (-1 - y / Pr) := by
    rw [Int.mul_sub, Int.mul_neg, Int.mul_one]; omega
  rw [this, Int.add_mul_emod_self_left]

set_option maxHeartbeats 1000000 in
theorem ofTwo_plus (s t : ByteArray) (hs : s.size = 32) (ht : t.size = 32) (w : World) (hP : PrimeAt w) :
    Calls Tryd.prog 36 #[.string s, .string t, Value.func (Fn.func 37) #[] #[]] w (StrOk ((leNum s + leNum t) % Pr) w) := by
  have HS := Lib.hid hs; have HT := Lib.hid ht
  clear hs ht
  have hlt := hP.lt
  go_enter Tryd.func36, Tryd.ntmps36
  go_wp2_with fail
  refine (read_good s HS.out _).mono ?_
  rintro e w1 ⟨a0, a1, a2, a3, rfl, h4, hb1⟩
  have hs1 := hb1.size
  go_wp2_with fail
  refine (read_good t HT.out _).mono ?_
  rintro e w2 ⟨b0, b1, b2, b3, rfl, g4, hb2⟩
  have hN : Blk w2 w1.heap.size a0 a1 a2 a3 := Blk.below (Blk.fresh _ _ _ _ _ _) hb2 (by simp)
  have hs2 : w1.heap.size < w2.heap.size := hN.lt
  have hB : Below w.heap.size w w2 := (hb1.alloc hs1 _).trans (hb2.mono (by simp; omega))
  clear hb2 hb1
  obtain ⟨⟨x0, x1, x2, x3⟩, -⟩ := id hN
  have hBB := hB.alloc (by omega) (.cells #[.int .u64 b0, .int .u64 b1, .int .u64 b2, .int .u64 b3] 46)
  have hPB := hP.below hBB hlt
  go_wp2_with fail
  refine (plus_any _ _ _ _ ⟨_, _, _, _, rfl, h4⟩ ⟨_, _, _, _, rfl, g4⟩ _ hPB).mono ?_
  rintro e w3 ⟨c0, c1, c2, c3, z, rfl, hz, hzp, hb3⟩
  have hB3 := hBB.trans (hb3.mono (by simp; omega))
  have HZ : Hid (z % Pr = (leNum s + leNum t) % Pr) := by rw [hzp]; exact plus_left _ _
  clear hzp
  go_wp2_with fail
  refine (tell_any _ _ ⟨_, _, _, _, rfl, hz⟩ _ (hP.below hB3 hlt)).mono ?_
  rintro e w4 ⟨rfl, hb4⟩
  go_wp2_with fail
  go_ret2
  refine ⟨?_, hB3.trans (hb4.mono (by have := hb3.size; simp at this; omega))⟩
  rw [HZ.out]
  rfl
set_option maxHeartbeats 1000000 in
theorem add_good (s t : ByteArray) (hs : s.size = 32) (ht : t.size = 32) (w : World) (hP : PrimeAt w) :
    Calls Tryd.prog 11 #[.string s, .string t] w (StrOk ((leNum s + leNum t) % Pr) w) := by
  go_enter Tryd.func11, Tryd.ntmps11
  go_wp2_with fail
  refine (ofTwo_plus s t hs ht _ hP).mono ?_
  rintro e w1 ⟨rfl, hb1⟩
  go_wp2_with fail
  go_ret2
  exact ⟨rfl, hb1⟩
set_option maxHeartbeats 1000000 in
theorem ofTwo_plus_bad (s t : ByteArray) (hst : s.size ≠ 32 ∨ t.size ≠ 32) (hms : s.size ≤ maxLen) (hmt : t.size ≤ maxLen) (w : World) :
    Calls Tryd.prog 36 #[.string s, .string t, Value.func (Fn.func 37) #[] #[]] w (StrBad w) := by
  by_cases hs : s.size = 32
  · have ht : t.size ≠ 32 := by rcases hst with h | h; exact absurd hs h; exact h
    have HS := Lib.hid hs; have HT := Lib.hid ht
    clear hs ht hst
    go_enter Tryd.func36, Tryd.ntmps36
    go_wp2_with fail
    refine (read_good s HS.out _).mono ?_
    rintro e w1 ⟨a0, a1, a2, a3, rfl, h4, hb1⟩
    have hs1 := hb1.size
    go_wp2_with fail
    refine (read_bad t HT.out hmt _).mono ?_
    rintro e w2 ⟨rfl, hb2⟩
    have hs2 := hb2.size
    simp at hs2
    have hB : Below w.heap.size w w2 := (hb1.alloc hs1 _).trans (hb2.mono (by simp; omega))
    go_wp2_with fail
    go_ret2
    exact ⟨rfl, hB.alloc (by omega) _⟩
  · have HS := Lib.hid hs
    clear hs hst
    go_enter Tryd.func36, Tryd.ntmps36
    go_wp2_with fail
    refine (read_bad s HS.out hms _).mono ?_
    rintro e w1 ⟨rfl, hb1⟩
    have hs1 := hb1.size
    go_wp2_with fail
    go_ret2
    exact ⟨rfl, hb1.alloc hs1 _⟩
set_option maxHeartbeats 1000000 in
theorem add_bad (s t : ByteArray) (hst : s.size ≠ 32 ∨ t.size ≠ 32) (hms : s.size ≤ maxLen) (hmt : t.size ≤ maxLen) (w : World) :
    Calls Tryd.prog 11 #[.string s, .string t] w (StrBad w) := by
  have HST := Lib.hid hst
  clear hst
  go_enter Tryd.func11, Tryd.ntmps11
  go_wp2_with fail
  refine (ofTwo_plus_bad s t HST.out hms hmt _).mono ?_
  rintro e w1 ⟨rfl, hb1⟩
  go_wp2_with fail
  go_ret2
  exact ⟨rfl, hb1⟩

set_option maxHeartbeats 1000000 in
theorem ofTwo_minus (s t : ByteArray) (hs : s.size = 32) (ht : t.size = 32) (w : World) (hP : PrimeAt w) :
    Calls Tryd.prog 36 #[.string s, .string t, Value.func (Fn.func 38) #[] #[]] w (StrOk ((leNum s - leNum t) % Pr) w) := by
  have HS := Lib.hid hs; have HT := Lib.hid ht
  clear hs ht
  have hlt := hP.lt
  go_enter Tryd.func36, Tryd.ntmps36
  go_wp2_with fail
  refine (read_good s HS.out _).mono ?_
  rintro e w1 ⟨a0, a1, a2, a3, rfl, h4, hb1⟩
  have hs1 := hb1.size
  go_wp2_with fail
  refine (read_good t HT.out _).mono ?_
  rintro e w2 ⟨b0, b1, b2, b3, rfl, g4, hb2⟩
  have hN : Blk w2 w1.heap.size a0 a1 a2 a3 := Blk.below (Blk.fresh _ _ _ _ _ _) hb2 (by simp)
  have hs2 : w1.heap.size < w2.heap.size := hN.lt
  have hB : Below w.heap.size w w2 := (hb1.alloc hs1 _).trans (hb2.mono (by simp; omega))
  clear hb2 hb1
  obtain ⟨⟨x0, x1, x2, x3⟩, -⟩ := id hN
  have hBB := hB.alloc (by omega) (.cells #[.int .u64 b0, .int .u64 b1, .int .u64 b2, .int .u64 b3] 46)
  have hPB := hP.below hBB hlt
  go_wp2_with fail
  refine (minus_any _ _ _ _ ⟨_, _, _, _, rfl, h4⟩ ⟨_, _, _, _, rfl, g4⟩ _ hPB).mono ?_
  rintro e w3 ⟨c0, c1, c2, c3, z, rfl, hz, hzp, hb3⟩
  have hB3 := hBB.trans (hb3.mono (by simp; omega))
  have HZ : Hid (z % Pr = (leNum s - leNum t) % Pr) := by rw [hzp]; exact minus_left _ _
  clear hzp
  go_wp2_with fail
  refine (tell_any _ _ ⟨_, _, _, _, rfl, hz⟩ _ (hP.below hB3 hlt)).mono ?_
  rintro e w4 ⟨rfl, hb4⟩
  go_wp2_with fail
  go_ret2
  refine ⟨?_, hB3.trans (hb4.mono (by have := hb3.size; simp at this; omega))⟩
  rw [HZ.out]
  rfl
set_option maxHeartbeats 1000000 in
theorem sub_good (s t : ByteArray) (hs : s.size = 32) (ht : t.size = 32) (w : World) (hP : PrimeAt w) :
    Calls Tryd.prog 12 #[.string s, .string t] w (StrOk ((leNum s - leNum t) % Pr) w) := by
  go_enter Tryd.func12, Tryd.ntmps12
  go_wp2_with fail
  refine (ofTwo_minus s t hs ht _ hP).mono ?_
  rintro e w1 ⟨rfl, hb1⟩
  go_wp2_with fail
  go_ret2
  exact ⟨rfl, hb1⟩
set_option maxHeartbeats 1000000 in
theorem ofTwo_minus_bad (s t : ByteArray) (hst : s.size ≠ 32 ∨ t.size ≠ 32) (hms : s.size ≤ maxLen) (hmt : t.size ≤ maxLen) (w : World) :
    Calls Tryd.prog 36 #[.string s, .string t, Value.func (Fn.func 38) #[] #[]] w (StrBad w) := by
  by_cases hs : s.size = 32
  · have ht : t.size ≠ 32 := by rcases hst with h | h; exact absurd hs h; exact h
    have HS := Lib.hid hs; have HT := Lib.hid ht
    clear hs ht hst
    go_enter Tryd.func36, Tryd.ntmps36
    go_wp2_with fail
    refine (read_good s HS.out _).mono ?_
    rintro e w1 ⟨a0, a1, a2, a3, rfl, h4, hb1⟩
    have hs1 := hb1.size
    go_wp2_with fail
    refine (read_bad t HT.out hmt _).mono ?_
    rintro e w2 ⟨rfl, hb2⟩
    have hs2 := hb2.size
    simp at hs2
    have hB : Below w.heap.size w w2 := (hb1.alloc hs1 _).trans (hb2.mono (by simp; omega))
    go_wp2_with fail
    go_ret2
    exact ⟨rfl, hB.alloc (by omega) _⟩
  · have HS := Lib.hid hs
    clear hs hst
    go_enter Tryd.func36, Tryd.ntmps36
    go_wp2_with fail
    refine (read_bad s HS.out hms _).mono ?_
    rintro e w1 ⟨rfl, hb1⟩
    have hs1 := hb1.size
    go_wp2_with fail
    go_ret2
    exact ⟨rfl, hb1.alloc hs1 _⟩
set_option maxHeartbeats 1000000 in
theorem sub_bad (s t : ByteArray) (hst : s.size ≠ 32 ∨ t.size ≠ 32) (hms : s.size ≤ maxLen) (hmt : t.size ≤ maxLen) (w : World) :
    Calls Tryd.prog 12 #[.string s, .string t] w (StrBad w) := by
  have HST := Lib.hid hst
  clear hst
  go_enter Tryd.func12, Tryd.ntmps12
  go_wp2_with fail
  refine (ofTwo_minus_bad s t HST.out hms hmt _).mono ?_
  rintro e w1 ⟨rfl, hb1⟩
  go_wp2_with fail
  go_ret2
  exact ⟨rfl, hb1⟩

set_option maxHeartbeats 1000000 in
theorem ofTwo_times (s t : ByteArray) (hs : s.size = 32) (ht : t.size = 32) (w : World) (hP : PrimeAt w) :
    Calls Tryd.prog 36 #[.string s, .string t, Value.func (Fn.func 39) #[] #[]] w (StrOk ((leNum s * leNum t) % Pr) w) := by
  have HS := Lib.hid hs; have HT := Lib.hid ht
  clear hs ht
  have hlt := hP.lt
  go_enter Tryd.func36, Tryd.ntmps36
  go_wp2_with fail
  refine (read_good s HS.out _).mono ?_
  rintro e w1 ⟨a0, a1, a2, a3, rfl, h4, hb1⟩
  have hs1 := hb1.size
  go_wp2_with fail
  refine (read_good t HT.out _).mono ?_
  rintro e w2 ⟨b0, b1, b2, b3, rfl, g4, hb2⟩
  have hN : Blk w2 w1.heap.size a0 a1 a2 a3 := Blk.below (Blk.fresh _ _ _ _ _ _) hb2 (by simp)
  have hs2 : w1.heap.size < w2.heap.size := hN.lt
  have hB : Below w.heap.size w w2 := (hb1.alloc hs1 _).trans (hb2.mono (by simp; omega))
  clear hb2 hb1
  obtain ⟨⟨x0, x1, x2, x3⟩, -⟩ := id hN
  have hBB := hB.alloc (by omega) (.cells #[.int .u64 b0, .int .u64 b1, .int .u64 b2, .int .u64 b3] 46)
  have hPB := hP.below hBB hlt
  go_wp2_with fail
  refine (times_any _ _ _ _ ⟨_, _, _, _, rfl, h4⟩ ⟨_, _, _, _, rfl, g4⟩ _).mono ?_
  rintro e w3 ⟨c0, c1, c2, c3, z, rfl, hz, hzp, hb3⟩
  have hB3 := hBB.trans (hb3.mono (by simp; omega))
  have HZ : Hid (z % Pr = (leNum s * leNum t) % Pr) := by exact hzp
  clear hzp
  go_wp2_with fail
  refine (tell_any _ _ ⟨_, _, _, _, rfl, hz⟩ _ (hP.below hB3 hlt)).mono ?_
  rintro e w4 ⟨rfl, hb4⟩
  go_wp2_with fail
  go_ret2
  refine ⟨?_, hB3.trans (hb4.mono (by have := hb3.size; simp at this; omega))⟩
  rw [HZ.out]
  rfl
set_option maxHeartbeats 1000000 in
theorem mul_good (s t : ByteArray) (hs : s.size = 32) (ht : t.size = 32) (w : World) (hP : PrimeAt w) :
    Calls Tryd.prog 13 #[.string s, .string t] w (StrOk ((leNum s * leNum t) % Pr) w) := by
  go_enter Tryd.func13, Tryd.ntmps13
  go_wp2_with fail
  refine (ofTwo_times s t hs ht _ hP).mono ?_
  rintro e w1 ⟨rfl, hb1⟩
  go_wp2_with fail
  go_ret2
  exact ⟨rfl, hb1⟩
set_option maxHeartbeats 1000000 in
theorem ofTwo_times_bad (s t : ByteArray) (hst : s.size ≠ 32 ∨ t.size ≠ 32) (hms : s.size ≤ maxLen) (hmt : t.size ≤ maxLen) (w : World) :
    Calls Tryd.prog 36 #[.string s, .string t, Value.func (Fn.func 39) #[] #[]] w (StrBad w) := by
  by_cases hs : s.size = 32
  · have ht : t.size ≠ 32 := by rcases hst with h | h; exact absurd hs h; exact h
    have HS := Lib.hid hs; have HT := Lib.hid ht
    clear hs ht hst
    go_enter Tryd.func36, Tryd.ntmps36
    go_wp2_with fail
    refine (read_good s HS.out _).mono ?_
    rintro e w1 ⟨a0, a1, a2, a3, rfl, h4, hb1⟩
    have hs1 := hb1.size
    go_wp2_with fail
    refine (read_bad t HT.out hmt _).mono ?_
    rintro e w2 ⟨rfl, hb2⟩
    have hs2 := hb2.size
    simp at hs2
    have hB : Below w.heap.size w w2 := (hb1.alloc hs1 _).trans (hb2.mono (by simp; omega))
    go_wp2_with fail
    go_ret2
    exact ⟨rfl, hB.alloc (by omega) _⟩
  · have HS := Lib.hid hs
    clear hs hst
    go_enter Tryd.func36, Tryd.ntmps36
    go_wp2_with fail
    refine (read_bad s HS.out hms _).mono ?_
    rintro e w1 ⟨rfl, hb1⟩
    have hs1 := hb1.size
    go_wp2_with fail
    go_ret2
    exact ⟨rfl, hb1.alloc hs1 _⟩
set_option maxHeartbeats 1000000 in
theorem mul_bad (s t : ByteArray) (hst : s.size ≠ 32 ∨ t.size ≠ 32) (hms : s.size ≤ maxLen) (hmt : t.size ≤ maxLen) (w : World) :
    Calls Tryd.prog 13 #[.string s, .string t] w (StrBad w) := by
  have HST := Lib.hid hst
  clear hst
  go_enter Tryd.func13, Tryd.ntmps13
  go_wp2_with fail
  refine (ofTwo_times_bad s t HST.out hms hmt _).mono ?_
  rintro e w1 ⟨rfl, hb1⟩
  go_wp2_with fail
  go_ret2
  exact ⟨rfl, hb1⟩

end Go.Proofs.YtccjhlipcgpkmaaDoor
