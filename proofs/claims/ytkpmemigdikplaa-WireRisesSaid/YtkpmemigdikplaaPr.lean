/- WireRises: numbers' bytes are in order as the numbers are. -/
import Derived.Test.YtkpmemigdikplaaPd
namespace Go.Proofs.Ytkpmemigdikplaa
open Go.RowKit Go.Sort
set_option maxRecDepth 100000

theorem bytesLess_lex (s t : List UInt8) : Op.bytesLess s t = lexB s t := by
  induction s generalizing t with
  | nil => cases t <;> simp [Op.bytesLess, lexB]
  | cons a s ih =>
    cases t with
    | nil => simp [Op.bytesLess, lexB]
    | cons b t => simp [Op.bytesLess, lexB, ih]
set_option maxHeartbeats 2000000 in
theorem wireRises_any (n m : Nat) (hn : n < 18446744073709551616) (hm : m < 18446744073709551616) (w : World) :
    Calls Try.prog 6 #[.int .u64 (n : Int), .int .u64 (m : Int)] w fun e w' => e = .returned (.bool true) ∧ Below w.heap.size w w' := by
  have h1 := Number_any n hn
  have h2 := Number_any m hm
  obtain ⟨a, ea⟩ : ∃ a, strL (numB n) = a := ⟨_, rfl⟩
  obtain ⟨b, eb⟩ : ∃ b, strL (numB m) = b := ⟨_, rfl⟩
  rw [ea] at h1
  rw [eb] at h2
  have ta : a.toList = numB n := by rw [Lib.toList_data, ← ea]; exact bl_strL _
  have tb : b.toList = numB m := by rw [Lib.toList_data, ← eb]; exact bl_strL _
  have f1 : decide (n < m) = Op.bytesLess a.toList b.toList := by rw [ta, tb, bytesLess_lex, numB_lex n m hn hm]
  have f2 : ((n : Int) == (m : Int)) = (a.toList == b.toList) := by
    rw [ta, tb, nat_eq]
    by_cases h : n = m
    · subst h; simp
    · rw [decide_eq_false h]; symm; rw [beq_eq_false_iff_ne]; exact fun e => h (numB_inj _ _ e)
  have sa : a.size = (numB n).length := by rw [← ea, strL_size]
  rw [numB_length] at sa
  have l8 := digL_len8 n hn
  have f3 : ¬ (a.size : Int) < 1 := by omega
  have f4 : (a.size : Int) ≤ 9 := by omega
  clear ta tb sa l8 ea eb
  have H1 := Lib.hid h1; have H2 := Lib.hid h2
  clear h1 h2
  go_enter Try.func6, Try.ntmps6
  go_wp2_with fail
  refine (H1.out _).mono ?_
  rintro e w1 ⟨rfl, hb1⟩
  have HB1 := Lib.hid hb1
  clear hb1 H1
  go_wp2_with fail
  refine (H2.out _).mono ?_
  rintro e w2 ⟨rfl, hb2⟩
  have hb := HB1.out.trans (hb2.mono HB1.out.size)
  have HB2 := Lib.hid hb
  clear hb2 hb H2 HB1
  go_wp2_with fail
  refine (alive7_any _).mono ?_
  rintro e w3 ⟨rfl, hb3⟩
  have hb := HB2.out.trans (hb3.mono HB2.out.size)
  have HB3 := Lib.hid hb
  clear hb3 hb HB2
  go_wp2_with fail
  go_ret
  exact ⟨rfl, HB3.out⟩
end Go.Proofs.Ytkpmemigdikplaa
