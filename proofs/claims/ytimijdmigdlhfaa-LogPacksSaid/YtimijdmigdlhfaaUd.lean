/- A crc as four bytes; Record, the package's and the reference's. -/
import Derived.Test.YtimijdmigdlhfaaUc
import Derived.Test.YtimijdmigdlhfaaPe
import Derived.Test.YtimijdmigdlhfaaPg
namespace Go.Proofs.Ytimijdmigdlhfaa
open Go.RowKit
set_option maxRecDepth 100000
theorem u8_nat (n : Nat) : IntKind.u8.wrap (n : Int) = ((UInt8.ofNat n).toNat : Int) := by
  rw [IntKind.wrap_u8, UInt8.toNat_ofNat']; omega
theorem u8_mod (n : Nat) : ((UInt8.ofNat (n % 256)).toNat : Int) = ((UInt8.ofNat n).toNat : Int) := by
  rw [UInt8.toNat_ofNat', UInt8.toNat_ofNat']; omega
theorem u8_div (n d : Nat) : IntKind.u8.wrap ((n : Int) / (d : Int)) = ((UInt8.ofNat (n / d)).toNat : Int) := by
  rw [← u8_nat]; norm_cast
/-- string([]byte{a, b, c, d}) -/
theorem four_text (a b c d : UInt8) (W : World) :
    (convert 53 9 (.slice (some ⟨W.heap.size, 0, none⟩) 4 4)).run Try.prog (W.alloc (.cells #[.int .u8 (a.toNat : Int), .int .u8 (b.toNat : Int), .int .u8 (c.toNat : Int), .int .u8 (d.toNat : Int)] 5)) = .ok (.string (strL [a, b, c, d])) (W.alloc (.cells #[.int .u8 (a.toNat : Int), .int .u8 (b.toNat : Int), .int .u8 (c.toNat : Int), .int .u8 (d.toNat : Int)] 5)) := by
  exact run_convert_bytes_back (P := Try.prog) (W.alloc (.cells #[.int .u8 (a.toNat : Int), .int .u8 (b.toNat : Int), .int .u8 (c.toNat : Int), .int .u8 (d.toNat : Int)] 5)) 53 9 5 ⟨W.heap.size, 0, none⟩ 4 [a, b, c, d] Try.underlying53 Try.underlying5 Try.underlying9 (fun j hj => by
    rw [Addr.add_mid, Nat.zero_add, cell_of_row _ _ _ _ _ _ (heap_alloc_new _ _)]
    rcases j with _ | _ | _ | _ | j
    · rfl
    · rfl
    · rfl
    · rfl
    · simp at hj; omega)
/-- the four bytes in the walk's words -/
theorem be4_parts (x : BitVec 32) : ∃ n : Nat, x.toNat = n ∧ ∃ a b c d : UInt8, be4 x = [a, b, c, d] ∧
    IntKind.u8.wrap ((n : Int) / (16777216 : Int)) = (a.toNat : Int) ∧ IntKind.u8.wrap ((n : Int) / (65536 : Int)) = (b.toNat : Int) ∧ IntKind.u8.wrap ((n : Int) / (256 : Int)) = (c.toNat : Int) ∧ IntKind.u8.wrap (n : Int) = (d.toNat : Int) ∧
    IntKind.u8.wrap ((n : Int) / (65536 : Int) % (256 : Int)) = (b.toNat : Int) ∧ IntKind.u8.wrap ((n : Int) / (256 : Int) % (256 : Int)) = (c.toNat : Int) ∧ IntKind.u8.wrap ((n : Int) % (256 : Int)) = (d.toNat : Int) ∧
    (n : Int) / (16777216 : Int) % (256 : Int) = (a.toNat : Int) ∧ (n : Int) / (16777216 : Int) % (4294967296 : Int) % (256 : Int) = (a.toNat : Int) := by
  refine ⟨x.toNat, rfl, _, _, _, _, rfl, u8_div _ _, ?_, ?_, ?_, ?_, ?_, ?_, ?_, ?_⟩
  · rw [u8_mod]; exact u8_div _ _
  · rw [u8_mod]; exact u8_div _ _
  · rw [u8_mod]; exact u8_nat _
  · rw [IntKind.wrap_u8, UInt8.toNat_ofNat']; omega
  · rw [IntKind.wrap_u8, UInt8.toNat_ofNat']; omega
  · rw [IntKind.wrap_u8, UInt8.toNat_ofNat']; omega
  · rw [UInt8.toNat_ofNat']; omega
  · rw [UInt8.toNat_ofNat']; have := x.isLt; omega
set_option maxHeartbeats 1000000 in
theorem crcBytes_any (s : ByteArray) (hs : s.size ≤ maxLen) (w : World) :
    Calls Try.prog 26 #[.string s] w fun e w' => e = .returned (.string (strL (be4 (crc (bl s))))) ∧ Below w.heap.size w w' := by
  have HC := Lib.hid (Crc_any s hs w)
  clear hs
  generalize crc (bl s) = x at HC ⊢
  obtain ⟨n, hn, a, b, c, d, hb4, q1, q2, q3, q4, -, -, -, -, -⟩ := be4_parts x
  rw [hb4]
  rw [hn] at HC
  clear hb4 hn
  go_enter Try.func26, Try.ntmps26
  go_wp2_with fail
  refine HC.out.mono ?_
  rintro e w1 ⟨rfl, hb⟩
  have hft := four_text a b c d w1
  have HB := Lib.hid (hb.alloc hb.size (.cells #[.int .u8 (a.toNat : Int), .int .u8 (b.toNat : Int), .int .u8 (c.toNat : Int), .int .u8 (d.toNat : Int)] 5))
  clear hb HC
  go_wp2_with fail
  go_ret
  exact ⟨rfl, HB.out⟩
/-- the package's crc of a record, the reference's crc of one: that of the text's bytes -/
def ckP : Ck := ⟨fun s => be4 (crc (txB s)), fun _ => rfl⟩
def ckR : Ck := ⟨fun s => be4 (crc (txB s)), fun _ => rfl⟩
theorem packS_text (s : ByteArray) (h : s.size ≤ 1024) : packS [⟨true, 0, s⟩] = strL (txB s) ∧ packE [⟨true, 0, s⟩] = 0 := by
  have hl : longL [⟨true, 0, s⟩] = false := by unfold longL longP; simp; omega
  unfold packS packE
  rw [hl, packL_one]
  exact ⟨rfl, rfl⟩
theorem packS_long (s : ByteArray) (h : ¬ s.size ≤ 1024) : packS [⟨true, 0, s⟩] = ⟨#[]⟩ ∧ packE [⟨true, 0, s⟩] = 2 := by
  have hl : longL [⟨true, 0, s⟩] = true := by unfold longL longP; simp; omega
  unfold packS packE
  rw [hl]
  exact ⟨rfl, rfl⟩
theorem wr_one (C : Ck) (s : ByteArray) (h : s.size ≤ 1024) : wrS C [s] = strL (recL C s) ∧ wrE [s] = 0 := by
  have hl : longS 1024 [s] = false := by unfold longS; simp; omega
  unfold wrS wrE
  rw [hl, logL_one]
  exact ⟨rfl, rfl⟩
theorem wr_long (C : Ck) (l : List ByteArray) (h : longS 1024 l = true) : wrS C l = ⟨#[]⟩ ∧ wrE l = 2 := by
  unfold wrS wrE
  rw [h]
  exact ⟨rfl, rfl⟩
theorem wr_fits (C : Ck) (l : List ByteArray) (h : longS 1024 l = false) : wrS C l = strL (logL C l) ∧ wrE l = 0 := by
  unfold wrS wrE
  rw [h]
  exact ⟨rfl, rfl⟩
theorem long_one (s : ByteArray) (h : ¬ s.size ≤ 1024) : longS 1024 [s] = true := by unfold longS; simp; omega
theorem txB_le (s : ByteArray) (h : s.size ≤ 1024) : (txB s).length ≤ 1033 := by
  unfold txB
  rw [List.length_append, numB_length, bl_length]
  have := digL_len8 s.size (by omega)
  omega
set_option maxHeartbeats 1000000 in
theorem Record_any (s : ByteArray) (hs : s.size ≤ maxLen) (w : World) :
    Calls Try.prog 9 #[.string s] w fun e w' => e = .returned (.tuple #[.string (wrS ckP [s]), .int .i64 (wrE [s] : Int)]) ∧ Below w.heap.size w w' := by
  have hT := Text_any s hs w
  by_cases h : s.size ≤ 1024
  · obtain ⟨e1, e2⟩ := packS_text s h
    obtain ⟨e3, e4⟩ := wr_one ckP s h
    rw [e1, e2] at hT
    rw [e3, e4]
    have hlen := txB_le s h
    have hC := fun W => crcBytes_any (strL (txB s)) (by rw [strL_size]; unfold maxLen; omega) W
    rw [bl_strL] at hC
    have HT := Lib.hid hT
    have HC := Lib.hid hC
    have hr : strL (txB s) ++ strL (be4 (crc (txB s))) = strL (recL ckP s) := strL_append _ _
    have hz1 : (strL (txB s)).size ≤ 1033 := by rw [strL_size]; exact hlen
    have hz2 : (strL (be4 (crc (txB s)))).size = 4 := by rw [strL_size]; rfl
    clear hT hC e1 e2 e3 e4 h hs hlen
    generalize strL (be4 (crc (txB s))) = q at HC hr hz2
    generalize strL (txB s) = t at HT HC hr hz1
    generalize strL (recL ckP s) = r at hr ⊢
    have hcat : ∀ W : World, (Op.stringOp .add t q).run Try.prog W = .ok (.string r) W := fun W => by
      rw [run_string_add_sum W _ _ (by omega), hr]
    have hns : (9223372036854775807 < t.size + q.size) = False := by simp; omega
    clear hr hz1 hz2
    go_enter Try.func9, Try.ntmps9
    go_wp2_with fail
    refine HT.out.mono ?_
    rintro e w1 ⟨rfl, hb⟩
    have HB := Lib.hid hb
    clear hb HT
    go_wp2_with fail
    refine (HC.out w1).mono ?_
    rintro e w2 ⟨rfl, hb⟩
    have HB2 := Lib.hid (HB.out.trans (hb.mono HB.out.size))
    clear hb HC HB
    go_wp2_with fail
    go_ret2
    exact ⟨rfl, HB2.out⟩
  · obtain ⟨e1, e2⟩ := packS_long s h
    obtain ⟨e3, e4⟩ := wr_long ckP [s] (long_one s h)
    rw [e1, e2] at hT
    rw [e3, e4]
    have HT := Lib.hid hT
    clear hT e1 e2 e3 e4 h hs
    go_enter Try.func9, Try.ntmps9
    go_wp2_with fail
    refine HT.out.mono ?_
    rintro e w1 ⟨rfl, hb⟩
    have HB := Lib.hid hb
    clear hb HT
    go_wp2_with fail
    go_ret2
    exact ⟨rfl, HB.out⟩
set_option maxHeartbeats 1000000 in
theorem rRecord_any (s : ByteArray) (h : s.size ≤ 1024) (w : World) :
    Calls Try.prog 14 #[.string s] w fun e w' => e = .returned (.string (strL (recL ckR s))) ∧ Below w.heap.size w w' := by
  have hO : Calls Try.prog 29 #[.agg #[.bool true, .int .u64 0, .string s]] w fun e w' => e = .returned (.string (strL (txB s))) ∧ Below w.heap.size w w' :=
    rOne_any ⟨true, 0, s⟩ ⟨by show 0 < _; omega, by show s.size ≤ maxLen; unfold maxLen; omega⟩ (by show (true && decide (1024 < s.size)) = false; rw [decide_eq_false (by omega)]; rfl) w
  have hlen := txB_le s h
  have hC := fun W => rCrc_any (strL (txB s)) (by rw [strL_size]; unfold maxLen; omega) W
  rw [bl_strL] at hC
  have hr : strL (txB s) ++ strL (be4 (crc (txB s))) = strL (recL ckR s) := strL_append _ _
  have hz1 : (strL (txB s)).size ≤ 1033 := by rw [strL_size]; exact hlen
  have hz2 : (strL (be4 (crc (txB s)))).size = 4 := by rw [strL_size]; rfl
  have HO := Lib.hid hO; have HC := Lib.hid hC
  clear hO hC hlen h
  obtain ⟨n, hn, a, b, c, d, hb4, q1, -, -, -, q2, q3, q4, q5, q6⟩ := be4_parts (crc (txB s))
  rw [hb4] at hr hz2
  rw [hn] at HC
  clear hb4 hn
  generalize strL (txB s) = t at HO HC hr hz1
  generalize strL (recL ckR s) = r at hr ⊢
  have hcat : ∀ W : World, (Op.stringOp .add t (strL [a, b, c, d])).run Try.prog W = .ok (.string r) W := fun W => by
    rw [run_string_add_sum W _ _ (by omega), hr]
  have hns : (9223372036854775807 < t.size + (strL [a, b, c, d]).size) = False := by simp; omega
  clear hr hz1 hz2
  go_enter Try.func14, Try.ntmps14
  go_wp2_with fail
  refine HO.out.mono ?_
  rintro e w1 ⟨rfl, hb⟩
  have HB := Lib.hid hb
  clear hb HO
  go_wp2_with fail
  refine (HC.out w1).mono ?_
  rintro e w2 ⟨rfl, rfl⟩
  have hft := four_text a b c d w1
  have HB2 := Lib.hid (HB.out.alloc HB.out.size (.cells #[.int .u8 (a.toNat : Int), .int .u8 (b.toNat : Int), .int .u8 (c.toNat : Int), .int .u8 (d.toNat : Int)] 5))
  clear HC HB
  go_wp2_with fail
  go_ret
  exact ⟨rfl, HB2.out⟩
end Go.Proofs.Ytimijdmigdlhfaa