/- A strings.Builder of the call's own: written on, read. -/
import Derived.Test.YtimijdmigdlhfaaKb
import Derived.Test.YtimijdmigdlhfaaFsh
import Derived.Lib.FrozenHead
import Derived.Lib.OthersKept
namespace Go.Proofs.Ytimijdmigdlhfaa
open Go.RowKit
set_option maxRecDepth 100000
/-- block b is a builder of the call's own (blocks from base on) that holds the bytes l -/
def Bld (base b : Nat) (l : List UInt8) (w : World) : Prop := Lib.IsBuilderF 55 5 base b (Lib.byteCells l) w
theorem bAt_on {base b : Nat} {p : Value} {bs : List Value} {w w' : World} (h : Lib.BuilderAtF 55 5 base b p bs w) (hb : Below w.heap.size w w') : Lib.BuilderAtF 55 5 base b p bs w' := by
  obtain ⟨hB, v, h1, h2, h3⟩ := h
  refine ⟨hB, v, by rw [hb.block b (Array.getElem?_eq_some_iff.1 h1).1]; exact h1, ?_, h3⟩
  refine ⟨h2.1, ?_⟩
  rcases h2.2 with h4 | ⟨g, cap, cur, fz, e, hg, hc, h5⟩
  · exact .inl h4
  · exact .inr ⟨g, cap, cur, fz, e, hg, by rw [hb.block g (Array.getElem?_eq_some_iff.1 hc).1]; exact hc, h5⟩
theorem Bld.on {base b : Nat} {l : List UInt8} {w w' : World} (h : Bld base b l w) (hb : Below w.heap.size w w') : Bld base b l w' := by
  rcases h with h | h
  · exact .inl (bAt_on h hb)
  · exact .inr (bAt_on h hb)
theorem Bld.fresh (w : World) : Bld w.heap.size w.heap.size [] (w.alloc (.cells #[.pointer none, .slice none 0 0] 55)) :=
  Lib.IsBuilderF.of (Lib.fresh_isBuilder _ _ w)
theorem neBu : (55 : TypeId) ≠ 5 := by decide
theorem infoBu : (Try.prog.info? 55).map (·.size) = some 2 := by kernel_rfl
theorem liesBu : liesAt Try.prog (Program.depth Try.prog) 55 (2 / Program.cellsOf Try.prog 55) 0 55 1 = true := by kernel_rfl
theorem noEscape_run (v : Value) (W : World) : (callFunc 45 #[v]).run Try.prog W = .ok (.value v) W := by
  rw [run_callFunc_extern (P := Try.prog) (fn := Try.f45) (e := Extern.AbiNoEscape.same) (by kernel_rfl) (by kernel_rfl) (by kernel_rfl) (by kernel_rfl) (by kernel_rfl) #[v] W, Lib.run_noEscape]
  rfl
theorem check_used (b : Nat) (w : World) (h0 : w.cell? ⟨b, 0, none⟩ = some (.pointer (some ⟨b, 0, none⟩))) :
    Calls Try.prog 37 #[.pointer (some ⟨b, 0, none⟩)] w fun e w' => e = .returned (.tuple #[]) ∧ w = w' := by
  obtain ⟨j, hj, -⟩ := Option.map_eq_some_iff.1 infoBu
  have hne := Lib.run_neq_ptr_same (P := Try.prog) w ⟨b, 0, none⟩ Try.underlying52 hj
  clear hj
  go_enter Try.func37, Try.ntmps37
  go_wp2_with fail
  go_end0
  exact ⟨rfl, rfl⟩
theorem check_fresh (b : Nat) (w : World) (h0 : w.cell? ⟨b, 0, none⟩ = some (.pointer none)) (hsh : w.shape? b = some (55, 2)) (hfz : w.frozen? ⟨b, 0, none⟩ = false) :
    Calls Try.prog 37 #[.pointer (some ⟨b, 0, none⟩)] w fun e w' => e = .returned (.tuple #[]) ∧ w' = w.setCell ⟨b, 0, none⟩ (.pointer (some ⟨b, 0, none⟩)) := by
  obtain ⟨j, hj, hjs⟩ := Option.map_eq_some_iff.1 infoBu
  have h1 := Lib.run_to_unsafe (P := Try.prog) w ⟨b, 0, none⟩ Try.underlying52 Try.underlying90 hj (by rw [hjs]; decide) hsh (Nat.zero_lt_succ 1)
  have h2 := noEscape_run (.pointer (some ⟨b, 0, none⟩)) w
  have h3 := Lib.run_from_unsafe (P := Try.prog) w ⟨b, 0, none⟩ Try.underlying90 Try.underlying52 hj hsh liesBu
  clear hj hjs hsh
  go_enter Try.func37, Try.ntmps37
  go_wp2_with fail
  go_end0
  exact ⟨rfl, rfl⟩
theorem check_any (base b : Nat) (l : List UInt8) (w : World) (h : Bld base b l w) :
    Calls Try.prog 37 #[.pointer (some ⟨b, 0, none⟩)] w fun e w' => e = .returned (.tuple #[]) ∧ Lib.BuilderAtF 55 5 base b (.pointer (some ⟨b, 0, none⟩)) (Lib.byteCells l) w' ∧ Below base w w' := by
  rcases h with h | h
  · refine (check_fresh b w h.cell0 h.shape h.frozen0).mono ?_
    rintro e w' ⟨rfl, rfl⟩
    exact ⟨rfl, h.used _, (Below.refl _ _).setCell (p := ⟨b, 0, none⟩) h.1 _⟩
  · refine (check_used b w h.cell0).mono ?_
    rintro e w' ⟨rfl, rfl⟩
    exact ⟨rfl, h, Below.refl _ _⟩
set_option maxHeartbeats 1000000 in
theorem writeString_any (base b : Nat) (l : List UInt8) (s : ByteArray) (w : World) (h : Bld base b l w) (hlen : l.length + s.size ≤ 140737488355328) (hbase : base ≤ w.heap.size) :
    Calls Try.prog 27 #[.pointer (some ⟨b, 0, none⟩), .string s] w fun e w' => e = .returned (.tuple #[.int .i64 s.size, .nilIface]) ∧ Bld base b (l ++ bl s) w' ∧ Below base w w' := by
  obtain ⟨i0, hi, hz0, hz1, hz2⟩ := info_parts infoB
  have HC := Lib.hid (check_any base b l w h); have HL := Lib.hid hlen; have HZ := Lib.hid hbase
  have HI := Lib.hid (And.intro hi (And.intro hz0 (And.intro hz1 hz2)))
  clear h hlen hbase hi hz0 hz1 hz2
  go_enter Try.func27, Try.ntmps27
  go_wp2_with fail
  refine HC.out.mono ?_
  rintro e w1 ⟨rfl, ⟨hB, v, hbk, hown, hne⟩, hb1⟩
  have c1 : w1.cell? ⟨b, 1, none⟩ = some v := by rw [Lib.cell_of_heap hbk]; rfl
  have hlt : b < w1.heap.size := (Array.getElem?_eq_some_iff.1 hbk).1
  have HK := Lib.hid (And.intro hbk (And.intro hne (And.intro hB hlt))); have HO := Lib.hid hown; have HB := Lib.hid hb1
  clear hbk hne hB hlt hown hb1 HC
  go_wp2_with (at_builtin; refine Lib.wpList_append_own_stringF _ rfl _ _ 53 9 rfl base 5 _ Try.underlying53 Try.underlying9 HI.out.1 HI.out.2.1 HI.out.2.2.1 HI.out.2.2.2 _ _ _ rfl HO.out s rfl ?c3 ?c4 ?c5 ?_)
  case c3 => rw [Lib.byteCells_length]; have := HL.out; unfold maxLen; omega
  case c4 => rw [Lib.byteCells_length]; exact HL.out
  case c5 => exact Nat.le_trans HZ.out HB.out.size
  intro v' w2 hown' hgrow _
  have hbk2 : w2.heap[b]? = some (.cells #[.pointer (some ⟨b, 0, none⟩), v] 55 (0, 0)) := by
    rw [hgrow.block b HK.out.2.2.2 (fun e => HK.out.2.1 e.symm)]
    exact HK.out.1
  have d1 : w2.cell? ⟨b, 1, none⟩ = some v := by rw [Lib.cell_of_heap hbk2]; rfl
  have f1 : w2.frozen? ⟨b, 1, none⟩ = false := Lib.frozen_of_heap hbk2 1
  obtain ⟨ao, n', cap, rfl⟩ : ∃ ao n' cap, v' = .slice ao n' cap := by
    rcases hown'.2 with ⟨hv, -⟩ | ⟨g, cap, cur, fz, hv, -⟩
    · exact ⟨_, _, _, hv⟩
    · exact ⟨_, _, _, hv⟩
  have hgr := HB.out.grown hgrow (Nat.le_trans HZ.out HB.out.size) (fun k hk => (HO.out.lt k hk).1)
  have hput : Bld base b (l ++ bl s) (w2.setCell ⟨b, 1, none⟩ (.slice ao n' cap)) := by
    refine .inr ?_
    rw [Lib.byteCells_append]
    exact Lib.BuilderAtF.put HK.out.2.2.1 hbk2 (bs' := Lib.byteCells l ++ Lib.strCells s) (by simpa [Lib.strCells_length] using hown') neBu
  have HP := Lib.hid hput; have HG := Lib.hid (hgr.setCell (p := ⟨b, 1, none⟩) HK.out.2.2.1 (.slice ao n' cap))
  clear hown' hgrow hbk2 hgr hput HO HB HK HL HZ HI c1
  go_wp2_with fail
  go_ret2
  exact ⟨rfl, HP.out, HG.out⟩
theorem builder_text (base b : Nat) (l : List UInt8) (w : World) (h : Bld base b l w) (hbase : base ≤ w.heap.size) :
    Calls Try.prog 28 #[.pointer (some ⟨b, 0, none⟩)] w fun e w' => e = .returned (.string (strL l)) ∧ Below base w w' := by
  refine (Try.Builder_String_any_k base b l w h hbase).mono ?_
  rintro e w' ⟨rfl, -, h2, -⟩
  exact ⟨rfl, h2⟩
end Go.Proofs.Ytimijdmigdlhfaa