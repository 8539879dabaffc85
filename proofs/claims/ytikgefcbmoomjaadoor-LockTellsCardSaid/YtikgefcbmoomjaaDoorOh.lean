/- What was locked, or tagged again, is opened; the contracts of the law's cut and alive, for lock. -/
import Derived.Test.YtikgefcbmoomjaaDoorOf
namespace Go.Proofs.YtikgefcbmoomjaaDoor
open Go.RowKit Go.Sort
set_option maxRecDepth 100000
/-- whoever has the key that tags can have any bytes be opened -/
theorem open_again (k h : ByteArray) (b : List UInt8) (hk : k.size = 32) (hh : h.size ≤ 1024) (hb : b.length ≤ 1024) (w : World) (hF : FirstAt w) (hK : KeysAt w) :
    Calls Tryd.prog 16 #[.string k, .string h, .string (strL (againL (tagkL (bl k)) (bl h) b))] w fun e w' => e = .returned (.tuple #[.string (strL (xorC (hideL (bl k)) (nonL (bl k)) b)), .int .i64 0]) ∧ Below w.heap.size w w' := by
  obtain ⟨x, ex⟩ : ∃ x, strL (againL (tagkL (bl k)) (bl h) b) = x := ⟨_, rfl⟩
  have hbx : bl x = againL (tagkL (bl k)) (bl h) b := by rw [← ex, bl_strL]
  have hxs : x.size = b.length + 32 := by rw [← bl_length, hbx, againL_length]
  have h1 : (bl x).take (x.size - 32) = b := by rw [hbx, hxs, Nat.add_sub_cancel]; exact List.take_left
  have h2 : (bl x).drop (x.size - 32) = tagOfL (tagkL (bl k)) (bl h) b := by rw [hbx, hxs, Nat.add_sub_cancel]; exact List.drop_left
  have := Open_good k h x hk hh (by omega) (by rw [h1, h2]) w hF hK
  rw [h1] at this
  rw [ex]
  exact this
/-- what is locked is opened as it was -/
theorem open_locked (k h x : ByteArray) (hk : k.size = 32) (hh : h.size ≤ 1024) (hx : x.size ≤ 1024) (w : World) (hF : FirstAt w) (hK : KeysAt w) :
    Calls Tryd.prog 16 #[.string k, .string h, .string (strL (lockL (bl k) (bl h) (bl x)))] w fun e w' => e = .returned (.tuple #[.string x, .int .i64 0]) ∧ Below w.heap.size w w' := by
  have := open_again k h (xorC (hideL (bl k)) (nonL (bl k)) (bl x)) hk hh (by rw [xorC_length]; exact hx) w hF hK
  rw [xorC_twice, strL_bl] at this
  exact this
theorem lockL_length (k h x : List UInt8) : (lockL k h x).length = x.length + 32 := by unfold lockL; rw [againL_length, xorC_length]

/-- a text cut, or, if it is long, as it is -/
def cut6 (x : ByteArray) (m : Nat) : ByteArray := if 1000 < x.size then x else cutS x m
theorem cut6_size (x : ByteArray) (m : Nat) (hx : x.size ≤ maxLen) (hm : m ≤ 1000) : (cut6 x m).size ≤ maxLen := by
  unfold cut6
  split
  · exact hx
  · have := cutS_size x m
    unfold maxLen
    omega
set_option maxHeartbeats 400000 in
theorem cut6_any (x : ByteArray) (hx : x.size ≤ maxLen) (m : Nat) (_hm : m ≤ 1000) (w : World) :
    Calls Tryd.prog 6 #[.string x, .int .i64 (m : Int)] w fun e w' => e = .returned (.string (cut6 x m)) ∧ w = w' := by
  unfold maxLen at hx
  unfold cut6
  by_cases h : 1000 < x.size
  · have l : (1000 : Int) < (x.size : Int) := by omega
    rw [if_pos h]
    clear h
    go_enter Tryd.func6, Tryd.ntmps6
    go_wp2
    go_ret
    exact ⟨rfl, rfl⟩
  · have l : ¬ (1000 : Int) < (x.size : Int) := by omega
    rw [if_neg h]
    have hc := cut_min x m
    have HC := Lib.hid hc
    clear hc h
    go_enter Tryd.func6, Tryd.ntmps6
    go_wp2
    go_ret
    exact ⟨congrArg (fun z => Ending.returned (.string z)) HC.out, rfl⟩
/-- k[:min(len(k), 40)], laid for a drawn region -/
theorem cutk_run (k : ByteArray) (_hk : k.size ≤ maxLen) (W : World) : (Instr.slice 9 (.string k) none (some (.int .i64 (min (k.size : Int) 40))) none).run Tryd.prog W = .ok (.string (cutS k 40)) W := by
  have hc := cut_min k 40
  have l1 : min (k.size : Int) 40 ≤ (k.size : Int) := by omega
  have l0 : 0 ≤ min (k.size : Int) 40 := by omega

  rw [← hc]
  clear hc
  go_simp

def key6 : ByteArray := ⟨#[48, 49, 50, 51, 52, 53, 54, 55, 56, 57, 97, 98, 99, 100, 101, 102, 48, 49, 50, 51, 52, 53, 54, 55, 56, 57, 97, 98, 99, 100, 101, 102]⟩
def head6 : ByteArray := ⟨#[104]⟩
def text6 : ByteArray := ⟨#[104, 105]⟩
set_option maxHeartbeats 1000000 in
theorem alive6_any (w : World) (hF : FirstAt w) (hK : KeysAt w) :
    Calls Tryd.prog 13 #[] w fun e w' => e = .returned (.bool true) ∧ Below w.heap.size w w' := by
  have hl := Lock_good key6 head6 text6 (by decide) (by decide) (by decide) w hF hK
  have ho := fun W p q => open_locked key6 head6 text6 (by decide) (by decide) (by decide) W p q
  obtain ⟨S, eS⟩ : ∃ S, strL (lockL (bl key6) (bl head6) (bl text6)) = S := ⟨_, rfl⟩
  have hSs : S.size = 34 := by rw [← eS, strL_size, lockL_length]; rfl
  rw [eS] at hl ho
  unfold key6 head6 text6 at hl ho
  have HL := Lib.hid hl; have HO := Lib.hid ho; have HF := Lib.hid hF; have HK := Lib.hid hK
  have b0 : ((S.size : Int) == 34) = true := by rw [hSs]; rfl
  clear hl ho eS hSs hF hK
  go_enter Tryd.func13, Tryd.ntmps13
  go_wp2_with fail
  refine HL.out.mono ?_
  rintro e w1 ⟨rfl, hb1⟩
  have ho1 := HO.out w1 (HF.out.on hb1) (HK.out.on hb1)
  have HO1 := Lib.hid ho1; have HB1 := Lib.hid hb1
  clear HL HO HF HK ho1 hb1
  go_wp2_with fail
  refine HO1.out.mono ?_
  rintro e w2 ⟨rfl, hb2⟩
  have hb := HB1.out.trans (hb2.mono HB1.out.size)
  clear HO1 HB1 hb2
  go_wp2_with fail
  go_ret
  exact ⟨rfl, hb⟩
end Go.Proofs.YtikgefcbmoomjaaDoor