/- The contracts of derive's Expand and Split. -/
import Derived.Test.YtohoenkdfconpaaDoorFrow
import Derived.Test.YtohoenkdfconpaaDoorFjoin
namespace Go.Proofs.YtohoenkdfconpaaDoor
open Go.RowKit
set_option maxRecDepth 100000

theorem join_flat (l : List ByteArray) : Lib.join (l.map (·.data.toList)) [] = flat l := by
  induction l with
  | nil => rfl
  | cons x r ih =>
    cases r with
    | nil => simp [Lib.join, flat, bl]
    | cons y r =>
      rw [List.map_cons, List.map_cons] at *
      simp [Lib.join, flat, bl] at *
      exact ih

theorem join_any (g n cap : Nat) (l : List ByteArray) (hn : n = l.length) (hl : l.length ≤ 100000) (hf : (flat l).length ≤ 1000000) (hc : n ≤ cap) (w : World) (hv : StrsAt w (.slice (some ⟨g, 0, none⟩) n cap) l) :
    Calls Tryd.prog 37 #[.slice (some ⟨g, 0, none⟩) n cap, .string ⟨#[]⟩] w fun e w' => e = .returned (.string (strL (flat l))) ∧ Below w.heap.size w w' := by
  subst hn
  obtain ⟨b, o, c, e0, hb, hcl⟩ := hv
  obtain ⟨rfl, rfl, rfl⟩ : g = b ∧ 0 = o ∧ cap = c := by simpa [and_assoc] using e0
  have h := Tryd.strings_Join g 0 cap l ⟨#[]⟩ w (fun j x hx => by
    have hj := (List.getElem?_eq_some_iff.1 hx).1
    have := hcl j hj
    rw [this]
    simp [List.getD, hx]) hb (by omega) hc (by
      show (Lib.join (l.map (·.data.toList)) []).length ≤ _
      rw [join_flat]; omega)
  have e : (⟨(Lib.join (l.map (·.data.toList)) (⟨#[]⟩ : ByteArray).data.toList).toArray⟩ : ByteArray) = strL (flat l) := by
    show (⟨(Lib.join (l.map (·.data.toList)) []).toArray⟩ : ByteArray) = _
    rw [join_flat]; rfl
  rw [e] at h
  exact h

theorem flat_row (k wd : List UInt8) (n : Nat) : (flat (rowT k wd n)).length = 32 * n := by
  induction n with
  | zero => rfl
  | succ n ih =>
    unfold flat at *
    rw [rowT, List.flatMap_append, List.length_append, ih, List.flatMap_singleton, bl_strL, lastT]
    rw [show (tagL k (lastT k wd n ++ wd ++ [UInt8.ofNat (n + 1)])).length = 32 from ofL_length _]
    omega
/-- a secret expanded to m bytes -/
def expL (k wd : List UInt8) (m : Nat) : List UInt8 := (flat (rowT k wd ((m + 31) / 32))).take m
theorem expL_length (k wd : List UInt8) (m : Nat) : (expL k wd m).length = m := by
  unfold expL
  rw [List.length_take, flat_row]; omega

set_option maxHeartbeats 1000000 in
theorem expand_bad (k wd : ByteArray) (i : Int) (hi : i < 0 ∨ 8160 < i) (w : World) :
    Calls Tryd.prog 32 #[.string k, .string wd, .int .i64 i] w fun e w' => e = .returned (.tuple #[.string ⟨#[]⟩, .int .i64 2]) ∧ w = w' := by
  by_cases h0 : i < 0
  · go_enter Tryd.func32, Tryd.ntmps32
    go_wp2
    go_ret2
    exact ⟨rfl, rfl⟩
  · have h1 : 8160 < i := by omega
    have b0 : decide (i < 0) = false := by simpa using h0
    have b1 : decide (8160 < i) = true := by simpa using h1
    go_enter Tryd.func32, Tryd.ntmps32
    go_wp2
    go_ret2
    exact ⟨rfl, rfl⟩
set_option maxHeartbeats 1000000 in
theorem split_bad (k wd : ByteArray) (i : Int) (hi : i < 0 ∨ 255 < i) (w : World) :
    Calls Tryd.prog 33 #[.string k, .string wd, .int .i64 i] w fun e w' => e = .returned (.tuple #[.slice none 0 0, .int .i64 2]) ∧ w = w' := by
  by_cases h0 : i < 0
  · go_enter Tryd.func33, Tryd.ntmps33
    go_wp2
    go_ret2
    exact ⟨rfl, rfl⟩
  · have h1 : 255 < i := by omega
    have b0 : decide (i < 0) = false := by simpa using h0
    have b1 : decide (255 < i) = true := by simpa using h1
    go_enter Tryd.func33, Tryd.ntmps33
    go_wp2
    go_ret2
    exact ⟨rfl, rfl⟩
set_option maxHeartbeats 1000000 in
theorem split_good (k wd : ByteArray) (n : Nat) (hk : k.size ≤ 1000000) (hwd : wd.size ≤ 80000) (hn : n ≤ 255) (w : World) (hF : FirstAt w) (hK : KeysAt w) :
    Calls Tryd.prog 33 #[.string k, .string wd, .int .i64 (n : Int)] w fun e w' => ∃ g cap, e = .returned (.tuple #[.slice (some ⟨g, 0, none⟩) n cap, .int .i64 0]) ∧ StrsAt w' (.slice (some ⟨g, 0, none⟩) n cap) (rowT (bl k) (bl wd) n) ∧ n ≤ cap ∧ Below w.heap.size w w' := by
  have HR := Lib.hid (row_any k wd n hk hwd hn w hF hK)
  have b0 : decide ((n : Int) < 0) = false := by simp
  have b1 : decide (255 < (n : Int)) = false := by simp; omega
  go_enter Tryd.func33, Tryd.ntmps33
  go_wp2_with fail
  refine HR.out.mono ?_
  rintro e w1 ⟨g, cap, rfl, hs, hc, hb⟩
  have HS := Lib.hid hs
  clear HR hs
  go_wp2_with fail
  go_ret2
  exact ⟨g, cap, rfl, HS.out, hc, hb⟩
set_option maxHeartbeats 1000000 in
theorem expand_good (k wd : ByteArray) (m : Nat) (hk : k.size ≤ 1000000) (hwd : wd.size ≤ 80000) (hm : m ≤ 8160) (w : World) (hF : FirstAt w) (hK : KeysAt w) :
    Calls Tryd.prog 32 #[.string k, .string wd, .int .i64 (m : Int)] w fun e w' => e = .returned (.tuple #[.string (strL (expL (bl k) (bl wd) m)), .int .i64 0]) ∧ Below w.heap.size w w' := by
  obtain ⟨n, hn⟩ : ∃ n, (m + 31) / 32 = n := ⟨_, rfl⟩
  have HR := Lib.hid (row_any k wd n hk hwd (by omega) w hF hK)
  have b0 : decide ((m : Int) < 0) = false := by simp
  have b1 : decide (8160 < (m : Int)) = false := by simp; omega
  have w1 : IntKind.i64.wrap ((m : Int) + 32) = (m : Int) + 32 := IntWalk.i64_in _ (by omega)
  have w2 : IntKind.i64.wrap ((m : Int) + 32 - 1) = (m : Int) + 32 - 1 := IntWalk.i64_in _ (by omega)
  have q1 : ((m : Int) + 32 - 1).tdiv 32 = (n : Int) := by rw [Int.tdiv_eq_ediv_of_nonneg (by omega)]; omega
  have q2 : ((m : Int) + 32 - 1) / 32 = (n : Int) := by omega
  go_enter Tryd.func32, Tryd.ntmps32
  go_wp2_with fail
  refine HR.out.mono ?_
  rintro e w3 ⟨g, cap, rfl, hs, hc, hb⟩
  have hfl := flat_row (bl k) (bl wd) n
  have hrl := rowT_length (bl k) (bl wd) n
  have hj : Calls Tryd.prog 37 #[.slice (some ⟨g, 0, none⟩) n cap, .string ⟨#[]⟩] w3 fun e w' => e = .returned (.string (strL (flat (rowT (bl k) (bl wd) n)))) ∧ Below w3.heap.size w3 w' :=
    join_any g n cap _ hrl.symm (by omega) (by omega) hc w3 hs
  obtain ⟨J, hJ⟩ : ∃ J, strL (flat (rowT (bl k) (bl wd) n)) = J := ⟨_, rfl⟩
  have hJs : J.size = 32 * n := by rw [← hJ, strL_size, hfl]
  obtain ⟨p, hp⟩ : ∃ p, J.extract 0 m = p := ⟨_, rfl⟩
  have hfin : strL (expL (bl k) (bl wd) m) = p := by
    refine bl_inj ?_
    rw [bl_strL, ← hp, bl_extract, List.drop_zero, ← hJ, bl_strL, ← hn]; rfl
  rw [hJ] at hj
  have l1 : (m : Int) ≤ (J.size : Int) := by omega
  have hsl : ∀ W : World, (Instr.slice 9 (.string J) none (some (.int .i64 (m : Int))) none).run Tryd.prog W = .ok (.string p) W := by
    clear hJs hfin hfl hrl; intro W; rw [← hp]; go_simp
  have HJ := Lib.hid hj; have HFIN := Lib.hid hfin
  clear HR hs hj hJ hfl hrl hp hfin w1 w2 q1 q2 hn hJs hF hK
  go_wp2_with fail
  refine HJ.out.mono ?_
  rintro e w4 ⟨rfl, hb4⟩
  have hend := hb.trans (hb4.mono hb.size)
  clear HJ hb hb4
  go_wp2_with fail
  go_ret2
  exact ⟨by rw [HFIN.out]; rfl, hend⟩
end Go.Proofs.YtohoenkdfconpaaDoor
