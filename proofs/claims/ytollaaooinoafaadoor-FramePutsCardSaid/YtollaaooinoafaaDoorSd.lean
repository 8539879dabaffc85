/- The reference's Put: a frame's bytes. -/
import Derived.Test.YtollaaooinoafaaDoorSc
namespace Go.Proofs.YtollaaooinoafaaDoor
open Go.RowKit Go.Sort
set_option maxRecDepth 100000
theorem headF_le (f : Fr) (hf : FrSz f) (hok : FrOk f) : (headF f).length ≤ 4000 := by
  have h1 := numB_le9 f.frm hok.frm; have h2 := numB_le9 f.dst hok.dst; have h3 := numB_le9 f.id hok.id; have h4 := numB_le9 f.signed hok.signed; have h5 := numB_le9 f.once hok.once; have h6 := numB_le9 f.prev hok.prev; have h7 := numB_le9 f.num hok.num
  have t1 := tp_le f.ident hf.ident; have t2 := tp_le f.base hf.base; have t3 := tp_le f.ratchet hf.ratchet
  have k0 := numB_le9 f.kind.toNat (by rcases hf.kind with h | h | h <;> rw [h] <;> decide)
  have e1 : ∀ n, partB (np n) = numB n := fun _ => rfl
  rcases hf.kind with h | h | h <;> rw [h] at k0 <;> unfold headF headP <;> rw [h] <;> simp [packL, e1] <;> simp at k0 <;> omega
theorem keysB_le (l : List ByteArray) (h : ∀ k ∈ l, k.size ≤ 1024) : (packL (l.map tp)).length ≤ 1033 * l.length := by
  induction l with
  | nil => simp [packL]
  | cons x l ih =>
    have h1 := tp_le x (h x (by simp))
    have h2 := ih (fun k hk => h k (by simp [hk]))
    unfold packL at h2 ⊢
    rw [List.map_cons, List.flatMap_cons, List.length_append, List.length_cons]
    omega
theorem packL_app (a b : List Pt) : packL (a ++ b) = packL a ++ packL b := by unfold packL; rw [List.flatMap_append]
theorem packL_cons' (p : Pt) (l : List Pt) : packL (p :: l) = partB p ++ packL l := by unfold packL; rw [List.flatMap_cons]
def PutRel (w : World) (f : Fr) (o i : Value) (wr : World) : Prop :=
  ∃ k : Nat, k ≤ f.keys.length ∧ i = .int .i64 (k : Int) ∧ o = .string (strL (headF f ++ (numB f.keys.length ++ packL ((f.keys.map tp).take k)))) ∧ Below w.heap.size w wr
theorem keys_step (l : List ByteArray) (k : Nat) (h : k < l.length) : packL ((l.map tp).take (k + 1)) = packL ((l.map tp).take k) ++ partB (tp (l.getD k ⟨#[]⟩)) := by
  rw [List.take_succ_eq_append_getElem (by simpa using h), packL_app]
  simp [packL, List.getD, h]
theorem headF_lt (f : Fr) (h : f.kind < 2) : putF f = headF f ++ partB (tp f.body) := by
  unfold putF allP; rw [if_pos h, packL_app, packL_one]; rfl
theorem headF_ge (f : Fr) (h : ¬ f.kind < 2) : putF f = headF f ++ (numB f.keys.length ++ packL (f.keys.map tp)) := by
  unfold putF allP; rw [if_neg h, packL_app, packL_cons']; rfl
set_option maxHeartbeats 8000000 in
theorem r8Put_any (f : Fr) (a : Option Addr) (c : Nat) (hr : rightF f = true) (hok : FrOk f) (w : World) (hp : SSl w a f.keys) :
    Calls Tryd.prog 14 #[frV f a c] w fun e w' => e = .returned (.string (strL (putF f))) ∧ Below w.heap.size w w' := by
  have hf := right_sz f hr
  have hB0 : Below w.heap.size w (w.alloc (.cells (frC f a c) 25)) := (Below.refl _ _).alloc (Nat.le_refl _) _
  have hx := frBox w f a c 25
  have hH := fun W => r8Head_any f a c hf hok W
  have hT := fun W => r8text_any f.body hf.body W
  have hlen := headF_le f hf hok
  unfold frV at hH ⊢
  simp only [frC] at hB0 hx hH ⊢
  obtain ⟨B, eB⟩ : ∃ B, w.heap.size = B := ⟨_, rfl⟩
  rw [eB] at hx
  have HB := Lib.hid hB0; have HX := Lib.hid hx; have HH := Lib.hid hH; have HT := Lib.hid hT; have HP := Lib.hid hp; have HF := Lib.hid hf
  clear hB0 hx hH hT hp hok hr hf
  by_cases hk : f.kind < 2
  · rw [headF_lt f hk]
    have HLEN := Lib.hid (And.intro hlen (tp_le f.body HF.out.body))
    clear hlen HP
    go_enter Tryd.func14, Tryd.ntmps14
    go_upto_region 1 with fail
    clear eB
    generalize World.alloc w _ = V at HB HX ⊢
    have z0 : V.cell? ⟨B, 0, none⟩ = some (.int .i64 f.kind) := by rw [cell_of_row _ _ _ _ _ _ HX.out]; rfl
    go_upto_region 2 with fail
    clear z0
    have q0 := cell_regrown (show V.cell? ⟨B, 0, none⟩ = some (.int .i64 f.kind) by rw [cell_of_row _ _ _ _ _ _ HX.out]; rfl)
    have q1 := cell_regrown (show V.cell? ⟨B, 1, none⟩ = some (.int .u64 (f.frm : Int)) by rw [cell_of_row _ _ _ _ _ _ HX.out]; rfl)
    have q2 := cell_regrown (show V.cell? ⟨B, 2, none⟩ = some (.int .u64 (f.dst : Int)) by rw [cell_of_row _ _ _ _ _ _ HX.out]; rfl)
    have q3 := cell_regrown (show V.cell? ⟨B, 3, none⟩ = some (.int .u64 (f.id : Int)) by rw [cell_of_row _ _ _ _ _ _ HX.out]; rfl)
    have q4 := cell_regrown (show V.cell? ⟨B, 4, none⟩ = some (.string f.ident) by rw [cell_of_row _ _ _ _ _ _ HX.out]; rfl)
    have q5 := cell_regrown (show V.cell? ⟨B, 5, none⟩ = some (.string f.base) by rw [cell_of_row _ _ _ _ _ _ HX.out]; rfl)
    have q6 := cell_regrown (show V.cell? ⟨B, 6, none⟩ = some (.int .u64 (f.signed : Int)) by rw [cell_of_row _ _ _ _ _ _ HX.out]; rfl)
    have q7 := cell_regrown (show V.cell? ⟨B, 7, none⟩ = some (.int .u64 (f.once : Int)) by rw [cell_of_row _ _ _ _ _ _ HX.out]; rfl)
    have q8 := cell_regrown (show V.cell? ⟨B, 8, none⟩ = some (.string f.ratchet) by rw [cell_of_row _ _ _ _ _ _ HX.out]; rfl)
    have q9 := cell_regrown (show V.cell? ⟨B, 9, none⟩ = some (.int .u64 (f.prev : Int)) by rw [cell_of_row _ _ _ _ _ _ HX.out]; rfl)
    have q10 := cell_regrown (show V.cell? ⟨B, 10, none⟩ = some (.int .u64 (f.num : Int)) by rw [cell_of_row _ _ _ _ _ _ HX.out]; rfl)
    have q11 := cell_regrown (show V.cell? ⟨B, 11, none⟩ = some (.string f.body) by rw [cell_of_row _ _ _ _ _ _ HX.out]; rfl)
    have q12 := cell_regrown (show V.cell? ⟨B, 12, none⟩ = some (.slice a f.keys.length c) by rw [cell_of_row _ _ _ _ _ _ HX.out]; rfl)
    obtain ⟨u0, m0⟩ := cat_run (headF f) (partB (tp f.body)) (by have := HLEN.out; omega)
    refine wp_region_quiet_below (by kernel_rfl) (by kernel_rfl) ?_
    iterate 7 (quiet_step (first | (go_at_call 15; exact Calls.regrown_of (HH.out _)) | (go_at_call 26; exact Calls.regrown_of (HT.out _))))
    refine wpQuiet_nil ?_
    intro _ hw'
    obtain ⟨⟨dq, osq⟩, hw''⟩ := hw'
    subst hw''
    have hrg := below_regrown V dq osq
    have HB' := Lib.hid (HB.out.trans (hrg.mono HB.out.size))
    clear hrg HX HB u0 m0 q0 q1 q2 q3 q4 q5 q6 q7 q8 q9 q10 q11 q12 HH HT HF HLEN
    have HB := HB'
    clear HB'
    generalize grow (redrawn V dq) osq = V1 at HB ⊢
    go_wp2_with fail
    go_ret
    exact ⟨rfl, HB.out⟩
  · rw [headF_ge f hk]
    have HLEN := Lib.hid (And.intro hlen (numB_le9 f.keys.length (by have := HF.out.klen; omega)))
    have hN := fun W => rNumber_any f.keys.length (by have := HF.out.klen; omega) W
    have hw9 : IntKind.u64.wrap (f.keys.length : Int) = (f.keys.length : Int) := by rw [IntKind.wrap_u64]; have := HF.out.klen; omega
    have HN := Lib.hid hN; have HW := Lib.hid hw9
    clear hlen hN hw9 HT
    go_enter Tryd.func14, Tryd.ntmps14
    go_upto_region 1 with fail
    clear eB
    generalize World.alloc w _ = V at HB HX ⊢
    have z0 : V.cell? ⟨B, 0, none⟩ = some (.int .i64 f.kind) := by rw [cell_of_row _ _ _ _ _ _ HX.out]; rfl
    go_upto_region 3 with fail
    clear z0
    have q0 := cell_regrown (show V.cell? ⟨B, 0, none⟩ = some (.int .i64 f.kind) by rw [cell_of_row _ _ _ _ _ _ HX.out]; rfl)
    have q1 := cell_regrown (show V.cell? ⟨B, 1, none⟩ = some (.int .u64 (f.frm : Int)) by rw [cell_of_row _ _ _ _ _ _ HX.out]; rfl)
    have q2 := cell_regrown (show V.cell? ⟨B, 2, none⟩ = some (.int .u64 (f.dst : Int)) by rw [cell_of_row _ _ _ _ _ _ HX.out]; rfl)
    have q3 := cell_regrown (show V.cell? ⟨B, 3, none⟩ = some (.int .u64 (f.id : Int)) by rw [cell_of_row _ _ _ _ _ _ HX.out]; rfl)
    have q4 := cell_regrown (show V.cell? ⟨B, 4, none⟩ = some (.string f.ident) by rw [cell_of_row _ _ _ _ _ _ HX.out]; rfl)
    have q5 := cell_regrown (show V.cell? ⟨B, 5, none⟩ = some (.string f.base) by rw [cell_of_row _ _ _ _ _ _ HX.out]; rfl)
    have q6 := cell_regrown (show V.cell? ⟨B, 6, none⟩ = some (.int .u64 (f.signed : Int)) by rw [cell_of_row _ _ _ _ _ _ HX.out]; rfl)
    have q7 := cell_regrown (show V.cell? ⟨B, 7, none⟩ = some (.int .u64 (f.once : Int)) by rw [cell_of_row _ _ _ _ _ _ HX.out]; rfl)
    have q8 := cell_regrown (show V.cell? ⟨B, 8, none⟩ = some (.string f.ratchet) by rw [cell_of_row _ _ _ _ _ _ HX.out]; rfl)
    have q9 := cell_regrown (show V.cell? ⟨B, 9, none⟩ = some (.int .u64 (f.prev : Int)) by rw [cell_of_row _ _ _ _ _ _ HX.out]; rfl)
    have q10 := cell_regrown (show V.cell? ⟨B, 10, none⟩ = some (.int .u64 (f.num : Int)) by rw [cell_of_row _ _ _ _ _ _ HX.out]; rfl)
    have q11 := cell_regrown (show V.cell? ⟨B, 11, none⟩ = some (.string f.body) by rw [cell_of_row _ _ _ _ _ _ HX.out]; rfl)
    have q12 := cell_regrown (show V.cell? ⟨B, 12, none⟩ = some (.slice a f.keys.length c) by rw [cell_of_row _ _ _ _ _ _ HX.out]; rfl)
    have hw9 := HW.out
    obtain ⟨u0, m0⟩ := cat_run (headF f) (numB f.keys.length) (by have := HLEN.out; omega)
    refine wp_region_quiet_below (by kernel_rfl) (by kernel_rfl) ?_
    iterate 9 (quiet_step (first | (go_at_call 15; exact Calls.regrown_of (HH.out _)) | (go_at_call 27; exact Calls.regrown_of (HN.out _))))
    refine wpQuiet_nil ?_
    intro _ hw'
    obtain ⟨⟨dq, osq⟩, hw''⟩ := hw'
    subst hw''
    have hrg := below_regrown V dq osq
    have HX' := Lib.hid ((hrg.block B (Array.getElem?_eq_some_iff.1 HX.out).1).trans HX.out)
    have HB' := Lib.hid (HB.out.trans (hrg.mono HB.out.size))
    clear hrg HX HB u0 m0 q0 q1 q2 q3 q4 q5 q6 q7 q8 q9 q10 q11 q12 hw9 HW HN HH
    have HX := HX'
    have HB := HB'
    clear HX' HB'
    generalize grow (redrawn V dq) osq = V1 at HB HX ⊢
    have z0 : V1.cell? ⟨B, 12, none⟩ = some (.slice a f.keys.length c) := by rw [cell_of_row _ _ _ _ _ _ HX.out]; rfl
    clear HX
    go_wp2_with fail
    clear z0
    go_loopw [3, 26] (PutRel w f) (fun _ i _ => f.keys.length - (intOf i).toNat)
    case atStart => exact ⟨0, Nat.zero_le _, rfl, by simp [packL], HB.out⟩
    case round =>
      clear HB
      obtain ⟨k, hk1, rfl, rfl, hB⟩ := hrel
      by_cases hlt : k < f.keys.length
      · have h1 : (k : Int) < (f.keys.length : Int) := by omega
        have h1k : (k : Int) < 1000 := by have := HF.out.klen; omega
        obtain ⟨b, off, rfl, hbl, hc⟩ := (HP.out.on hB) (by omega)
        have hcell := hc k hlt
        have hst := keys_step f.keys k hlt
        have hx : (f.keys.getD k ⟨#[]⟩).size ≤ 1024 := HF.out.kall _ (by simp [List.getD, hlt])
        have hle := keysB_le (f.keys.take k) (fun x h => HF.out.kall x (List.mem_of_mem_take h))
        rw [List.length_take, List.map_take] at hle
        obtain ⟨x, ex⟩ : ∃ x, f.keys.getD k ⟨#[]⟩ = x := ⟨_, rfl⟩
        rw [ex] at hcell hst hx
        obtain ⟨u0, m0⟩ := cat_run (headF f ++ (numB f.keys.length ++ packL ((f.keys.map tp).take k))) (partB (tp x)) (by simp only [List.length_append]; have := HLEN.out; have := tp_le x hx; have := HF.out.klen; omega)
        have hT := fun W => r8text_any x hx W
        have HB := Lib.hid hB; have HT := Lib.hid hT; have HST := Lib.hid hst
        clear hc hB hT hst hle ex hx hbl
        go_wp2_with fail
        refine (HT.out _).mono ?_
        rintro e w1 ⟨rfl, hb⟩
        have HB1 := Lib.hid (HB.out.trans (hb.mono HB.out.size))
        clear hcell hb HB HT
        go_wp2_with fail
        refine ⟨⟨k + 1, by omega, by simp, ?_, HB1.out⟩, by simp [intOf]; omega⟩
        rw [HST.out]
      · obtain rfl : k = f.keys.length := by omega
        have HB := Lib.hid hB
        clear hB
        have hn : ¬ (f.keys.length : Int) < (f.keys.length : Int) := by omega
        go_wp2_with fail
        go_ret
        rw [List.take_of_length_le (by simp)]
        exact ⟨rfl, HB.out⟩
end Go.Proofs.YtollaaooinoafaaDoor