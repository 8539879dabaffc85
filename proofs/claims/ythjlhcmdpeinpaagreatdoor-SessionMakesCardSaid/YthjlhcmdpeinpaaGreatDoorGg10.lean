/- The texts Lstep, Lclimb, Mrow, one behind the other. -/
import Derived.Test.YthjlhcmdpeinpaaGreatDoorGg9
import Derived.Deep.QuietTactic
import Derived.Test.YthjlhcmdpeinpaaGreatDoorGg8
/- One step of the ladder. -/
namespace Go.Proofs.YthjlhcmdpeinpaaGreatDoor
set_option maxRecDepth 100000
open Go.RowKit Go.Sort
set_option maxHeartbeats 4000000 in
theorem step_any {u x2 z2 x3 z3 : Int} (hu : Rd u) (h2 : Rd x2) (h2' : Rd z2) (h3 : Rd x3) (h3' : Rd z3) (w : World) (hP : PrimeAt w) :
    Calls Tryz.prog 130 #[.agg #[.string (leStr u), .string (leStr x2), .string (leStr z2), .string (leStr x3), .string (leStr z3)]] w fun e w' =>
      e = .returned (.agg #[.string (leStr u), .string (leStr (nX2 x2 z2)), .string (leStr (nZ2 x2 z2)), .string (leStr (nX3 x2 z2 x3 z3)), .string (leStr (nZ3 u x2 z2 x3 z3))]) ∧ Below w.heap.size w w' := by
  have lb := hP.lt
  go_enter Tryz.func130, Tryz.ntmps130
  go_wp2_with fail
  have hI := (Row5.fresh w (leStr u) (leStr x2) (leStr z2) (leStr x3) (leStr z3) 172).alloc (.cells #[.string ⟨#[]⟩, .string ⟨#[]⟩, .string ⟨#[]⟩, .string ⟨#[]⟩, .string ⟨#[]⟩] 172)
  have hO := Row5.fresh_at (w.alloc (.cells #[.string (leStr u), .string (leStr x2), .string (leStr z2), .string (leStr x3), .string (leStr z3)] 172)) ⟨#[]⟩ ⟨#[]⟩ ⟨#[]⟩ ⟨#[]⟩ ⟨#[]⟩ 172 (w.heap.size + 1) (by simp)
  have hB : Below w.heap.size w ((w.alloc (.cells #[.string (leStr u), .string (leStr x2), .string (leStr z2), .string (leStr x3), .string (leStr z3)] 172)).alloc (.cells #[.string ⟨#[]⟩, .string ⟨#[]⟩, .string ⟨#[]⟩, .string ⟨#[]⟩, .string ⟨#[]⟩] 172)) := by go_grown
  generalize World.alloc (World.alloc w _) _ = W at hI hO hB ⊢
  have hPW := hP.below hB lb
  have c1 := cell_regrown hI.1.2.1
  have c2 := cell_regrown hI.1.2.2.1
  have p1 := gplus hPW h2 h2'
  have p2 := gminus hPW h2 h2'
  obtain ⟨a, ra, ea⟩ : ∃ a, Rd a ∧ (x2 + z2) % Pr = a := ⟨_, Rd.mod _, rfl⟩
  obtain ⟨b, rb, eb⟩ : ∃ b, Rd b ∧ (x2 - z2) % Pr = b := ⟨_, Rd.mod _, rfl⟩
  rw [ea] at p1
  rw [eb] at p2
  have P1 := Lib.hid p1; have P2 := Lib.hid p2
  clear p1 p2
  refine wp_region_quiet_below (by kernel_rfl) (by kernel_rfl) ?_
  repeat (quiet_step (first | (go_at_call 161; exact P1.out _ _) | (go_at_call 162; exact P2.out _ _)))
  refine wpQuiet_nil ?_
  intro _ hw'
  obtain ⟨⟨dq, osq⟩, hw''⟩ := hw'
  subst hw''
  have hb := below_regrown W dq osq
  have hI' := hI.on hb
  have hO' := hO.on hb
  have hB' := hB.trans (hb.mono hB.size)
  clear hI hO hB hb
  generalize grow (redrawn W dq) osq = W1 at hI' hO' hB' ⊢
  have hI := hI'; have hO := hO'; have hB := hB'
  clear hI' hO' hB'
  have d1 := cell_regrown hI.1.2.2.2.1
  have d2 := cell_regrown hI.1.2.2.2.2
  have p1 := gplus (hP.below hB lb) h3 h3'
  have p2 := gminus (hP.below hB lb) h3 h3'
  obtain ⟨c, rc, ec⟩ : ∃ a, Rd a ∧ (x3 + z3) % Pr = a := ⟨_, Rd.mod _, rfl⟩
  obtain ⟨d, rd, ed⟩ : ∃ b, Rd b ∧ (x3 - z3) % Pr = b := ⟨_, Rd.mod _, rfl⟩
  rw [ec] at p1
  rw [ed] at p2
  have P1 := Lib.hid p1; have P2 := Lib.hid p2
  clear p1 p2 hPW c1 c2
  go_wp2_with fail
  refine wp_region_quiet_below (by kernel_rfl) (by kernel_rfl) ?_
  repeat (quiet_step (first | (go_at_call 161; exact P1.out _ _) | (go_at_call 162; exact P2.out _ _)))
  refine wpQuiet_nil ?_
  intro _ hw'
  obtain ⟨⟨dq, osq⟩, hw''⟩ := hw'
  subst hw''
  have hb := below_regrown W1 dq osq
  have hI' := hI.on hb
  have hO' := hO.on hb
  have hB' := hB.trans (hb.mono hB.size)
  clear hI hO hB hb
  generalize grow (redrawn W1 dq) osq = W2 at hI' hO' hB' ⊢
  have hI := hI'; have hO := hO'; have hB := hB'
  clear hI' hO' hB'
  clear d1 d2 P1 P2
  have q := lsquare ra W2 (hP.below hB lb)
  obtain ⟨aa, raa, eaa⟩ : ∃ z, Rd z ∧ (a * a) % Pr = z := ⟨_, Rd.mod _, rfl⟩
  rw [eaa] at q
  have Q := Lib.hid q
  clear q
  go_wp2_with fail
  refine Q.out.mono ?_
  rintro e W3 ⟨rfl, hb⟩
  have hI' := hI.on hb
  have hO' := hO.on hb
  have hB' := hB.trans (hb.mono hB.size)
  clear hI hO hB hb Q
  have hI := hI'; have hO := hO'; have hB := hB'
  clear hI' hO' hB'
  have q := lsquare rb W3 (hP.below hB lb)
  obtain ⟨bb, rbb, ebb⟩ : ∃ z, Rd z ∧ (b * b) % Pr = z := ⟨_, Rd.mod _, rfl⟩
  rw [ebb] at q
  have Q := Lib.hid q
  clear q
  go_wp2_with fail
  refine Q.out.mono ?_
  rintro e W4 ⟨rfl, hb⟩
  have hI' := hI.on hb
  have hO' := hO.on hb
  have hB' := hB.trans (hb.mono hB.size)
  clear hI hO hB hb Q
  have hI := hI'; have hO := hO'; have hB := hB'
  clear hI' hO' hB'
  have q := lminus raa rbb W4 (hP.below hB lb)
  obtain ⟨ee, ree, eee⟩ : ∃ z, Rd z ∧ (aa - bb) % Pr = z := ⟨_, Rd.mod _, rfl⟩
  rw [eee] at q
  have Q := Lib.hid q
  clear q
  go_wp2_with fail
  refine Q.out.mono ?_
  rintro e W5 ⟨rfl, hb⟩
  have hI' := hI.on hb
  have hO' := hO.on hb
  have hB' := hB.trans (hb.mono hB.size)
  clear hI hO hB hb Q
  have hI := hI'; have hO := hO'; have hB := hB'
  clear hI' hO' hB'
  have q := ltimes rd ra W5 (hP.below hB lb)
  obtain ⟨da, rda, eda⟩ : ∃ z, Rd z ∧ (d * a) % Pr = z := ⟨_, Rd.mod _, rfl⟩
  rw [eda] at q
  have Q := Lib.hid q
  clear q
  go_wp2_with fail
  refine Q.out.mono ?_
  rintro e W6 ⟨rfl, hb⟩
  have hI' := hI.on hb
  have hO' := hO.on hb
  have hB' := hB.trans (hb.mono hB.size)
  clear hI hO hB hb Q
  have hI := hI'; have hO := hO'; have hB := hB'
  clear hI' hO' hB'
  have q := ltimes rc rb W6 (hP.below hB lb)
  obtain ⟨cb, rcb, ecb⟩ : ∃ z, Rd z ∧ (c * b) % Pr = z := ⟨_, Rd.mod _, rfl⟩
  rw [ecb] at q
  have Q := Lib.hid q
  clear q
  go_wp2_with fail
  refine Q.out.mono ?_
  rintro e W7 ⟨rfl, hb⟩
  have hI' := hI.on hb
  have hO' := hO.on hb
  have hB' := hB.trans (hb.mono hB.size)
  clear hI hO hB hb Q
  have hI := hI'; have hO := hO'; have hB := hB'
  clear hI' hO' hB'
  go_wp2_with fail
  have hPW := hP.below hB lb
  have d0 := cell_regrown hI.1.1
  have q1 := gtimes hPW raa rbb
  obtain ⟨y1, ry1, ey1⟩ : ∃ z, Rd z ∧ (aa * bb) % Pr = z := ⟨_, Rd.mod _, rfl⟩
  rw [ey1] at q1
  have Q1 := Lib.hid q1
  clear q1
  have q2 := gtimes hPW ree (Rd.lit (n := 121665) (by omega) (by omega))
  obtain ⟨y2, ry2, ey2⟩ : ∃ z, Rd z ∧ (ee * 121665) % Pr = z := ⟨_, Rd.mod _, rfl⟩
  rw [ey2, ← fac_str] at q2
  have Q2 := Lib.hid q2
  clear q2
  have q3 := gplus hPW raa ry2
  obtain ⟨y3, ry3, ey3⟩ : ∃ z, Rd z ∧ (aa + y2) % Pr = z := ⟨_, Rd.mod _, rfl⟩
  rw [ey3] at q3
  have Q3 := Lib.hid q3
  clear q3
  have q4 := gtimes hPW ree ry3
  obtain ⟨y4, ry4, ey4⟩ : ∃ z, Rd z ∧ (ee * y3) % Pr = z := ⟨_, Rd.mod _, rfl⟩
  rw [ey4] at q4
  have Q4 := Lib.hid q4
  clear q4
  have q5 := gplus hPW rda rcb
  obtain ⟨y5, ry5, ey5⟩ : ∃ z, Rd z ∧ (da + cb) % Pr = z := ⟨_, Rd.mod _, rfl⟩
  rw [ey5] at q5
  have Q5 := Lib.hid q5
  clear q5
  have q6 := gsquare hPW ry5
  obtain ⟨y6, ry6, ey6⟩ : ∃ z, Rd z ∧ (y5 * y5) % Pr = z := ⟨_, Rd.mod _, rfl⟩
  rw [ey6] at q6
  have Q6 := Lib.hid q6
  clear q6
  have q7 := gminus hPW rda rcb
  obtain ⟨y7, ry7, ey7⟩ : ∃ z, Rd z ∧ (da - cb) % Pr = z := ⟨_, Rd.mod _, rfl⟩
  rw [ey7] at q7
  have Q7 := Lib.hid q7
  clear q7
  have q8 := gsquare hPW ry7
  obtain ⟨y8, ry8, ey8⟩ : ∃ z, Rd z ∧ (y7 * y7) % Pr = z := ⟨_, Rd.mod _, rfl⟩
  rw [ey8] at q8
  have Q8 := Lib.hid q8
  clear q8
  have q9 := gtimes hPW hu ry8
  obtain ⟨y9, ry9, ey9⟩ : ∃ z, Rd z ∧ (u * y8) % Pr = z := ⟨_, Rd.mod _, rfl⟩
  rw [ey9] at q9
  have Q9 := Lib.hid q9
  clear q9
  clear hPW
  refine wp_region_last_below 23 _ (by kernel_rfl) rfl rfl rfl rfl (by kernel_rfl) (by kernel_rfl) ?_
  simp only [List.take_succ_cons, List.take_zero]
  repeat (quiet_step (first | (go_at_call_of 164 (Value.string (leStr bb)); exact Q1.out _ _) | (go_at_call_of 164 (Value.string (leStr y3)); exact Q4.out _ _) | (go_at_call_of 164 (Value.string (leStr y8)); exact Q9.out _ _) | (go_at_call_of 161 (Value.string (leStr y2)); exact Q3.out _ _) | (go_at_call_of 161 (Value.string (leStr cb)); exact Q5.out _ _) | (go_at_call_of 162 (Value.string (leStr cb)); exact Q7.out _ _) | (go_at_call_of 163 (Value.string (leStr y5)); exact Q6.out _ _) | (go_at_call_of 163 (Value.string (leStr y7)); exact Q8.out _ _) | (go_at_call_of 164 (Value.string (leStr ee)); exact Q2.out _ _)))
  refine wpQuiet_nil ?_
  intro _ hw'
  obtain ⟨⟨dq, osq⟩, hw''⟩ := hw'
  subst hw''
  have hb := below_regrown W7 dq osq
  have hO' := hO.on hb
  have hB' := hB.trans (hb.mono hB.size)
  clear hI hO hB hb d0 Q1 Q2 Q3 Q4 Q5 Q6 Q7 Q8 Q9
  generalize grow (redrawn W7 dq) osq = W8 at hO' hB' ⊢
  have hlt := hO'.lt
  obtain ⟨⟨o0, o1, o2, o3, o4⟩, ⟨f0, f1, f2, f3, f4⟩⟩ := id hO'
  have hS := hO'.set (leStr u) (leStr y1) (leStr y4) (leStr y6) (leStr y9)
  have hBS := below_set5 hB' (B := w.heap.size + 1) (by omega) (.string (leStr u)) (.string (leStr y1)) (.string (leStr y4)) (.string (leStr y6)) (.string (leStr y9))
  go_wp2_with fail
  clear hO' o0 o1 o2 o3 o4 f0 f1 f2 f3 f4
  generalize World.setCell (World.setCell (World.setCell (World.setCell (World.setCell W8 _ _) _ _) _ _) _ _) _ _ = W9 at hS hBS ⊢
  obtain ⟨⟨o0, o1, o2, o3, o4⟩, -⟩ := id hS
  refine bodyPost_ret (v := .agg #[.string (leStr u), .string (leStr y1), .string (leStr y4), .string (leStr y6), .string (leStr y9)]) (by simp [results, Tryz.results130, go_sem, o0, o1, o2, o3, o4]) rfl ⟨?_, hBS⟩
  subst y9 y8 y7 y6 y5 y4 y3 y2 y1 cb da ee bb aa d c b a
  rfl
end Go.Proofs.YthjlhcmdpeinpaaGreatDoor

/- The ladder's start, its exchange by a bit, and the point that it ends in. -/
namespace Go.Proofs.YthjlhcmdpeinpaaGreatDoor
set_option maxRecDepth 100000
open Go.RowKit Go.Sort
set_option maxHeartbeats 1000000 in
theorem start_any (u : Int) (w : World) :
    Calls Tryz.prog 127 #[.string (leStr u)] w fun e w' => e = .returned (.agg #[.string (leStr u), .string (leStr 1), .string (leStr 0), .string (leStr u), .string (leStr 1)]) ∧ Below w.heap.size w w' := by
  go_enter Tryz.func127, Tryz.ntmps127
  go_wp2_with fail
  rw [one_str, zero_str]
  refine bodyPost_ret (v := .agg #[.string (leStr u), .string (leStr 1), .string (leStr 0), .string (leStr u), .string (leStr 1)]) (by simp [results, Tryz.results127, go_sem]) rfl ⟨rfl, by go_grown⟩

set_option maxHeartbeats 1000000 in
theorem changed_any (u x2 z2 x3 z3 : Int) (w : World) (b : Bool) :
    Calls Tryz.prog 129 #[.agg #[.string (leStr u), .string (leStr x2), .string (leStr z2), .string (leStr x3), .string (leStr z3)], .int .u8 (if b then 1 else 0)] w fun e w' =>
      e = .returned (if b then .agg #[.string (leStr u), .string (leStr x3), .string (leStr z3), .string (leStr x2), .string (leStr z2)] else .agg #[.string (leStr u), .string (leStr x2), .string (leStr z2), .string (leStr x3), .string (leStr z3)]) ∧ Below w.heap.size w w' := by
  cases b with
  | false =>
    go_enter Tryz.func129, Tryz.ntmps129
    go_wp2_with fail
    refine bodyPost_ret (v := .agg #[.string (leStr u), .string (leStr x2), .string (leStr z2), .string (leStr x3), .string (leStr z3)]) (by simp [results, Tryz.results129, go_sem]) rfl ⟨rfl, by go_grown⟩
  | true =>
    go_enter Tryz.func129, Tryz.ntmps129
    go_wp2_with fail
    refine bodyPost_ret (v := .agg #[.string (leStr u), .string (leStr x3), .string (leStr z3), .string (leStr x2), .string (leStr z2)]) (by simp [results, Tryz.results129, go_sem]) rfl ⟨rfl, by go_grown⟩

set_option maxHeartbeats 1000000 in
theorem point_any {u x2 z2 x3 z3 : Int} (h2 : Rd x2) (h2' : Rd z2) (w : World) (hP : PrimeAt w) :
    Calls Tryz.prog 131 #[.agg #[.string (leStr u), .string (leStr x2), .string (leStr z2), .string (leStr x3), .string (leStr z3)]] w (Tells ((x2 * (z2 ^ ExpN % Pr)) % Pr) w) := by
  have lb := hP.lt
  go_enter Tryz.func131, Tryz.ntmps131
  go_wp2_with fail
  have hI := Row5.fresh w (leStr u) (leStr x2) (leStr z2) (leStr x3) (leStr z3) 172
  have hB : Below w.heap.size w (w.alloc (.cells #[.string (leStr u), .string (leStr x2), .string (leStr z2), .string (leStr x3), .string (leStr z3)] 172)) := by go_grown
  generalize World.alloc w _ = W at hI hB ⊢
  have hPW := hP.below hB lb
  have c1 := cell_regrown hI.1.2.1
  have c2 := cell_regrown hI.1.2.2.1
  have q1 := ginverse hPW h2'
  obtain ⟨y1, ry1, ey1⟩ : ∃ z, Rd z ∧ z2 ^ ExpN % Pr = z := ⟨_, Rd.mod _, rfl⟩
  rw [ey1] at q1
  have q2 := gtimes hPW h2 ry1
  obtain ⟨y2, ry2, ey2⟩ : ∃ z, Rd z ∧ (x2 * y1) % Pr = z := ⟨_, Rd.mod _, rfl⟩
  rw [ey2] at q2
  have Q1 := Lib.hid q1; have Q2 := Lib.hid q2
  clear q1 q2 hPW
  refine wp_region_quiet_below (by kernel_rfl) (by kernel_rfl) ?_
  repeat (quiet_step (first | (go_at_call 165; exact Q1.out _ _) | (go_at_call 164; exact Q2.out _ _)))
  refine wpQuiet_nil ?_
  intro _ hw'
  obtain ⟨⟨dq, osq⟩, hw''⟩ := hw'
  subst hw''
  have hb := below_regrown W dq osq
  have hB' := hB.trans (hb.mono hB.size)
  clear hI hB hb c1 c2 Q1 Q2
  generalize grow (redrawn W dq) osq = W1 at hB' ⊢
  go_wp2_with fail
  go_ret
  rw [ey1, ey2]
  exact ⟨rfl, hB'⟩
end Go.Proofs.YthjlhcmdpeinpaaGreatDoor

/- The reference's numbers in a struct of four. -/
namespace Go.Proofs.YthjlhcmdpeinpaaGreatDoor
set_option maxRecDepth 100000
open Go.RowKit
/-- sixteen digits at block g that tell x -/
def DigS (w : World) (g cap : Nat) (x : Int) : Prop := Dig w (.slice (some ⟨g, 0, none⟩) 16 cap) x
theorem Dig.form {w : World} {v : Value} {x : Int} (h : Dig w v x) : ∃ g cap, v = .slice (some ⟨g, 0, none⟩) 16 cap ∧ DigS w g cap x := by
  obtain ⟨l, h1, h2, h3, g, cap, hv, hg, hc⟩ := id h
  rw [h1] at hv
  subst hv
  exact ⟨g, cap, rfl, h⟩
theorem DigS.on {w w' : World} {g cap : Nat} {x : Int} (h : DigS w g cap x) (hb : Below w.heap.size w w') : DigS w' g cap x := Dig.below h hb
theorem DigS.alloc {w : World} {g cap : Nat} {x : Int} (h : DigS w g cap x) (o : Obj) : DigS (w.alloc o) g cap x := h.on ((Below.refl _ _).alloc (Nat.le_refl _) o)
theorem DigS.far {w : World} {g cap : Nat} {x : Int} (h : DigS w g cap x) {B : Nat} {p : Option Addr} {n c : Nat} (hB : w.cell? ⟨B, 0, none⟩ = some (.slice p n c)) (i : Nat) (u : Value) : DigS (w.setCell ⟨B, i, none⟩ u) g cap x := by
  obtain ⟨l, h1, h2, h3, g', cap', hv, hg, hc⟩ := h
  rw [h1] at hv
  have e : g = g' := by cases hv; rfl
  subst e
  have hne : g ≠ B := by
    intro e
    subst e
    have := hc 0 (by omega)
    rw [hB] at this
    cases this
  refine ⟨l, h1, h2, h3, g, cap', by rw [h1]; exact hv, by simpa using hg, fun j hj => ?_⟩
  rw [World.cell?_setCell_other]
  · exact hc j hj
  · intro e; cases e; exact hne rfl

/-- four values in a block of their own -/
def Row4 (w : World) (B : Nat) (a b c d : Value) : Prop :=
  (w.cell? ⟨B, 0, none⟩ = some a ∧ w.cell? ⟨B, 1, none⟩ = some b ∧ w.cell? ⟨B, 2, none⟩ = some c ∧ w.cell? ⟨B, 3, none⟩ = some d) ∧
  (w.frozen? ⟨B, 0, none⟩ = false ∧ w.frozen? ⟨B, 1, none⟩ = false ∧ w.frozen? ⟨B, 2, none⟩ = false ∧ w.frozen? ⟨B, 3, none⟩ = false)
theorem Row4.below {n B : Nat} {w w' : World} {a b c d : Value} (h : Row4 w B a b c d) (hb : Below n w w') (hB : B < n) : Row4 w' B a b c d := by
  obtain ⟨⟨h0, h1, h2, h3⟩, ⟨f0, f1, f2, f3⟩⟩ := h
  refine ⟨⟨?_, ?_, ?_, ?_⟩, ⟨?_, ?_, ?_, ?_⟩⟩
  all_goals first | rw [hb.cell (p := ⟨B, _, none⟩) hB]; assumption | rw [hb.frozen (p := ⟨B, _, none⟩) hB]; assumption
theorem Row4.lt {B : Nat} {w : World} {a b c d : Value} (h : Row4 w B a b c d) : B < w.heap.size := World.block_lt_of_cell? w _ h.1.1
theorem Row4.on {B : Nat} {w w' : World} {a b c d : Value} (h : Row4 w B a b c d) (hb : Below w.heap.size w w') : Row4 w' B a b c d := h.below hb h.lt
theorem Row4.alloc {B : Nat} {w : World} {a b c d : Value} (h : Row4 w B a b c d) (o : Obj) : Row4 (w.alloc o) B a b c d :=
  h.below ((Below.refl _ _).alloc (Nat.le_refl _) o) h.lt
theorem Row4.fresh_at (w : World) (a b c d : Value) (t : TypeId) (n : Nat) (hn : n = w.heap.size) : Row4 (w.alloc (.cells #[a, b, c, d] t)) n a b c d := by
  subst hn
  refine ⟨⟨?_, ?_, ?_, ?_⟩, ⟨?_, ?_, ?_, ?_⟩⟩ <;> simp
theorem Row4.far {B : Nat} {w : World} {a b c d : Value} (h : Row4 w B a b c d) {p : Addr} (hp : p.block ≠ B) (v : Value) : Row4 (w.setCell p v) B a b c d := by
  obtain ⟨⟨h0, h1, h2, h3⟩, ⟨f0, f1, f2, f3⟩⟩ := h
  have key : ∀ o, (w.setCell p v).cell? ⟨B, o, none⟩ = w.cell? ⟨B, o, none⟩ := fun o => by
    rw [World.cell?_setCell_other]; intro e; subst e; exact hp rfl
  exact ⟨⟨(key _).trans h0, (key _).trans h1, (key _).trans h2, (key _).trans h3⟩, ⟨by simpa using f0, by simpa using f1, by simpa using f2, by simpa using f3⟩⟩
theorem Row4.set0 {B : Nat} {w : World} {a b c d : Value} (h : Row4 w B a b c d) (v : Value) : Row4 (w.setCell ⟨B, 0, none⟩ v) B v b c d := by
  obtain ⟨⟨h0, h1, h2, h3⟩, ⟨f0, f1, f2, f3⟩⟩ := h
  exact ⟨⟨World.cell?_setCell_same _ _ _ h0, setCell_at h1 (by omega), setCell_at h2 (by omega), setCell_at h3 (by omega)⟩, ⟨by simpa using f0, by simpa using f1, by simpa using f2, by simpa using f3⟩⟩
theorem Row4.set1 {B : Nat} {w : World} {a b c d : Value} (h : Row4 w B a b c d) (v : Value) : Row4 (w.setCell ⟨B, 1, none⟩ v) B a v c d := by
  obtain ⟨⟨h0, h1, h2, h3⟩, ⟨f0, f1, f2, f3⟩⟩ := h
  exact ⟨⟨setCell_at h0 (by omega), World.cell?_setCell_same _ _ _ h1, setCell_at h2 (by omega), setCell_at h3 (by omega)⟩, ⟨by simpa using f0, by simpa using f1, by simpa using f2, by simpa using f3⟩⟩
theorem Row4.set2 {B : Nat} {w : World} {a b c d : Value} (h : Row4 w B a b c d) (v : Value) : Row4 (w.setCell ⟨B, 2, none⟩ v) B a b v d := by
  obtain ⟨⟨h0, h1, h2, h3⟩, ⟨f0, f1, f2, f3⟩⟩ := h
  exact ⟨⟨setCell_at h0 (by omega), setCell_at h1 (by omega), World.cell?_setCell_same _ _ _ h2, setCell_at h3 (by omega)⟩, ⟨by simpa using f0, by simpa using f1, by simpa using f2, by simpa using f3⟩⟩
theorem Row4.set3 {B : Nat} {w : World} {a b c d : Value} (h : Row4 w B a b c d) (v : Value) : Row4 (w.setCell ⟨B, 3, none⟩ v) B a b c v := by
  obtain ⟨⟨h0, h1, h2, h3⟩, ⟨f0, f1, f2, f3⟩⟩ := h
  exact ⟨⟨setCell_at h0 (by omega), setCell_at h1 (by omega), setCell_at h2 (by omega), World.cell?_setCell_same _ _ _ h3⟩, ⟨by simpa using f0, by simpa using f1, by simpa using f2, by simpa using f3⟩⟩
theorem Row4.set {B : Nat} {w : World} {a b c d : Value} (h : Row4 w B a b c d) (p q r s : Value) :
    Row4 ((((w.setCell ⟨B, 0, none⟩ p).setCell ⟨B, 1, none⟩ q).setCell ⟨B, 2, none⟩ r).setCell ⟨B, 3, none⟩ s) B p q r s := (((h.set0 p).set1 q).set2 r).set3 s
theorem DigS.far4 {w : World} {g cap : Nat} {x : Int} (h : DigS w g cap x) {B : Nat} {p1 p2 : Option Addr} {n1 c1 n2 c2 : Nat} {b c d : Value} (hB : Row4 w B (.slice p1 n1 c1) b c d) (q r s : Value) :
    DigS ((((w.setCell ⟨B, 0, none⟩ (.slice p2 n2 c2)).setCell ⟨B, 1, none⟩ q).setCell ⟨B, 2, none⟩ r).setCell ⟨B, 3, none⟩ s) g cap x :=
  (((h.far hB.1.1 0 _).far (hB.set0 _).1.1 1 _).far ((hB.set0 _).set1 _).1.1 2 _).far (((hB.set0 _).set1 _).set2 _).1.1 3 _

def OneR (w : World) (n : Int) (v : Value) (wr : World) : Prop := ∃ (k g cap : Nat), k ≤ 14 ∧ v = .slice (some ⟨g, 0, none⟩) (k + 2) cap ∧ Ints wr w.heap.size v (n % 65536 :: n / 65536 :: List.replicate k 0) ∧ Below w.heap.size w wr
end Go.Proofs.YthjlhcmdpeinpaaGreatDoor
