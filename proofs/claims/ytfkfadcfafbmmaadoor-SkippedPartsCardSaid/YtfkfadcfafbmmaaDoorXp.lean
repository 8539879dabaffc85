/- The contracts of skipped's Put and Take. -/
import Derived.Test.YtfkfadcfafbmmaaDoorXpc
import Derived.Test.YtfkfadcfafbmmaaDoorXpd
import Derived.Test.YtfkfadcfafbmmaaDoorBg15
namespace Go.Proofs.YtfkfadcfafbmmaaDoor
open Go.RowKit Go.Sort
set_option maxRecDepth 100000

set_option maxHeartbeats 2000000 in
theorem Put_wrong (a : Option Addr) (c : Nat) (l : List Kk) (x : ByteArray) (m : Nat) (y : ByteArray) (hl : l.length ≤ 1000) (hlc : l.length ≤ c) (hr : ¬ rightK l) (w : World) (hp : KSl w a l) :
    Calls Tryd.prog 19 #[.slice a l.length c, .agg #[.string x, .int .u64 (m : Int), .string y]] w fun e w' => e = .returned (.tuple #[.slice none 0 0, .int .i64 1]) ∧ Below w.heap.size w w' := by
  have hb0 : Below w.heap.size w (w.alloc (.cells #[.string x, .int .u64 (m : Int), .string y] 47)) := by go_grown
  have hbox := heap_alloc_new w (.cells #[.string x, .int .u64 (m : Int), .string y] 47)
  have hR := Right_any a c l hl hlc _ (hp.on hb0)
  rw [decide_eq_false hr] at hR
  have HR := Lib.hid hR; have HB := Lib.hid hb0
  clear hb0 hbox hR hp hl hlc hr
  go_enter Tryd.func19, Tryd.ntmps19
  go_wp2_with fail
  refine HR.out.mono ?_
  rintro e w1 ⟨rfl, hb⟩
  have HB2 := Lib.hid (HB.out.trans (hb.mono HB.out.size))
  clear HR HB hb
  go_wp2_with fail
  go_ret2
  exact ⟨rfl, HB2.out⟩
set_option maxHeartbeats 2000000 in
theorem Put_ratchet (a : Option Addr) (c : Nat) (l : List Kk) (x : ByteArray) (m : Nat) (y : ByteArray) (hl : l.length ≤ 1000) (hlc : l.length ≤ c) (hr : rightK l) (hx : ¬ x.size = 32) (w : World) (hp : KSl w a l) :
    Calls Tryd.prog 19 #[.slice a l.length c, .agg #[.string x, .int .u64 (m : Int), .string y]] w fun e w' => e = .returned (.tuple #[.slice none 0 0, .int .i64 2]) ∧ Below w.heap.size w w' := by
  have hb0 : Below w.heap.size w (w.alloc (.cells #[.string x, .int .u64 (m : Int), .string y] 47)) := by go_grown
  have hbox := heap_alloc_new w (.cells #[.string x, .int .u64 (m : Int), .string y] 47)
  have hR := Right_any a c l hl hlc _ (hp.on hb0)
  rw [decide_eq_true hr] at hR
  have hX := fun w => isKeyK_any x w
  rw [decide_eq_false hx] at hX
  have HR := Lib.hid hR; have HB := Lib.hid hb0; have HBX := Lib.hid hbox; have HX := Lib.hid hX
  clear hb0 hbox hR hp hl hlc hr hX hx
  go_enter Tryd.func19, Tryd.ntmps19
  go_wp2_with fail
  refine HR.out.mono ?_
  rintro e w1 ⟨rfl, hb⟩
  have hbx := (hb.block w.heap.size (Array.getElem?_eq_some_iff.1 HBX.out).1).trans HBX.out
  have HB2 := Lib.hid (HB.out.trans (hb.mono HB.out.size))
  have c0 : w1.cell? ⟨w.heap.size, 0, none⟩ = some (.string x) := by rw [cell_of_row _ _ _ _ _ _ hbx]; rfl
  have c1 : w1.cell? ⟨w.heap.size, 1, none⟩ = some (.int .u64 (m : Int)) := by rw [cell_of_row _ _ _ _ _ _ hbx]; rfl
  have c2 : w1.cell? ⟨w.heap.size, 2, none⟩ = some (.string y) := by rw [cell_of_row _ _ _ _ _ _ hbx]; rfl
  clear HR HB hb hbx HBX
  go_wp2_with (go_at_call 13; refine (HX.out _).mono ?_; rintro e w' ⟨rfl, rfl⟩)
  go_ret2
  exact ⟨rfl, HB2.out⟩
set_option maxHeartbeats 2000000 in
theorem Put_key (a : Option Addr) (c : Nat) (l : List Kk) (x : ByteArray) (m : Nat) (y : ByteArray) (hl : l.length ≤ 1000) (hlc : l.length ≤ c) (hr : rightK l) (hx : x.size = 32) (hy : ¬ y.size = 32) (w : World) (hp : KSl w a l) :
    Calls Tryd.prog 19 #[.slice a l.length c, .agg #[.string x, .int .u64 (m : Int), .string y]] w fun e w' => e = .returned (.tuple #[.slice none 0 0, .int .i64 2]) ∧ Below w.heap.size w w' := by
  have hb0 : Below w.heap.size w (w.alloc (.cells #[.string x, .int .u64 (m : Int), .string y] 47)) := by go_grown
  have hbox := heap_alloc_new w (.cells #[.string x, .int .u64 (m : Int), .string y] 47)
  have hR := Right_any a c l hl hlc _ (hp.on hb0)
  rw [decide_eq_true hr] at hR
  have hX := fun w => isKeyK_any x w
  rw [decide_eq_true hx] at hX
  have hY := fun w => isKeyK_any y w
  rw [decide_eq_false hy] at hY
  have HR := Lib.hid hR; have HB := Lib.hid hb0; have HBX := Lib.hid hbox; have HX := Lib.hid hX; have HY := Lib.hid hY
  clear hb0 hbox hR hp hl hlc hr hX hx hY hy
  go_enter Tryd.func19, Tryd.ntmps19
  go_wp2_with fail
  refine HR.out.mono ?_
  rintro e w1 ⟨rfl, hb⟩
  have hbx := (hb.block w.heap.size (Array.getElem?_eq_some_iff.1 HBX.out).1).trans HBX.out
  have HB2 := Lib.hid (HB.out.trans (hb.mono HB.out.size))
  have c0 : w1.cell? ⟨w.heap.size, 0, none⟩ = some (.string x) := by rw [cell_of_row _ _ _ _ _ _ hbx]; rfl
  have c1 : w1.cell? ⟨w.heap.size, 1, none⟩ = some (.int .u64 (m : Int)) := by rw [cell_of_row _ _ _ _ _ _ hbx]; rfl
  have c2 : w1.cell? ⟨w.heap.size, 2, none⟩ = some (.string y) := by rw [cell_of_row _ _ _ _ _ _ hbx]; rfl
  clear HR HB hb hbx HBX
  go_wp2_with (first | (go_at_call 13; refine (HX.out _).mono ?_; rintro e w' ⟨rfl, rfl⟩) | (go_at_call 13; refine (HY.out _).mono ?_; rintro e w' ⟨rfl, rfl⟩))
  go_ret2
  exact ⟨rfl, HB2.out⟩
set_option maxHeartbeats 2000000 in
theorem Put_there (a : Option Addr) (c : Nat) (l : List Kk) (x : ByteArray) (m : Nat) (y : ByteArray) (hl : l.length ≤ 1000) (hlc : l.length ≤ c) (hr : rightK l) (hx : x.size = 32) (hy : y.size = 32) (hat : atK l x m ≠ none) (w : World) (hp : KSl w a l) :
    Calls Tryd.prog 19 #[.slice a l.length c, .agg #[.string x, .int .u64 (m : Int), .string y]] w fun e w' => e = .returned (.tuple #[.slice none 0 0, .int .i64 7]) ∧ Below w.heap.size w w' := by
  have hb0 : Below w.heap.size w (w.alloc (.cells #[.string x, .int .u64 (m : Int), .string y] 47)) := by go_grown
  have hbox := heap_alloc_new w (.cells #[.string x, .int .u64 (m : Int), .string y] 47)
  have hR := Right_any a c l hl hlc _ (hp.on hb0)
  rw [decide_eq_true hr] at hR
  have hX := fun w => isKeyK_any x w
  rw [decide_eq_true hx] at hX
  have hY := fun w => isKeyK_any y w
  rw [decide_eq_true hy] at hY
  have hO := fun w => rowOf_any x m y w
  have hH := fun (W : World) (hW : KSl W a l) => has_yes a c l x m hl hat W hW
  have HR := Lib.hid hR; have HB := Lib.hid hb0; have HBX := Lib.hid hbox; have HX := Lib.hid hX; have HY := Lib.hid hY; have HO := Lib.hid hO; have HH := Lib.hid hH; have HP := Lib.hid hp
  clear hb0 hbox hR hp hl hlc hr hX hx hY hy hO hH hat
  go_enter Tryd.func19, Tryd.ntmps19
  go_wp2_with fail
  refine HR.out.mono ?_
  rintro e w1 ⟨rfl, hb⟩
  have hbx := (hb.block w.heap.size (Array.getElem?_eq_some_iff.1 HBX.out).1).trans HBX.out
  have HB2 := Lib.hid (HB.out.trans (hb.mono HB.out.size))
  have c0 : w1.cell? ⟨w.heap.size, 0, none⟩ = some (.string x) := by rw [cell_of_row _ _ _ _ _ _ hbx]; rfl
  have c1 : w1.cell? ⟨w.heap.size, 1, none⟩ = some (.int .u64 (m : Int)) := by rw [cell_of_row _ _ _ _ _ _ hbx]; rfl
  have c2 : w1.cell? ⟨w.heap.size, 2, none⟩ = some (.string y) := by rw [cell_of_row _ _ _ _ _ _ hbx]; rfl
  have HBX2 := Lib.hid hbx
  clear HR HB hb hbx HBX
  go_wp2_with (first | (go_at_call 13; refine (HX.out _).mono ?_; rintro e w' ⟨rfl, rfl⟩) | (go_at_call 13; refine (HY.out _).mono ?_; rintro e w' ⟨rfl, rfl⟩))
  refine (HO.out w1).mono ?_
  rintro e w2 ⟨rfl, hb⟩
  have hbx := (hb.block w.heap.size (Array.getElem?_eq_some_iff.1 HBX2.out).1).trans HBX2.out
  have HBX3 := Lib.hid hbx
  have HB3 := Lib.hid (HB2.out.trans (hb.mono HB2.out.size))
  clear hb hbx HBX2 HB2 c0 c1 c2
  go_wp2_with fail
  refine (HH.out w2 (HP.out.on HB3.out)).mono ?_
  rintro e w3 ⟨rfl, hb⟩
  have hbx := (hb.block w.heap.size (Array.getElem?_eq_some_iff.1 HBX3.out).1).trans HBX3.out
  have HB4 := Lib.hid (HB3.out.trans (hb.mono HB3.out.size))
  clear hb hbx HBX3 HB3
  go_wp2_with fail
  go_ret2
  exact ⟨rfl, HB4.out⟩
set_option maxHeartbeats 2000000 in
theorem Put_free (a : Option Addr) (c : Nat) (l : List Kk) (x : ByteArray) (m : Nat) (y : ByteArray) (hl : l.length ≤ 1000) (hlc : l.length ≤ c) (hr : rightK l) (hx : x.size = 32) (hy : y.size = 32) (hat : atK l x m = none) (w : World) (hp : KSl w a l) :
    Calls Tryd.prog 19 #[.slice a l.length c, .agg #[.string x, .int .u64 (m : Int), .string y]] w fun e w' => ∃ (a' : Option Addr) (c' : Nat), e = .returned (.tuple #[.slice a' (putK l ⟨x, m, y⟩).length c', .int .i64 0]) ∧ (putK l ⟨x, m, y⟩).length ≤ c' ∧ KSl w' a' (putK l ⟨x, m, y⟩) ∧ Below w.heap.size w w' := by
  have hb0 : Below w.heap.size w (w.alloc (.cells #[.string x, .int .u64 (m : Int), .string y] 47)) := by go_grown
  have hbox := heap_alloc_new w (.cells #[.string x, .int .u64 (m : Int), .string y] 47)
  have hR := Right_any a c l hl hlc _ (hp.on hb0)
  rw [decide_eq_true hr] at hR
  have hX := fun w => isKeyK_any x w
  rw [decide_eq_true hx] at hX
  have hY := fun w => isKeyK_any y w
  rw [decide_eq_true hy] at hY
  have hO := fun w => rowOf_any x m y w
  have hH := fun (W : World) (hW : KSl W a l) => has_no a c l x m hl hat W hW
  have hWi := fun (W : World) (hW : KSl W a l) => with_any a c l ⟨x, m, y⟩ hr.few hlc W hW
  unfold kkv at hWi
  have HR := Lib.hid hR; have HB := Lib.hid hb0; have HBX := Lib.hid hbox; have HX := Lib.hid hX; have HY := Lib.hid hY; have HO := Lib.hid hO; have HH := Lib.hid hH; have HP := Lib.hid hp; have HW := Lib.hid hWi
  clear hb0 hbox hR hp hl hlc hr hX hx hY hy hO hH hat hWi
  go_enter Tryd.func19, Tryd.ntmps19
  go_wp2_with fail
  refine HR.out.mono ?_
  rintro e w1 ⟨rfl, hb⟩
  have hbx := (hb.block w.heap.size (Array.getElem?_eq_some_iff.1 HBX.out).1).trans HBX.out
  have HB2 := Lib.hid (HB.out.trans (hb.mono HB.out.size))
  have c0 : w1.cell? ⟨w.heap.size, 0, none⟩ = some (.string x) := by rw [cell_of_row _ _ _ _ _ _ hbx]; rfl
  have c1 : w1.cell? ⟨w.heap.size, 1, none⟩ = some (.int .u64 (m : Int)) := by rw [cell_of_row _ _ _ _ _ _ hbx]; rfl
  have c2 : w1.cell? ⟨w.heap.size, 2, none⟩ = some (.string y) := by rw [cell_of_row _ _ _ _ _ _ hbx]; rfl
  have HBX2 := Lib.hid hbx
  clear HR HB hb hbx HBX
  go_wp2_with (first | (go_at_call 13; refine (HX.out _).mono ?_; rintro e w' ⟨rfl, rfl⟩) | (go_at_call 13; refine (HY.out _).mono ?_; rintro e w' ⟨rfl, rfl⟩))
  refine (HO.out w1).mono ?_
  rintro e w2 ⟨rfl, hb⟩
  have hbx := (hb.block w.heap.size (Array.getElem?_eq_some_iff.1 HBX2.out).1).trans HBX2.out
  have HBX3 := Lib.hid hbx
  have HB3 := Lib.hid (HB2.out.trans (hb.mono HB2.out.size))
  clear hb hbx HBX2 HB2 c0 c1 c2
  go_wp2_with fail
  refine (HH.out w2 (HP.out.on HB3.out)).mono ?_
  rintro e w3 ⟨rfl, hb⟩
  have hbx := (hb.block w.heap.size (Array.getElem?_eq_some_iff.1 HBX3.out).1).trans HBX3.out
  have HB4 := Lib.hid (HB3.out.trans (hb.mono HB3.out.size))
  have c0 : w3.cell? ⟨w.heap.size, 0, none⟩ = some (.string x) := by rw [cell_of_row _ _ _ _ _ _ hbx]; rfl
  have c1 : w3.cell? ⟨w.heap.size, 1, none⟩ = some (.int .u64 (m : Int)) := by rw [cell_of_row _ _ _ _ _ _ hbx]; rfl
  have c2 : w3.cell? ⟨w.heap.size, 2, none⟩ = some (.string y) := by rw [cell_of_row _ _ _ _ _ _ hbx]; rfl
  clear hb hbx HBX3 HB3
  go_wp2_with fail
  refine (HW.out w3 (HP.out.on HB4.out)).mono ?_
  rintro e w4 ⟨v, rfl, hO, hb⟩
  have HF := Lib.hid (And.intro hO (HB4.out.trans (hb.mono HB4.out.size)))
  clear hO hb c0 c1 c2
  go_wp2_with fail
  go_ret2
  obtain ⟨a', c', e1, h1, h2⟩ := HF.out.1.ksl
  exact ⟨a', c', by rw [e1]; rfl, h1, h2, HF.out.2⟩
theorem nil_told {e : Ending} {E : Int} {w w' : World} (h : e = .returned (.tuple #[.slice none 0 0, .int .i64 E]) ∧ Below w.heap.size w w') :
    ∃ (a' : Option Addr) (c' : Nat), e = .returned (.tuple #[.slice a' ([] : List Kk).length c', .int .i64 E]) ∧ ([] : List Kk).length ≤ c' ∧ KSl w' a' [] ∧ Below w.heap.size w w' :=
  ⟨none, 0, h.1, Nat.le_refl _, KSl.nil _ _, h.2⟩
theorem Put_any (a : Option Addr) (c : Nat) (l : List Kk) (k : Kk) (hl : l.length ≤ 1000) (hlc : l.length ≤ c) (w : World) (hp : KSl w a l) :
    Calls Tryd.prog 19 #[.slice a l.length c, kkv k] w fun e w' => ∃ (a' : Option Addr) (c' : Nat), e = .returned (.tuple #[.slice a' (putT l k).length c', .int .i64 (putE l k)]) ∧ (putT l k).length ≤ c' ∧ KSl w' a' (putT l k) ∧ Below w.heap.size w w' := by
  obtain ⟨x, m, y⟩ := k
  by_cases hr : rightK l
  · by_cases hs : sizedK ⟨x, m, y⟩
    · by_cases hat : atK l x m = none
      · obtain ⟨p1, p2⟩ := put_good hr hs (k := ⟨x, m, y⟩) hat
        rw [p1, p2]
        exact Put_free a c l x m y hl hlc hr hs.1 hs.2 hat w hp
      · obtain ⟨p1, p2⟩ := put_old hr hs (k := ⟨x, m, y⟩) hat
        rw [p1, p2]
        exact (Put_there a c l x m y hl hlc hr hs.1 hs.2 hat w hp).mono fun _ _ h => nil_told h
    · obtain ⟨p1, p2⟩ := put_unsized hr hs
      rw [p1, p2]
      by_cases hx : x.size = 32
      · exact (Put_key a c l x m y hl hlc hr hx (fun h => hs ⟨hx, h⟩) w hp).mono fun _ _ h => nil_told h
      · exact (Put_ratchet a c l x m y hl hlc hr hx w hp).mono fun _ _ h => nil_told h
  · obtain ⟨p1, p2⟩ := put_wrong hr ⟨x, m, y⟩
    rw [p1, p2]
    exact (Put_wrong a c l x m y hl hlc hr w hp).mono fun _ _ h => nil_told h
theorem place_at (a : Option Addr) (c : Nat) (l : List Kk) (r : ByteArray) (n i : Nat) (hl : l.length ≤ 1000) (h : atK l r n = some i) (w : World) (hp : KSl w a l) :
    Calls Tryd.prog 30 #[.slice a l.length c, .agg #[.string r, .int .u64 (n : Int)]] w fun e w' => e = .returned (.int .i64 (i : Int)) ∧ Below w.heap.size w w' :=
  (place_any a c l r n hl w hp).mono fun _ _ ⟨e, e2⟩ => ⟨by rw [e]; unfold atI; rw [h], e2⟩
theorem place_no (a : Option Addr) (c : Nat) (l : List Kk) (r : ByteArray) (n : Nat) (hl : l.length ≤ 1000) (h : atK l r n = none) (w : World) (hp : KSl w a l) :
    Calls Tryd.prog 30 #[.slice a l.length c, .agg #[.string r, .int .u64 (n : Int)]] w fun e w' => e = .returned (.int .i64 (-1)) ∧ Below w.heap.size w w' :=
  (place_any a c l r n hl w hp).mono fun _ _ ⟨e, e2⟩ => ⟨by rw [e]; unfold atI; rw [h], e2⟩
set_option maxHeartbeats 2000000 in
theorem Take_wrong (a : Option Addr) (c : Nat) (l : List Kk) (r : ByteArray) (n : Nat) (hl : l.length ≤ 1000) (hlc : l.length ≤ c) (hr : ¬ rightK l) (w : World) (hp : KSl w a l) :
    Calls Tryd.prog 20 #[.slice a l.length c, .string r, .int .u64 (n : Int)] w fun e w' => e = .returned (.tuple #[.string ⟨#[]⟩, .slice none 0 0, .int .i64 1]) ∧ Below w.heap.size w w' := by
  have hR := Right_any a c l hl hlc w hp
  rw [decide_eq_false hr] at hR
  have HR := Lib.hid hR
  clear hp hl hlc hr hR
  go_enter Tryd.func20, Tryd.ntmps20
  go_wp2_with fail
  refine HR.out.mono ?_
  rintro e w1 ⟨rfl, hb⟩
  have HB := Lib.hid hb
  clear HR hb
  go_wp2_with fail
  go_ret3
  exact ⟨rfl, HB.out⟩
set_option maxHeartbeats 2000000 in
theorem Take_none (a : Option Addr) (c : Nat) (l : List Kk) (r : ByteArray) (n : Nat) (hl : l.length ≤ 1000) (hlc : l.length ≤ c) (hr : rightK l) (hat : atK l r n = none) (w : World) (hp : KSl w a l) :
    Calls Tryd.prog 20 #[.slice a l.length c, .string r, .int .u64 (n : Int)] w fun e w' => e = .returned (.tuple #[.string ⟨#[]⟩, .slice none 0 0, .int .i64 5]) ∧ Below w.heap.size w w' := by
  have hR := Right_any a c l hl hlc w hp
  rw [decide_eq_true hr] at hR
  have hP := fun (W : World) (hW : KSl W a l) => place_no a c l r n hl hat W hW
  have HR := Lib.hid hR; have HP := Lib.hid hP; have HK := Lib.hid hp
  clear hp hl hlc hr hR hP hat
  go_enter Tryd.func20, Tryd.ntmps20
  go_wp2_with fail
  refine HR.out.mono ?_
  rintro e w1 ⟨rfl, hb⟩
  have HB := Lib.hid hb
  clear HR hb
  go_wp2_with fail
  refine (HP.out w1 (HK.out.on HB.out)).mono ?_
  rintro e w2 ⟨rfl, hb⟩
  have HB2 := Lib.hid (HB.out.trans (hb.mono HB.out.size))
  clear HP HB hb
  go_wp2_with fail
  go_ret3
  exact ⟨rfl, HB2.out⟩
set_option maxHeartbeats 2000000 in
theorem Take_there (a : Option Addr) (c : Nat) (l : List Kk) (r : ByteArray) (n i : Nat) (hl : l.length ≤ 1000) (hlc : l.length ≤ c) (hr : rightK l) (hat : atK l r n = some i) (w : World) (hp : KSl w a l) :
    Calls Tryd.prog 20 #[.slice a l.length c, .string r, .int .u64 (n : Int)] w fun e w' => ∃ (a' : Option Addr) (c' : Nat), e = .returned (.tuple #[.string (l.getD i k00).k, .slice a' (withoutK l i).length c', .int .i64 0]) ∧ (withoutK l i).length ≤ c' ∧ KSl w' a' (withoutK l i) ∧ Below w.heap.size w w' := by
  have hi := (atK_some hat).1
  have h1 : (i : Int) < (l.length : Int) := by omega
  have h2 : ¬ (i : Int) < 0 := by omega
  have hR := Right_any a c l hl hlc w hp
  rw [decide_eq_true hr] at hR
  have hP := fun (W : World) (hW : KSl W a l) => place_at a c l r n i hl hat W hW
  have hWo := fun (W : World) (hW : KSl W a l) => without_any a c l i hi (by have := hr.few; omega) hlc W hW
  obtain ⟨g, off, rfl, -, -⟩ := hp (by omega)
  obtain ⟨q, eq⟩ : ∃ q, (l.getD i k00).k = q := ⟨_, rfl⟩
  rw [eq]
  have HQ := Lib.hid eq; clear eq
  have HR := Lib.hid hR; have HP := Lib.hid hP; have HK := Lib.hid hp; have HW := Lib.hid hWo; have HI := Lib.hid hi
  clear hp hl hlc hr hR hP hat hWo hi
  go_enter Tryd.func20, Tryd.ntmps20
  go_wp2_with fail
  refine HR.out.mono ?_
  rintro e w1 ⟨rfl, hb⟩
  have HB := Lib.hid hb
  clear HR hb
  go_wp2_with fail
  refine (HP.out w1 (HK.out.on HB.out)).mono ?_
  rintro e w2 ⟨rfl, hb⟩
  have hb2 := HB.out.trans (hb.mono HB.out.size)
  have hk2 := HK.out.on hb2
  obtain ⟨g', off', e1, hlt, hc⟩ := hk2 (by have := HI.out; omega)
  simp only [Option.some.injEq, Addr.mk.injEq, and_true] at e1
  obtain ⟨rfl, rfl⟩ := e1
  have c2 := (hc i HI.out).c2
  rw [HQ.out] at c2
  have hWd := HW.out w2.drew (hk2.on ((Below.refl _ _).drew))
  have hK : ∀ w3, Below w2.drew.heap.size w2.drew w3 → w3.cell? ⟨g, off + i * 3 + 2, none⟩ = some (.string q) := fun w3 h => by rw [h.cell (p := ⟨g, off + i * 3 + 2, none⟩) hlt]; exact c2
  have HB2 := Lib.hid hb2; have HWD := Lib.hid hWd; have HKC := Lib.hid hK
  clear hb hb2 hk2 hc HB HP HW hWd hK hlt
  go_upto_region 6 with fail
  go_region_held3 (fun w' : World => w'.cell? ⟨g, off + i * 3 + 2, none⟩ = some (.string q))
    (first | with_reducible assumption | go_keep)
    (first
      | (go_at_call 31; refine HWD.out.mono ?_; rintro e w3 ⟨v, rfl, hO, hb⟩; have c3 := HKC.out w3 hb; have HF := Lib.hid (And.intro hO (HB2.out.drew.trans (hb.mono HB2.out.size))); clear hO hb))
  clear HWD HKC HB2 c2 c3
  go_wp2_with fail
  go_ret3
  obtain ⟨a', c', e1, h1, h2⟩ := HF.out.1.ksl
  exact ⟨a', c', by rw [e1]; rfl, h1, h2, HF.out.2⟩
theorem Take_any (a : Option Addr) (c : Nat) (l : List Kk) (r : ByteArray) (n : Nat) (hl : l.length ≤ 1000) (hlc : l.length ≤ c) (w : World) (hp : KSl w a l) :
    Calls Tryd.prog 20 #[.slice a l.length c, .string r, .int .u64 (n : Int)] w fun e w' => ∃ (a' : Option Addr) (c' : Nat), e = .returned (.tuple #[.string (takeS l r n), .slice a' (takeT l r n).length c', .int .i64 (takeE l r n)]) ∧ (takeT l r n).length ≤ c' ∧ KSl w' a' (takeT l r n) ∧ Below w.heap.size w w' := by
  by_cases hr : rightK l
  · cases hat : atK l r n with
    | none =>
      obtain ⟨p1, p2, p3⟩ := take_none hr hat
      rw [p1, p2, p3]
      exact (Take_none a c l r n hl hlc hr hat w hp).mono fun _ _ h => ⟨none, 0, h.1, Nat.le_refl _, KSl.nil _ _, h.2⟩
    | some i =>
      obtain ⟨p1, p2, p3⟩ := take_good hr hat
      rw [p1, p2, p3]
      exact Take_there a c l r n i hl hlc hr hat w hp
  · obtain ⟨p1, p2, p3⟩ := take_wrong hr r n
    rw [p1, p2, p3]
    exact (Take_wrong a c l r n hl hlc hr w hp).mono fun _ _ h => ⟨none, 0, h.1, Nat.le_refl _, KSl.nil _ _, h.2⟩
end Go.Proofs.YtfkfadcfafbmmaaDoor
