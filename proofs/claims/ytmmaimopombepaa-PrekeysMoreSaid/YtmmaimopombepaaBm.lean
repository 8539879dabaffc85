/- prekeys: Left. -/
import Derived.Test.YtmmaimopombepaaBl
namespace Go.Proofs.Ytmmaimopombepaa
open Go.RowKit
set_option maxRecDepth 100000
theorem FewP.of_right {L : List ShM} (h : rightSL (shs L)) : FewP L := fun m hm => by
  have := (h.2.1 m.s (List.mem_map.2 ⟨m, hm, rfl⟩)).2.2.1
  omega
def leftN (l : List Sh) (u : Nat) : Int := if ¬ rightSL l then 0 else match placeS l u with
  | none => 0
  | some i => ((l.getD i sh0).once.length : Int)
def leftE (l : List Sh) (u : Nat) : Int := if ¬ rightSL l then 1 else match placeS l u with
  | none => 5
  | some _ => 0
theorem left_none {l : List Sh} {u : Nat} (hr : rightSL l) (hp : placeS l u = none) : leftN l u = 0 ∧ leftE l u = 5 := by
  unfold leftN leftE
  rw [if_neg (fun h => h hr), if_neg (fun h => h hr), hp]
  exact ⟨rfl, rfl⟩
theorem left_some {l : List Sh} {u i : Nat} (hr : rightSL l) (hp : placeS l u = some i) (hi : i < l.length) : leftN l u = (l[i].once.length : Int) ∧ leftE l u = 0 := by
  unfold leftN leftE
  rw [if_neg (fun h => h hr), if_neg (fun h => h hr), hp]
  refine ⟨?_, rfl⟩
  show ((l.getD i sh0).once.length : Int) = _
  rw [List.getD_eq_getElem?_getD, List.getElem?_eq_getElem hi]
  rfl
theorem left1_any (g o n c : Nat) (a : Option Addr) (w : World) (h : w.cell? ⟨g, o + 4, none⟩ = some (.slice a n c)) :
    Calls Try.prog 63 #[.pointer (some ⟨g, o, none⟩)] w fun e w' => e = .returned (.tuple #[.int .i64 (n : Int), .int .i64 0]) ∧ w' = w := by
  go_enter Try.func63, Try.ntmps63
  go_wp2_with fail
  refine bodyPost_ret (v := .tuple #[.int .i64 (n : Int), .int .i64 0]) (by simp [results, Try.results63, go_sem]) rfl ?_
  exact ⟨rfl, rfl⟩
/-- a copied row that is not empty lies in a block -/
theorem OwnSS.some {w : World} {base : Nat} {v : Value} {K : List ShM} (h : OwnSS w base v K) (h0 : 0 < K.length) : ∃ g c, v = .slice (some ⟨g, 0, none⟩) K.length c ∧ base ≤ g ∧ K.length ≤ c := by
  rcases h.row.2 with ⟨-, h1⟩ | ⟨g, cap, cur, rfl, hg, hc, h1, -⟩
  · omega
  · exact ⟨g, cap, rfl, hg, h1⟩
set_option maxHeartbeats 8000000 in
theorem changedI_any (a : Option Addr) (c : Nat) (L : List ShM) (u : Nat) (hl : L.length ≤ 1000) (w : World) (h : SS w a c L) :
    Calls Try.prog 62 #[.slice a L.length c, .int .u64 (u : Int), .func (.func 63) #[] #[]] w fun e w' => ∃ v : Value, e = .returned (.tuple #[v, .int .i64 (leftN (shs L) u), .int .i64 (leftE (shs L) u)]) ∧ Below w.heap.size w w' := by
  have HR := Lib.hid (right_any a c L w h hl)
  have H := Lib.hid h
  have hsl := shs_length L
  clear h
  by_cases hr : rightSL (shs L)
  case neg =>
    rw [decide_eq_false hr] at HR
    have HN := Lib.hid (show leftN (shs L) u = 0 ∧ leftE (shs L) u = 1 by unfold leftN leftE; rw [if_pos hr, if_pos hr]; exact ⟨rfl, rfl⟩)
    clear hr
    go_enter Try.func62, Try.ntmps62
    go_wp2_with (go_at_call 16; refine HR.out.mono ?_; rintro e w1 ⟨rfl, hb1⟩)
    refine bodyPost_ret (v := .tuple #[.slice none 0 0, .int .i64 0, .int .i64 1]) (by simp [results, Try.results62, go_sem]) rfl ?_
    exact ⟨.slice none 0 0, by rw [HN.out.1, HN.out.2], hb1⟩
  case pos =>
    rw [decide_eq_true hr] at HR
    have HP := Lib.hid (fun W hW => place_any a c L u W hW hl hr.2.2)
    have HC := Lib.hid (fun W hW => allCopied_any a c L hl (FewP.of_right hr) W hW)
    have HRT := Lib.hid hr
    clear hr
    go_enter Try.func62, Try.ntmps62
    go_upto_region 4 with (go_at_call 16; refine HR.out.mono ?_; rintro e w1 ⟨rfl, hb1⟩)
    go_wp2_with fail
    refine (HP.out w1 (H.out.on hb1)).mono ?_
    rintro e w2 ⟨i, f, rfl, hpl, hb2⟩
    have hps := place_of_at HRT.out.2.2 hpl
    cases f
    · rw [if_neg (by decide)] at hps
      have HN := Lib.hid (left_none HRT.out hps)
      clear hpl hps
      go_wp2_with fail
      refine bodyPost_ret (v := .tuple #[.slice none 0 0, .int .i64 0, .int .i64 5]) (by simp [results, Try.results62, go_sem]) rfl ?_
      exact ⟨.slice none 0 0, by rw [HN.out.1, HN.out.2], hb1.trans (hb2.mono hb1.size)⟩
    · obtain ⟨hi, hu⟩ := hpl.2.2.2.1 rfl
      rw [if_pos rfl] at hps
      have HN := Lib.hid (left_some HRT.out hps hi)
      have hb12 := hb1.trans (hb2.mono hb1.size)
      have HB := Lib.hid hb12
      clear hpl hps hb1 hb2 hb12
      go_wp2_with fail
      refine (HC.out w2 (H.out.on HB.out)).mono ?_
      rintro e w3 ⟨v, K, rfl, hO, hK, hb3⟩
      have hKl : K.length = L.length := by rw [← shs_length K, hK, hsl]
      obtain ⟨g, c3, rfl, hg, hKc⟩ := hO.some (by omega)
      have hiK : i < K.length := by omega
      obtain ⟨ak, ck, eK, hSS⟩ := hO.ss
      injection eK with e1 e2 e3
      subst e1
      subst e3
      have h5 := (hSS.sl.get i hiK)
      obtain ⟨g', off', e4, -, hall⟩ := h5
      cases e4
      have c4 := (hall i hiK).c4
      rw [Nat.zero_add] at c4
      have hKi : K[i].s = (shs L)[i] := by
        have h6 := shs_get K i hiK
        rw [← h6]
        congr 1
      have hlen : K[i].s.once.length = (shs L)[i].once.length := by rw [hKi]
      have HL := Lib.hid (left1_any g (i * 5) K[i].s.once.length K[i].c K[i].a w3 c4)
      have hiz : (i : Int) < (K.length : Int) := by omega
      have HX := Lib.hid (And.intro hb3 hlen)
      clear hO hSS hall c4 hKi hlen hb3
      go_wp2_with (go_at_call 63; refine HL.out.mono ?_; rintro e w4 ⟨rfl, rfl⟩)
      refine bodyPost_ret (v := .tuple #[.slice (some ⟨g, 0, none⟩) K.length c3, .int .i64 (K[i].s.once.length : Int), .int .i64 0]) (by simp [results, Try.results62, go_sem]; try omega) rfl ?_
      refine ⟨.slice (some ⟨g, 0, none⟩) K.length c3, ?_, HB.out.trans (HX.out.1.mono HB.out.size)⟩
      rw [HN.out.1, HN.out.2, HX.out.2]
theorem left_any (a : Option Addr) (c : Nat) (L : List ShM) (u : Nat) (hl : L.length ≤ 1000) (w : World) (h : SS w a c L) :
    Calls Try.prog 24 #[.slice a L.length c, .int .u64 (u : Int)] w fun e w' => e = .returned (.tuple #[.int .i64 (leftN (shs L) u), .int .i64 (leftE (shs L) u)]) ∧ Below w.heap.size w w' := by
  have H := Lib.hid (changedI_any a c L u hl w h)
  clear h hl
  go_enter Try.func24, Try.ntmps24
  go_wp2_with (go_at_call 62; refine H.out.mono ?_; rintro e w2 ⟨v, rfl, hb⟩)
  refine bodyPost_ret (v := .tuple #[.int .i64 (leftN (shs L) u), .int .i64 (leftE (shs L) u)]) (by simp [results, Try.results24, go_sem]) rfl ?_
  exact ⟨rfl, hb⟩
end Go.Proofs.Ytmmaimopombepaa