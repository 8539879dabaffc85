/- relay: mailsOf, Pull. -/
import Derived.Test.YtmmaimopombepaaCf
import Derived.Test.YtmmaimopombepaaCh
namespace Go.Proofs.Ytmmaimopombepaa
open Go.RowKit
set_option maxRecDepth 100000

theorem allP_one (x : Flt) : allP [x] = x.p := by
  funext u m
  unfold allP
  simp
theorem filtB_ofU (l : List Bx) (u : Nat) (hr : risesB l) : filtB (fun v _ => decide (v = u)) l = if mailsR l u = [] then [] else [⟨u, mailsR l u⟩] := by
  have h := filtB_of (fun v _ => decide (v = u)) l u hr (fun v m h => decide_eq_false h)
  have e : (mailsR l u).filter (fun _ => decide (u = u)) = mailsR l u := List.filter_eq_self.2 fun _ _ => decide_eq_true rfl
  rw [h]
  show (if (mailsR l u).filter (fun _ => decide (u = u)) = [] then [] else [(⟨u, (mailsR l u).filter (fun _ => decide (u = u))⟩ : Bx)]) = _
  rw [e]
/-- a chain of one filter that was laid -/
theorem FS.one {w : World} {x : Flt} (h : IsF w x) : FS (w.alloc (.cells #[.func (.func x.N) #[] #[.pointer (some ⟨x.B, 0, none⟩)]] 106)) (some ⟨w.heap.size, 0, none⟩) 1 [x] :=
  ⟨Sl.one (E := eFl) (w := w) 106 x, fun y hy => by rw [List.mem_singleton.1 hy]; exact h.on ((Below.refl _ w).alloc (Nat.le_refl _) _), Nat.le_refl _, by simp⟩
theorem bxs_one {K : List BxM} {b : Bx} (h : bxs K = [b]) : ∃ y, K = [y] ∧ y.s = b := by
  rcases K with _ | ⟨y, K⟩
  · cases h
  · unfold bxs at h
    rw [List.map_cons] at h
    injection h with h1 h2
    obtain rfl := List.map_eq_nil_iff.1 h2
    exact ⟨y, rfl, h1⟩
theorem bxs_nil {K : List BxM} (h : bxs K = []) : K = [] := List.map_eq_nil_iff.1 h
theorem mailsR_le {L : List BxM} {n : Nat} (hf : ∀ m ∈ L, m.s.ml.length ≤ n) (u : Nat) : (mailsR (bxs L) u).length ≤ n := by
  unfold mailsR
  cases hq : (bxs L).find? fun b => decide (b.user = u) with
  | none => simp
  | some b =>
    have hm := List.mem_of_find?_eq_some hq
    obtain ⟨y, hy, e⟩ := List.mem_map.1 hm
    have := hf y hy
    rw [e] at this
    exact this
set_option maxHeartbeats 8000000 in
theorem mailsOf_any (a : Option Addr) (c : Nat) (L : List BxM) (now next : Nat) (hf : FewB L) (hr : risesB (bxs L)) (u : Nat) (w : World) (h : SB w a c L) :
    Calls Try.prog 68 #[.agg #[.slice a L.length c, .int .u64 (now : Int), .int .u64 (next : Int)], .int .u64 (u : Int)] w fun e w' => ∃ (a' : Option Addr) (c' : Nat), e = .returned (.slice a' (mailsR (bxs L) u).length c') ∧ OwnE eMl 82 w' w.heap.size (.slice a' (mailsR (bxs L) u).length c') (mailsR (bxs L) u) ∧ Below w.heap.size w w' := by
  obtain ⟨W0, eW0⟩ : ∃ W0, w.alloc (.cells #[.slice a L.length c, .int .u64 (now : Int), .int .u64 (next : Int)] 56) = W0 := ⟨_, rfl⟩
  have b0 : Below w.heap.size w W0 := by rw [← eW0]; exact (Below.refl _ w).alloc (Nat.le_refl _) _
  obtain ⟨R, eR⟩ : ∃ R, w.heap.size = R := ⟨_, rfl⟩
  have kR : BlkV W0 R 56 [.slice a L.length c, .int .u64 (now : Int), .int .u64 (next : Int)] := by rw [← eW0, ← eR]; exact BlkV.fresh w _ _ _ rfl _ rfl
  have d0 := kR.cell 0 _ rfl
  have HK := Lib.hid (And.intro b0 (And.intro kR (And.intro (h.on b0) (And.intro hf hr))))
  have hml := mailsR_le hf.2 u
  obtain ⟨F, eF⟩ : ∃ F, mailsR (bxs L) u = F := ⟨_, rfl⟩
  have hflt : filtB (fun v _ => decide (v = u)) (bxs L) = if F = [] then [] else [⟨u, F⟩] := by rw [filtB_ofU _ u hr, eF]
  rw [eF] at hml ⊢
  have HFL := Lib.hid hflt
  clear b0 kR h hf hr hflt eF
  go_enter Try.func68, Try.ntmps68
  go_upto_region 1 with fail
  clear eW0
  go_cut [5] from 6 to 11 (fun v wx => ∃ K, OwnSB wx W0.heap.size v K ∧ bxs K = (if F = [] then [] else [⟨u, F⟩]) ∧ Below W0.heap.size W0 wx)
  case first =>
    go_region_with (first
      | (go_at_call 80; refine (of_any u _).mono ?_; rintro e w2 ⟨B, rfl, hF, hb2⟩; have e0 := (HK.out.2.1.on ((Below.refl _ W0).drew.trans hb2)).cell 0 _ rfl; have e1 := ((HK.out.2.1.on ((Below.refl _ W0).drew.trans hb2)).alloc (.cells #[.func (.func 102) #[] #[.pointer (some ⟨B, 0, none⟩)]] 106)).cell 0 _ rfl)
      | (go_at_call 71; refine (filtered_any a c L HK.out.2.2.2.1 (some ⟨w2.heap.size, 0, none⟩) 1 [⟨102, B, fun v _ => decide (v = u)⟩] _ ((HK.out.2.2.1.on ((Below.refl _ W0).drew.trans hb2)).on ((Below.refl _ w2).alloc (Nat.le_refl _) _)) (FS.one hF)).mono ?_; rintro e w3 ⟨v, K, rfl, hO, hK, hb3⟩))
    all_goals
      go_wp2_with fail
      go_meet
      have hbA : Below W0.heap.size W0 (w2.alloc (.cells #[.func (.func 102) #[] #[.pointer (some ⟨B, 0, none⟩)]] 106)) := ((Below.refl _ W0).drew.trans hb2).alloc ((Below.refl _ W0).drew.trans hb2).size _
      rw [allP_one] at hK
      exact ⟨K, hO.mono hbA.size, by rw [← HFL.out]; exact hK, hbA.trans (hb3.mono hbA.size)⟩
  case rest =>
    obtain ⟨K, hO, hK, hb⟩ := hcut
    have hbw := HK.out.1.trans (hb.mono HK.out.1.size)
    by_cases hF : F = []
    · rw [if_pos hF] at hK
      obtain rfl := bxs_nil hK
      subst hF
      obtain ⟨a3, c3, rfl, hs3, -⟩ := hO.sb
      have HZ := Lib.hid hbw
      clear hO hK hb hbw hs3
      go_wp2_with fail
      go_ret
      exact ⟨none, 0, rfl, OwnE.nil _ _ _ _, by first | exact HZ.out | (rw [eR]; exact HZ.out) | (rw [← eR]; exact HZ.out)⟩
    · rw [if_neg hF] at hK
      obtain ⟨y, rfl, hy⟩ := bxs_one hK
      obtain ⟨a3, c3, rfl, hs3, -⟩ := hO.sb
      obtain ⟨b, off, rfl, hlt, hall⟩ := hs3.get 0 (by simp)
      obtain ⟨z0, z1⟩ := hall 0 (by simp)
      have hyo := hO.mls y List.mem_cons_self
      obtain ⟨⟨yu, yl⟩, ya, yc⟩ := y
      cases hy
      simp only [List.getElem_cons_zero, Nat.zero_mul, Nat.add_zero] at z0 z1
      have HZ := Lib.hid (And.intro hbw (MlOwn.mono (n' := w.heap.size) hyo HK.out.1.size))
      clear hO hK hb hbw hs3 hall hyo
      go_wp2_with fail
      go_ret
      exact ⟨ya, yc, rfl, HZ.out.2, HZ.out.1⟩
end Go.Proofs.Ytmmaimopombepaa
