/- Points of a curve over a field, their sum, and the ladder: that a times b is b times a. Plain mathematics: nothing of the program stands here. -/
import Derived.Test.YtnfhfibbaeiglaaDoorAg1
namespace Go.Proofs.YtnfhfibbaeiglaaDoor.Curve
structure CPt (α : Type) where
  x : α
  y : α
theorem CPt.ext' {α : Type} {P Q : CPt α} (hx : P.x = Q.x) (hy : P.y = Q.y) : P = Q := by
  cases P; cases Q; simp only at hx hy; rw [hx, hy]

variable {q : Nat} [NeZero q]
/-- what the maths needs of the field and of the curve -/
structure Crv (q : Nat) [NeZero q] where
  inv : Fin q → Fin q
  c : Fin q
  k : Fin q
  hinv : ∀ a : Fin q, a ≠ 0 → a * inv a = 1
  inv0 : inv 0 = 0
  two : (2 : Fin q) ≠ 0
  hc : c ≠ 0
  hns : ∀ a b : Fin q, a * a = c * (b * b) → a = 0
  hk : k ≠ 0
  hkc : k * c = k + 1

theorem Crv.mul0 (E : Crv q) {a b : Fin q} (h : a * b = 0) (ha : a ≠ 0) : b = 0 := by
  have := E.hinv a ha
  grind
theorem Crv.cancel (E : Crv q) {a b b' : Fin q} (ha : a ≠ 0) (h : a * b = a * b') : b = b' := by
  have := E.hinv a ha
  grind
theorem Crv.mul_ne (E : Crv q) {a b : Fin q} (ha : a ≠ 0) (hb : b ≠ 0) : a * b ≠ 0 := fun h => hb (E.mul0 h ha)

def On (E : Crv q) (P : CPt (Fin q)) : Prop := P.x * P.x * (P.y * P.y) = E.c * (P.x * P.x + P.y * P.y - 1)
def tt (P Q : CPt (Fin q)) : Fin q := P.x * Q.x * (P.y * Q.y)
theorem den (E : Crv q) (P Q : CPt (Fin q)) (hP : On E P) (hQ : On E Q) (e : Fin q) (he : e * e = 1) : E.c - e * tt P Q ≠ 0 := by
  intro h
  unfold On at hP hQ
  unfold tt at h
  obtain ⟨x1, y1⟩ := P
  obtain ⟨x2, y2⟩ := Q
  simp only at *
  have hc := E.hc
  have hns := E.hns
  have hcan := @Crv.cancel q _ E
  have hm := @Crv.mul0 q _ E
  have htw := E.two
  generalize E.c = c at *
  have h1 := hns (x1 * y1 * (x2 + y2)) (x1 + e * y1) (hcan hc (by grind))
  have h2 := hns (x1 * y1 * (x2 - y2)) (x1 - e * y1) (hcan hc (by grind))
  have h3 : (2 : Fin q) * (x1 * y1 * x2) = 0 := by grind
  have h4 := hm h3 htw
  exact hc (by grind)

theorem assoc_poly (c x1 y1 x2 y2 x3 y3 : Fin q) (e1 : x1 * x1 * (y1 * y1) = c * (x1 * x1 + y1 * y1 - 1)) (e2 : x2 * x2 * (y2 * y2) = c * (x2 * x2 + y2 * y2 - 1)) (e3 : x3 * x3 * (y3 * y3) = c * (x3 * x3 + y3 * y3 - 1)) :
    ((x1 * y2 + y1 * x2) * (c - x1 * x2 * (y1 * y2)) * y3 + (y1 * y2 - x1 * x2) * (c + x1 * x2 * (y1 * y2)) * x3) * ((c - x2 * x3 * (y2 * y3)) * (c + x2 * x3 * (y2 * y3)) + c * (x1 * y1 * ((x2 * y3 + y2 * x3) * (y2 * y3 - x2 * x3)))) =
    (x1 * ((y2 * y3 - x2 * x3) * (c + x2 * x3 * (y2 * y3))) + y1 * ((x2 * y3 + y2 * x3) * (c - x2 * x3 * (y2 * y3)))) * ((c - x1 * x2 * (y1 * y2)) * (c + x1 * x2 * (y1 * y2)) + c * ((x1 * y2 + y1 * x2) * (y1 * y2 - x1 * x2) * (x3 * y3))) := by
  grind

theorem denP (E : Crv q) {P Q : CPt (Fin q)} (hP : On E P) (hQ : On E Q) : E.c + tt P Q ≠ 0 := by
  have := den E P Q hP hQ (-1) (by grind)
  intro h
  exact this (by grind)
theorem denM (E : Crv q) {P Q : CPt (Fin q)} (hP : On E P) (hQ : On E Q) : E.c - tt P Q ≠ 0 := by
  have := den E P Q hP hQ 1 (by grind)
  intro h
  exact this (by grind)

/-- the sum of two points -/
def padd (E : Crv q) (P Q : CPt (Fin q)) : CPt (Fin q) := ⟨E.c * (P.x * Q.y + P.y * Q.x) * E.inv (E.c + tt P Q), E.c * (P.y * Q.y - P.x * Q.x) * E.inv (E.c - tt P Q)⟩
theorem padd_x (E : Crv q) {P Q : CPt (Fin q)} (hP : On E P) (hQ : On E Q) : (padd E P Q).x * (E.c + tt P Q) = E.c * (P.x * Q.y + P.y * Q.x) := by
  have := E.hinv _ (denP E hP hQ)
  show E.c * (P.x * Q.y + P.y * Q.x) * E.inv (E.c + tt P Q) * (E.c + tt P Q) = _
  generalize E.inv (E.c + tt P Q) = i at *
  generalize E.c + tt P Q = d at *
  grind
theorem padd_y (E : Crv q) {P Q : CPt (Fin q)} (hP : On E P) (hQ : On E Q) : (padd E P Q).y * (E.c - tt P Q) = E.c * (P.y * Q.y - P.x * Q.x) := by
  have := E.hinv _ (denM E hP hQ)
  show E.c * (P.y * Q.y - P.x * Q.x) * E.inv (E.c - tt P Q) * (E.c - tt P Q) = _
  generalize E.inv (E.c - tt P Q) = i at *
  generalize E.c - tt P Q = d at *
  grind

theorem on_poly (c x1 y1 x2 y2 : Fin q) (e1 : x1 * x1 * (y1 * y1) = c * (x1 * x1 + y1 * y1 - 1)) (e2 : x2 * x2 * (y2 * y2) = c * (x2 * x2 + y2 * y2 - 1)) :
    c * ((x1 * y2 + y1 * x2) * (x1 * y2 + y1 * x2)) * (c * ((y1 * y2 - x1 * x2) * (y1 * y2 - x1 * x2))) * c * c =
    c * (c * c * ((x1 * y2 + y1 * x2) * (x1 * y2 + y1 * x2)) * ((c - x1 * x2 * (y1 * y2)) * (c - x1 * x2 * (y1 * y2))) + c * c * ((y1 * y2 - x1 * x2) * (y1 * y2 - x1 * x2)) * ((c + x1 * x2 * (y1 * y2)) * (c + x1 * x2 * (y1 * y2))) - (c + x1 * x2 * (y1 * y2)) * (c + x1 * x2 * (y1 * y2)) * ((c - x1 * x2 * (y1 * y2)) * (c - x1 * x2 * (y1 * y2)))) := by
  grind

theorem on_add (E : Crv q) {P Q : CPt (Fin q)} (hP : On E P) (hQ : On E Q) : On E (padd E P Q) := by
  have hx := padd_x E hP hQ
  have hy := padd_y E hP hQ
  have dp := denP E hP hQ
  have dm := denM E hP hQ
  have key := on_poly E.c P.x P.y Q.x Q.y hP hQ
  have hd := E.mul_ne (E.mul_ne dp dp) (E.mul_ne dm dm)
  unfold On
  refine E.cancel hd ?_
  generalize (padd E P Q).x = X at *
  generalize (padd E P Q).y = Y at *
  unfold tt at *
  clear hP hQ dp dm hd
  generalize E.c = c at *
  generalize P.x * Q.x * (P.y * Q.y) = t at *
  generalize P.x * Q.y + P.y * Q.x = n at *
  generalize P.y * Q.y - P.x * Q.x = m at *
  have h1 : (X * (c + t)) * (X * (c + t)) = (c * n) * (c * n) := by rw [hx]
  have h2 : (Y * (c - t)) * (Y * (c - t)) = (c * m) * (c * m) := by rw [hy]
  clear hx hy
  have h3 : (c + t) * (c + t) * ((c - t) * (c - t)) * (X * X * (Y * Y)) = (c * n) * (c * n) * ((c * m) * (c * m)) := by rw [← h1, ← h2]; grind
  have h4 : (c + t) * (c + t) * ((c - t) * (c - t)) * (c * (X * X + Y * Y - 1)) = c * ((c * n) * (c * n) * ((c - t) * (c - t)) + (c * m) * (c * m) * ((c + t) * (c + t)) - (c + t) * (c + t) * ((c - t) * (c - t))) := by rw [← h1, ← h2]; grind
  rw [h3, h4]
  clear h1 h2 h3 h4
  grind

theorem padd_comm (E : Crv q) (P Q : CPt (Fin q)) : padd E P Q = padd E Q P := by
  have e1 : P.x * Q.y + P.y * Q.x = Q.x * P.y + Q.y * P.x := by grind
  have e2 : P.y * Q.y - P.x * Q.x = Q.y * P.y - Q.x * P.x := by grind
  have e3 : tt P Q = tt Q P := by unfold tt; grind
  unfold padd
  rw [e1, e2, e3]

theorem assoc_poly_y (c x1 y1 x2 y2 x3 y3 : Fin q) (e1 : x1 * x1 * (y1 * y1) = c * (x1 * x1 + y1 * y1 - 1)) (e2 : x2 * x2 * (y2 * y2) = c * (x2 * x2 + y2 * y2 - 1)) (e3 : x3 * x3 * (y3 * y3) = c * (x3 * x3 + y3 * y3 - 1)) :
    ((y1 * y2 - x1 * x2) * (c + x1 * x2 * (y1 * y2)) * y3 - (x1 * y2 + y1 * x2) * (c - x1 * x2 * (y1 * y2)) * x3) * ((c - x2 * x3 * (y2 * y3)) * (c + x2 * x3 * (y2 * y3)) - c * (x1 * y1 * ((x2 * y3 + y2 * x3) * (y2 * y3 - x2 * x3)))) =
    (y1 * ((y2 * y3 - x2 * x3) * (c + x2 * x3 * (y2 * y3))) - x1 * ((x2 * y3 + y2 * x3) * (c - x2 * x3 * (y2 * y3)))) * ((c - x1 * x2 * (y1 * y2)) * (c + x1 * x2 * (y1 * y2)) - c * ((x1 * y2 + y1 * x2) * (y1 * y2 - x1 * x2) * (x3 * y3))) := by
  grind

/-- two fractions that are one, cleared -/
theorem frac (E : Crv q) {U U' N N' D D' : Fin q} (h : U * D = E.c * N) (h' : U' * D' = E.c * N') (hD : D ≠ 0) (hD' : D' ≠ 0) (hx : N * D' = N' * D) : U = U' := by
  refine E.cancel (E.mul_ne hD hD') ?_
  grind

theorem cl1 {X Y a b c n1 n2 : Fin q} (p r : Fin q) (h1 : X * a = c * n1) (h2 : Y * b = c * n2) : a * b * (X * r + Y * p) = c * (n1 * b * r + n2 * a * p) := by
  have e : a * b * (X * r + Y * p) = (X * a) * b * r + (Y * b) * a * p := by clear h1 h2; grind
  rw [e, h1, h2]
  clear e h1 h2
  grind
theorem cl2 {X Y a b c n1 n2 : Fin q} (p r : Fin q) (h1 : X * a = c * n1) (h2 : Y * b = c * n2) : a * b * (c + p * X * (r * Y)) = c * (b * a + c * (p * r * (n1 * n2))) := by
  have e : a * b * (c + p * X * (r * Y)) = c * a * b + (X * a) * (Y * b) * (p * r) := by clear h1 h2; grind
  rw [e, h1, h2]
  clear e h1 h2
  grind
theorem cl3 {X Y a b c n1 n2 : Fin q} (p r : Fin q) (h1 : X * a = c * n1) (h2 : Y * b = c * n2) : a * b * (p * Y + r * X) = c * (p * (n2 * a) + r * (n1 * b)) := by
  have e : a * b * (p * Y + r * X) = (Y * b) * a * p + (X * a) * b * r := by clear h1 h2; grind
  rw [e, h1, h2]
  clear e h1 h2
  grind
theorem cl4 {X Y a b c n1 n2 : Fin q} (p r : Fin q) (h1 : X * a = c * n1) (h2 : Y * b = c * n2) : a * b * (c + X * p * (Y * r)) = c * (b * a + c * (n1 * n2 * (p * r))) := by
  have e : a * b * (c + X * p * (Y * r)) = c * a * b + (X * a) * (Y * b) * (p * r) := by clear h1 h2; grind
  rw [e, h1, h2]
  clear e h1 h2
  grind
theorem cm1 {X Y a b c n1 n2 : Fin q} (p r : Fin q) (h1 : X * a = c * n1) (h2 : Y * b = c * n2) : a * b * (Y * r - X * p) = c * (n2 * a * r - n1 * b * p) := by
  have e : a * b * (Y * r - X * p) = (Y * b) * a * r - (X * a) * b * p := by clear h1 h2; grind
  rw [e, h1, h2]
  clear e h1 h2
  grind
theorem cm2 {X Y a b c n1 n2 : Fin q} (p r : Fin q) (h1 : X * a = c * n1) (h2 : Y * b = c * n2) : a * b * (c - p * X * (r * Y)) = c * (b * a - c * (p * r * (n1 * n2))) := by
  have e : a * b * (c - p * X * (r * Y)) = c * a * b - (X * a) * (Y * b) * (p * r) := by clear h1 h2; grind
  rw [e, h1, h2]
  clear e h1 h2
  grind
theorem cm3 {X Y a b c n1 n2 : Fin q} (p r : Fin q) (h1 : X * a = c * n1) (h2 : Y * b = c * n2) : a * b * (r * Y - p * X) = c * (r * (n2 * a) - p * (n1 * b)) := by
  have e : a * b * (r * Y - p * X) = (Y * b) * a * r - (X * a) * b * p := by clear h1 h2; grind
  rw [e, h1, h2]
  clear e h1 h2
  grind
theorem cm4 {X Y a b c n1 n2 : Fin q} (p r : Fin q) (h1 : X * a = c * n1) (h2 : Y * b = c * n2) : a * b * (c - X * p * (Y * r)) = c * (b * a - c * (n1 * n2 * (p * r))) := by
  have e : a * b * (c - X * p * (Y * r)) = c * a * b - (X * a) * (Y * b) * (p * r) := by clear h1 h2; grind
  rw [e, h1, h2]
  clear e h1 h2
  grind

theorem mix1 (a b d e A B : Fin q) : a * b * (d * e) * (A * B) = (a * b * A) * (d * e * B) := by grind
theorem mix2 (a b d e A B : Fin q) : a * b * (d * e) * (A * B) = (d * e * A) * (a * b * B) := by grind
theorem cc (c p s r v : Fin q) (h : p * s = r * v) : c * p * (c * s) = c * r * (c * v) := by grind

set_option maxHeartbeats 2000000 in
theorem padd_assoc (E : Crv q) {P Q S : CPt (Fin q)} (hP : On E P) (hQ : On E Q) (hS : On E S) : padd E (padd E P Q) S = padd E P (padd E Q S) := by
  have hPQ := on_add E hP hQ
  have hQS := on_add E hQ hS
  have kx := assoc_poly E.c P.x P.y Q.x Q.y S.x S.y hP hQ hS
  have ky := assoc_poly_y E.c P.x P.y Q.x Q.y S.x S.y hP hQ hS
  have a1 := padd_x E hP hQ
  have a2 := padd_y E hP hQ
  have b1 := padd_x E hQ hS
  have b2 := padd_y E hQ hS
  have d1 := denP E hP hQ; have d2 := denM E hP hQ; have d3 := denP E hQ hS; have d4 := denM E hQ hS
  have hd := E.mul_ne (E.mul_ne d1 d2) (E.mul_ne d3 d4)
  refine CPt.ext' ?_ ?_
  · refine frac E (padd_x E hPQ hS) (padd_x E hP hQS) (denP E hPQ hS) (denP E hP hQS) ?_
    refine E.cancel hd ?_
    unfold tt at *
    generalize (padd E P Q).x = X at *
    generalize (padd E P Q).y = Y at *
    generalize (padd E Q S).x = X' at *
    generalize (padd E Q S).y = Y' at *
    generalize E.c = c at *
    clear hPQ hQS hd d1 d2 d3 d4 hP hQ hS ky
    generalize P.x * Q.y + P.y * Q.x = n1 at *
    generalize P.y * Q.y - P.x * Q.x = n2 at *
    generalize Q.x * S.y + Q.y * S.x = m1 at *
    generalize Q.y * S.y - Q.x * S.x = m2 at *
    generalize P.x * Q.x * (P.y * Q.y) = t at *
    generalize Q.x * S.x * (Q.y * S.y) = s at *
    have e1 : (c + t) * (c - t) * (X * S.y + Y * S.x) = c * (n1 * (c - t) * S.y + n2 * (c + t) * S.x) := cl1 _ _ a1 a2
    have e2 : (c + s) * (c - s) * (c + P.x * X' * (P.y * Y')) = c * ((c - s) * (c + s) + c * (P.x * P.y * (m1 * m2))) := cl2 _ _ b1 b2
    have e3 : (c + s) * (c - s) * (P.x * Y' + P.y * X') = c * (P.x * (m2 * (c + s)) + P.y * (m1 * (c - s))) := cl3 _ _ b1 b2
    have e4 : (c + t) * (c - t) * (c + X * S.x * (Y * S.y)) = c * ((c - t) * (c + t) + c * (n1 * n2 * (S.x * S.y))) := cl4 _ _ a1 a2
    clear a1 a2 b1 b2
    generalize X * S.y + Y * S.x = A at *
    generalize c + P.x * X' * (P.y * Y') = B at *
    generalize P.x * Y' + P.y * X' = A' at *
    generalize c + X * S.x * (Y * S.y) = B' at *
    rw [mix1, mix2 _ _ _ _ A' B', e1, e2, e3, e4]
    exact cc _ _ _ _ _ kx
  · refine frac E (padd_y E hPQ hS) (padd_y E hP hQS) (denM E hPQ hS) (denM E hP hQS) ?_
    refine E.cancel hd ?_
    unfold tt at *
    generalize (padd E P Q).x = X at *
    generalize (padd E P Q).y = Y at *
    generalize (padd E Q S).x = X' at *
    generalize (padd E Q S).y = Y' at *
    generalize E.c = c at *
    clear hPQ hQS hd d1 d2 d3 d4 hP hQ hS kx
    generalize P.x * Q.y + P.y * Q.x = n1 at *
    generalize P.y * Q.y - P.x * Q.x = n2 at *
    generalize Q.x * S.y + Q.y * S.x = m1 at *
    generalize Q.y * S.y - Q.x * S.x = m2 at *
    generalize P.x * Q.x * (P.y * Q.y) = t at *
    generalize Q.x * S.x * (Q.y * S.y) = s at *
    have e1 : (c + t) * (c - t) * (Y * S.y - X * S.x) = c * (n2 * (c + t) * S.y - n1 * (c - t) * S.x) := cm1 _ _ a1 a2
    have e2 : (c + s) * (c - s) * (c - P.x * X' * (P.y * Y')) = c * ((c - s) * (c + s) - c * (P.x * P.y * (m1 * m2))) := cm2 _ _ b1 b2
    have e3 : (c + s) * (c - s) * (P.y * Y' - P.x * X') = c * (P.y * (m2 * (c + s)) - P.x * (m1 * (c - s))) := cm3 _ _ b1 b2
    have e4 : (c + t) * (c - t) * (c - X * S.x * (Y * S.y)) = c * ((c - t) * (c + t) - c * (n1 * n2 * (S.x * S.y))) := cm4 _ _ a1 a2
    clear a1 a2 b1 b2
    generalize Y * S.y - X * S.x = A at *
    generalize c - P.x * X' * (P.y * Y') = B at *
    generalize P.y * Y' - P.x * X' = A' at *
    generalize c - X * S.x * (Y * S.y) = B' at *
    rw [mix1, mix2 _ _ _ _ A' B', e1, e2, e3, e4]
    exact cc _ _ _ _ _ ky

def O : CPt (Fin q) := ⟨0, 1⟩
theorem on_O (E : Crv q) : On E O := by unfold On O; grind
def neg (P : CPt (Fin q)) : CPt (Fin q) := ⟨-P.x, P.y⟩
theorem on_neg (E : Crv q) {P : CPt (Fin q)} (h : On E P) : On E (neg P) := by
  have e : -P.x * -P.x = P.x * P.x := by grind
  unfold On neg at *
  simp only
  rw [e]
  exact h
theorem O_add (E : Crv q) (P : CPt (Fin q)) : padd E O P = P := by
  have h := E.hinv E.c E.hc
  have t0 : tt O P = 0 := by unfold tt O; grind
  refine CPt.ext' ?_ ?_
  · show E.c * ((0 : Fin q) * P.y + 1 * P.x) * E.inv (E.c + tt O P) = P.x
    have e : E.c + tt O P = E.c := by grind
    rw [e]
    grind
  · show E.c * ((1 : Fin q) * P.y - 0 * P.x) * E.inv (E.c - tt O P) = P.y
    have e : E.c - tt O P = E.c := by grind
    rw [e]
    grind
theorem add_neg (E : Crv q) {P : CPt (Fin q)} (h : On E P) : padd E P (neg P) = O := by
  have h1 := padd_x E h (on_neg E h)
  have h2 := padd_y E h (on_neg E h)
  have d1 := denP E h (on_neg E h)
  have d2 := denM E h (on_neg E h)
  unfold On at h
  refine CPt.ext' (E.cancel d1 ?_) (E.cancel d2 ?_)
  · show _ = _ * (0 : Fin q)
    have : (neg P).x = -P.x := rfl
    have : (neg P).y = P.y := rfl
    grind
  · show _ = _ * (1 : Fin q)
    unfold tt at *
    change (padd E P (neg P)).y * (E.c - P.x * -P.x * (P.y * P.y)) = E.c * (P.y * P.y - P.x * -P.x) at h2
    change (E.c - P.x * -P.x * (P.y * P.y)) * (padd E P (neg P)).y = (E.c - P.x * -P.x * (P.y * P.y)) * 1
    clear h1 d1 d2
    generalize (padd E P (neg P)).y = Y at *
    grind

/-- a point n times -/
def nmul (E : Crv q) : Nat → CPt (Fin q) → CPt (Fin q)
  | 0, _ => O
  | n + 1, P => padd E (nmul E n P) P
theorem on_nmul (E : Crv q) {P : CPt (Fin q)} (h : On E P) : ∀ n, On E (nmul E n P)
  | 0 => on_O E
  | n + 1 => on_add E (on_nmul E h n) h
theorem nmul_add (E : Crv q) {P : CPt (Fin q)} (h : On E P) (m : Nat) : ∀ n, nmul E (m + n) P = padd E (nmul E m P) (nmul E n P)
  | 0 => by
    show nmul E m P = padd E (nmul E m P) O
    rw [padd_comm, O_add]
  | n + 1 => by
    show padd E (nmul E (m + n) P) P = padd E (nmul E m P) (padd E (nmul E n P) P)
    rw [nmul_add E h m n, padd_assoc E (on_nmul E h m) (on_nmul E h n) h]
theorem nmul_mul (E : Crv q) {P : CPt (Fin q)} (h : On E P) (m : Nat) : ∀ n, nmul E (m * n) P = nmul E n (nmul E m P)
  | 0 => rfl
  | n + 1 => by
    rw [Nat.mul_succ, nmul_add E h, nmul_mul E h m n]
    rfl
theorem nmul_O (E : Crv q) : ∀ n, nmul E n O = (O : CPt (Fin q))
  | 0 => rfl
  | n + 1 => by
    show padd E (nmul E n O) O = O
    rw [nmul_O E n, O_add]

/-- a fraction that stands for the point: X : Z is 1 + y : 1 - y -/
def Rep (X Z : Fin q) (P : CPt (Fin q)) : Prop := X - Z = P.y * (X + Z) ∧ X + Z ≠ 0

theorem dbl_y (E : Crv q) {P : CPt (Fin q)} (h : On E P) : (padd E P P).y * (2 - P.x * P.x - P.y * P.y) = P.y * P.y - P.x * P.x := by
  have h1 := padd_y E h h
  refine E.cancel E.hc ?_
  unfold tt at h1
  unfold On at h
  generalize (padd E P P).y = Y at *
  generalize E.c = c at *
  have e : P.x * P.x * (P.y * P.y) = c * (P.x * P.x + P.y * P.y - 1) := h
  rw [e] at h1
  clear e h
  grind
theorem dbl_ne (E : Crv q) {P : CPt (Fin q)} (h : On E P) : 2 - P.x * P.x - P.y * P.y ≠ 0 := by
  have d := denM E h h
  unfold tt at d
  unfold On at h
  intro e
  apply d
  rw [h]
  grind
/-- what the factor makes of the curve -/
theorem fac_eq (E : Crv q) {P : CPt (Fin q)} (h : On E P) : P.y * P.y = (1 - P.x * P.x) * (1 + E.k * (1 - P.y * P.y)) := by
  have hkc := E.hkc
  unfold On at h
  refine E.cancel E.hc ?_
  generalize E.c = c at *
  generalize E.k = k at *
  grind
theorem fac_ne (E : Crv q) (y : Fin q) : 1 + E.k * (1 - y * y) ≠ 0 := by
  intro h
  have hkc := E.hkc
  have e : E.k * (E.c - y * y) = E.k * 0 := by grind
  have e2 := E.cancel E.hk e
  have e3 := E.hns y 1 (by grind)
  exact E.hc (by grind)

theorem rep_dbl (E : Crv q) {P : CPt (Fin q)} (h : On E P) {X Z : Fin q} (hr : Rep X Z P) :
    Rep (((X + Z) * (X + Z)) * ((X - Z) * (X - Z))) (((X + Z) * (X + Z) - (X - Z) * (X - Z)) * ((X + Z) * (X + Z) + E.k * ((X + Z) * (X + Z) - (X - Z) * (X - Z)))) (padd E P P) := by
  have hy := dbl_y E h
  have hne := dbl_ne E h
  have hf := fac_eq E h
  have hfn := fac_ne E P.y
  obtain ⟨hb, ha⟩ := hr
  have ha4 := E.mul_ne (E.mul_ne ha ha) (E.mul_ne ha ha)
  have hall := E.mul_ne (E.mul_ne ha4 hfn) hne
  rw [hb]
  generalize X + Z = A at *
  generalize E.k = k at *
  clear hb h ha ha4 hfn hne
  unfold Rep
  have s1 : (A * A) * ((P.y * A) * (P.y * A)) + (A * A - P.y * A * (P.y * A)) * (A * A + k * (A * A - P.y * A * (P.y * A))) = A * A * (A * A) * (1 + k * (1 - P.y * P.y)) * (2 - P.x * P.x - P.y * P.y) := by
    clear hy hall
    have e : (A * A) * ((P.y * A) * (P.y * A)) + (A * A - P.y * A * (P.y * A)) * (A * A + k * (A * A - P.y * A * (P.y * A))) = A * A * (A * A) * (P.y * P.y) + A * A * (A * A) * (1 - P.y * P.y) * (1 + k * (1 - P.y * P.y)) := by clear hf; grind
    rw [e]
    generalize 1 + k * (1 - P.y * P.y) = v at *
    clear e
    have e2 : A * A * (A * A) * (P.y * P.y) = A * A * (A * A) * ((1 - P.x * P.x) * v) := by rw [← hf]
    rw [e2]
    clear e2 hf
    grind
  have s2 : (A * A) * ((P.y * A) * (P.y * A)) - (A * A - P.y * A * (P.y * A)) * (A * A + k * (A * A - P.y * A * (P.y * A))) = A * A * (A * A) * (1 + k * (1 - P.y * P.y)) * (P.y * P.y - P.x * P.x) := by
    clear hy hall s1
    have e : (A * A) * ((P.y * A) * (P.y * A)) - (A * A - P.y * A * (P.y * A)) * (A * A + k * (A * A - P.y * A * (P.y * A))) = A * A * (A * A) * (P.y * P.y) - A * A * (A * A) * (1 - P.y * P.y) * (1 + k * (1 - P.y * P.y)) := by clear hf; grind
    rw [e]
    generalize 1 + k * (1 - P.y * P.y) = v at *
    clear e
    have e2 : A * A * (A * A) * (P.y * P.y) = A * A * (A * A) * ((1 - P.x * P.x) * v) := by rw [← hf]
    rw [e2]
    clear e2 hf
    grind
  rw [s1, s2]
  refine ⟨?_, hall⟩
  rw [← hy]
  clear s1 s2 hall hf hy
  grind

theorem diff_poly (c x y x' y' : Fin q) (e1 : x * x * (y * y) = c * (x * x + y * y - 1)) (e2 : x' * x' * (y' * y') = c * (x' * x' + y' * y' - 1)) :
    (c * c * ((1 + y * y') * (1 + y * y')) - x * x * (x' * x') * ((y * y' + c) * (y * y' + c))) * ((y' - y) * (y' - y)) =
    (c * c * ((1 - y * y') * (1 - y * y')) - x * x * (x' * x') * ((y * y' - c) * (y * y' - c))) * ((y + y') * (y + y')) := by
  grind

theorem dbl0 (E : Crv q) {a : Fin q} (h : a + a = 0) : a = 0 := E.mul0 (a := 2) (b := a) (by grind) E.two

/-- the sum and the difference of two points, by their fractions -/
theorem diff_key (E : Crv q) {P Q : CPt (Fin q)} (hP : On E P) (hQ : On E Q) :
    (1 + (padd E P Q).y) * (1 + (padd E Q (neg P)).y) * ((Q.y - P.y) * (Q.y - P.y)) = (1 - (padd E P Q).y) * (1 - (padd E Q (neg P)).y) * ((P.y + Q.y) * (P.y + Q.y)) := by
  have h1 := padd_y E hP hQ
  have h2 := padd_y E hQ (on_neg E hP)
  have d1 := denM E hP hQ
  have d2 := denM E hQ (on_neg E hP)
  have key := diff_poly E.c P.x P.y Q.x Q.y hP hQ
  refine E.cancel (E.mul_ne d1 d2) ?_
  unfold tt at *
  change (padd E Q (neg P)).y * (E.c - Q.x * -P.x * (Q.y * P.y)) = E.c * (Q.y * P.y - Q.x * -P.x) at h2
  change (E.c - P.x * Q.x * (P.y * Q.y)) * (E.c - Q.x * -P.x * (Q.y * P.y)) * _ = (E.c - P.x * Q.x * (P.y * Q.y)) * (E.c - Q.x * -P.x * (Q.y * P.y)) * _
  clear d1 d2 hP hQ
  generalize (padd E P Q).y = S at *
  generalize (padd E Q (neg P)).y = g at *
  generalize E.c = c at *
  obtain ⟨x, y⟩ := P
  obtain ⟨x', y'⟩ := Q
  simp only at *
  have e0 : c - x' * -x * (y' * y) = c + x * x' * (y * y') := by clear h1 h2 key; grind
  rw [e0] at h2 ⊢
  have u1 : (c - x * x' * (y * y')) * (1 + S) = c - x * x' * (y * y') + c * (y * y' - x * x') := by rw [← h1]; clear h1 h2 key e0; grind
  have u2 : (c + x * x' * (y * y')) * (1 + g) = c + x * x' * (y * y') + c * (y' * y - x' * -x) := by rw [← h2]; clear h1 h2 key e0 u1; grind
  have u3 : (c - x * x' * (y * y')) * (1 - S) = c - x * x' * (y * y') - c * (y * y' - x * x') := by rw [← h1]; clear h1 h2 key e0 u1 u2; grind
  have u4 : (c + x * x' * (y * y')) * (1 - g) = c + x * x' * (y * y') - c * (y' * y - x' * -x) := by rw [← h2]; clear h1 h2 key e0 u1 u2 u3; grind
  have l : (c - x * x' * (y * y')) * (c + x * x' * (y * y')) * ((1 + S) * (1 + g) * ((y' - y) * (y' - y))) = ((c - x * x' * (y * y')) * (1 + S)) * ((c + x * x' * (y * y')) * (1 + g)) * ((y' - y) * (y' - y)) := by clear h1 h2 key e0 u1 u2 u3 u4; grind
  have r : (c - x * x' * (y * y')) * (c + x * x' * (y * y')) * ((1 - S) * (1 - g) * ((y + y') * (y + y'))) = ((c - x * x' * (y * y')) * (1 - S)) * ((c + x * x' * (y * y')) * (1 - g)) * ((y + y') * (y + y')) := by clear h1 h2 key e0 u1 u2 u3 u4 l; grind
  rw [l, r, u1, u2, u3, u4]
  clear l r u1 u2 u3 u4 h1 h2 e0
  grind

/-- a number that stands for a point -/
def Is (u : Fin q) (G : CPt (Fin q)) : Prop := u * (1 - G.y) = 1 + G.y
theorem Is.ne (E : Crv q) {u : Fin q} {G : CPt (Fin q)} (h : Is u G) : 1 - G.y ≠ 0 := by
  intro e
  unfold Is at h
  exact E.two (by grind)

theorem rep_diff (E : Crv q) {P Q : CPt (Fin q)} (hP : On E P) (hQ : On E Q) {u : Fin q} (hu : Is u (padd E Q (neg P))) (hu0 : u ≠ 0) {A A' : Fin q} (hA : A ≠ 0) (hA' : A' ≠ 0) :
    Rep ((Q.y * A' * A + A' * (P.y * A)) * (Q.y * A' * A + A' * (P.y * A))) (u * ((Q.y * A' * A - A' * (P.y * A)) * (Q.y * A' * A - A' * (P.y * A)))) (padd E P Q) := by
  have key := diff_key E hP hQ
  have hne := Is.ne E hu
  have h2 := padd_y E hQ (on_neg E hP)
  have hk2 := E.mul_ne (E.mul_ne hA hA') (E.mul_ne hA hA')
  unfold Is at hu
  -- the two sums, times 1 - g
  have m1 : (1 - (padd E Q (neg P)).y) * ((Q.y * A' * A + A' * (P.y * A)) * (Q.y * A' * A + A' * (P.y * A)) - u * ((Q.y * A' * A - A' * (P.y * A)) * (Q.y * A' * A - A' * (P.y * A)))) = A * A' * (A * A') * ((1 - (padd E Q (neg P)).y) * ((P.y + Q.y) * (P.y + Q.y)) - (1 + (padd E Q (neg P)).y) * ((Q.y - P.y) * (Q.y - P.y))) := by
    rw [← hu]
    clear hu key h2 hk2 hne
    grind
  have m2 : (1 - (padd E Q (neg P)).y) * ((Q.y * A' * A + A' * (P.y * A)) * (Q.y * A' * A + A' * (P.y * A)) + u * ((Q.y * A' * A - A' * (P.y * A)) * (Q.y * A' * A - A' * (P.y * A)))) = A * A' * (A * A') * ((1 - (padd E Q (neg P)).y) * ((P.y + Q.y) * (P.y + Q.y)) + (1 + (padd E Q (neg P)).y) * ((Q.y - P.y) * (Q.y - P.y))) := by
    rw [← hu]
    clear hu key h2 hk2 hne m1
    grind
  have hT : (1 - (padd E Q (neg P)).y) * ((P.y + Q.y) * (P.y + Q.y)) + (1 + (padd E Q (neg P)).y) * ((Q.y - P.y) * (Q.y - P.y)) ≠ 0 := by
    intro hT
    clear m1 m2
    have k1 : (1 - (padd E Q (neg P)).y) * ((P.y + Q.y) * (P.y + Q.y)) = 0 := by
      refine dbl0 E ?_
      generalize (padd E P Q).y = S at *
      generalize (padd E Q (neg P)).y = g at *
      clear h2 hu
      grind
    have k2 : (1 + (padd E Q (neg P)).y) * ((Q.y - P.y) * (Q.y - P.y)) = 0 := by
      clear h2 hu key
      grind
    have hg1 : 1 + (padd E Q (neg P)).y ≠ 0 := by
      intro e
      rw [e] at hu
      exact hu0 (E.mul0 (a := 1 - (padd E Q (neg P)).y) (b := u) (by rw [← hu]; clear key k1 k2 h2 hT; grind) hne)
    have k3 := E.mul0 k1 hne
    have k4 := E.mul0 k2 hg1
    have k5 : P.y + Q.y = 0 := by
      by_cases e : P.y + Q.y = 0
      · exact e
      · exact E.mul0 k3 e
    have k6 : Q.y - P.y = 0 := by
      by_cases e : Q.y - P.y = 0
      · exact e
      · exact E.mul0 k4 e
    have y0 : P.y = 0 := dbl0 E (by clear h2 hu key k1 k2 k3 k4 hT; grind)
    have y1 : Q.y = 0 := by clear h2 hu key k1 k2 k3 k4 hT; grind
    unfold On at hP hQ
    unfold tt at h2
    change (padd E Q (neg P)).y * (E.c - Q.x * -P.x * (Q.y * P.y)) = E.c * (Q.y * P.y - Q.x * -P.x) at h2
    rw [y0] at hP
    rw [y1] at hQ
    rw [y0, y1] at h2
    have p1 : P.x * P.x - 1 = 0 := E.mul0 (a := E.c) (by clear h2 hu key k1 k2 k3 k4 hT hQ; grind) E.hc
    have p2 : Q.x * Q.x - 1 = 0 := E.mul0 (a := E.c) (by clear h2 hu key k1 k2 k3 k4 hT hP p1; grind) E.hc
    have p3 : (padd E Q (neg P)).y = Q.x * P.x := E.cancel E.hc (by clear hu key k1 k2 k3 k4 hT hP hQ p1 p2; grind)
    rw [p3] at hne hg1
    exact E.mul_ne hne hg1 (by clear hu key k1 k2 k3 k4 hT hP hQ p3 h2; grind)
  have hsum := E.mul_ne hk2 hT
  rw [← m2] at hsum
  refine ⟨?_, fun e => hsum (by rw [e]; clear key hu h2 m1 m2 hT hsum; grind)⟩
  refine E.cancel hne ?_
  have fin : (1 - (padd E Q (neg P)).y) * ((padd E P Q).y * ((Q.y * A' * A + A' * (P.y * A)) * (Q.y * A' * A + A' * (P.y * A)) + u * ((Q.y * A' * A - A' * (P.y * A)) * (Q.y * A' * A - A' * (P.y * A))))) = (padd E P Q).y * ((1 - (padd E Q (neg P)).y) * ((Q.y * A' * A + A' * (P.y * A)) * (Q.y * A' * A + A' * (P.y * A)) + u * ((Q.y * A' * A - A' * (P.y * A)) * (Q.y * A' * A - A' * (P.y * A))))) := by
    clear key hu h2 m1 m2 hT hsum
    grind
  rw [fin, m1, m2]
  clear fin m1 m2 hu h2 hT hsum hne hk2
  generalize (padd E P Q).y = S at *
  generalize (padd E Q (neg P)).y = g at *
  have e : (1 - g) * ((P.y + Q.y) * (P.y + Q.y)) - (1 + g) * ((Q.y - P.y) * (Q.y - P.y)) = S * ((1 - g) * ((P.y + Q.y) * (P.y + Q.y)) + (1 + g) * ((Q.y - P.y) * (Q.y - P.y))) := by grind
  rw [e]
  clear e key
  grind

/-- the ladder over the field -/
structure LadA (β : Type) where
  x2 : β
  z2 : β
  x3 : β
  z3 : β
def stepA (k u : Fin q) (l : LadA (Fin q)) : LadA (Fin q) :=
  ⟨((l.x2 + l.z2) * (l.x2 + l.z2)) * ((l.x2 - l.z2) * (l.x2 - l.z2)),
   ((l.x2 + l.z2) * (l.x2 + l.z2) - (l.x2 - l.z2) * (l.x2 - l.z2)) * ((l.x2 + l.z2) * (l.x2 + l.z2) + k * ((l.x2 + l.z2) * (l.x2 + l.z2) - (l.x2 - l.z2) * (l.x2 - l.z2))),
   ((l.x3 - l.z3) * (l.x2 + l.z2) + (l.x3 + l.z3) * (l.x2 - l.z2)) * ((l.x3 - l.z3) * (l.x2 + l.z2) + (l.x3 + l.z3) * (l.x2 - l.z2)),
   u * (((l.x3 - l.z3) * (l.x2 + l.z2) - (l.x3 + l.z3) * (l.x2 - l.z2)) * ((l.x3 - l.z3) * (l.x2 + l.z2) - (l.x3 + l.z3) * (l.x2 - l.z2)))⟩
def swapA (b : Bool) (l : LadA (Fin q)) : LadA (Fin q) := if b then ⟨l.x3, l.z3, l.x2, l.z2⟩ else l
def roundA (k u : Fin q) (l : LadA (Fin q)) (b : Bool) : LadA (Fin q) := swapA b (stepA k u (swapA b l))
def runA (k u : Fin q) (bs : List Bool) : LadA (Fin q) := bs.foldl (roundA k u) ⟨1, 0, u, 1⟩
def bitVal (n : Nat) (b : Bool) : Nat := 2 * n + (if b then 1 else 0)
def valB (bs : List Bool) : Nat := bs.foldl bitVal 0

theorem back (E : Crv q) {P G : CPt (Fin q)} (hP : On E P) (hG : On E G) : padd E (padd E P G) (neg P) = G := by
  rw [padd_comm E P G, padd_assoc E hG hP (on_neg E hP), add_neg E hP, padd_comm, O_add]

theorem round_rep (E : Crv q) {G : CPt (Fin q)} (hG : On E G) {u : Fin q} (hu : Is u G) (hu0 : u ≠ 0) (n : Nat) (b : Bool) (l : LadA (Fin q)) (h2 : Rep l.x2 l.z2 (nmul E n G)) (h3 : Rep l.x3 l.z3 (nmul E (n + 1) G)) :
    Rep (roundA E.k u l b).x2 (roundA E.k u l b).z2 (nmul E (bitVal n b) G) ∧ Rep (roundA E.k u l b).x3 (roundA E.k u l b).z3 (nmul E (bitVal n b + 1) G) := by
  have hP := on_nmul E hG n
  have hQ := on_nmul E hG (n + 1)
  have hQP : padd E (nmul E (n + 1) G) (neg (nmul E n G)) = G := back E hP hG
  have hD := rep_diff E hP hQ (u := u) (by rw [hQP]; exact hu) hu0 h2.2 h3.2
  rw [← h2.1, ← h3.1] at hD
  have hS : nmul E (2 * n + 1) G = padd E (nmul E n G) (nmul E (n + 1) G) := by rw [← nmul_add E hG]; congr 1; omega
  have hS2 : nmul E (2 * n) G = padd E (nmul E n G) (nmul E n G) := by rw [← nmul_add E hG]; congr 1; omega
  have hS3 : nmul E (2 * n + 1 + 1) G = padd E (nmul E (n + 1) G) (nmul E (n + 1) G) := by rw [← nmul_add E hG]; congr 1; omega
  cases b with
  | false =>
    refine ⟨?_, ?_⟩
    · show Rep _ _ (nmul E (2 * n + 0) G)
      rw [Nat.add_zero, hS2]
      exact rep_dbl E hP h2
    · show Rep _ _ (nmul E (2 * n + 0 + 1) G)
      rw [Nat.add_zero, hS]
      exact hD
  | true =>
    refine ⟨?_, ?_⟩
    · show Rep _ _ (nmul E (2 * n + 1) G)
      rw [hS]
      have e1 : ((l.x3 - l.z3) * (l.x2 + l.z2) + (l.x3 + l.z3) * (l.x2 - l.z2)) * ((l.x3 - l.z3) * (l.x2 + l.z2) + (l.x3 + l.z3) * (l.x2 - l.z2)) = (roundA E.k u l true).x2 := by
        show _ = ((l.x2 - l.z2) * (l.x3 + l.z3) + (l.x2 + l.z2) * (l.x3 - l.z3)) * ((l.x2 - l.z2) * (l.x3 + l.z3) + (l.x2 + l.z2) * (l.x3 - l.z3))
        clear hD h2 h3 hu hS hS2 hS3 hP hQ hG hQP
        grind
      have e2 : u * (((l.x3 - l.z3) * (l.x2 + l.z2) - (l.x3 + l.z3) * (l.x2 - l.z2)) * ((l.x3 - l.z3) * (l.x2 + l.z2) - (l.x3 + l.z3) * (l.x2 - l.z2))) = (roundA E.k u l true).z2 := by
        show _ = u * (((l.x2 - l.z2) * (l.x3 + l.z3) - (l.x2 + l.z2) * (l.x3 - l.z3)) * ((l.x2 - l.z2) * (l.x3 + l.z3) - (l.x2 + l.z2) * (l.x3 - l.z3)))
        clear hD h2 h3 hu hS hS2 hS3 hP hQ hG hQP e1
        grind
      rw [← e1, ← e2]
      exact hD
    · show Rep _ _ (nmul E (2 * n + 1 + 1) G)
      rw [hS3]
      exact rep_dbl E hQ h3

theorem fold_rep (E : Crv q) {G : CPt (Fin q)} (hG : On E G) {u : Fin q} (hu : Is u G) (hu0 : u ≠ 0) : ∀ (bs : List Bool) (n : Nat) (l : LadA (Fin q)), Rep l.x2 l.z2 (nmul E n G) → Rep l.x3 l.z3 (nmul E (n + 1) G) →
    Rep (bs.foldl (roundA E.k u) l).x2 (bs.foldl (roundA E.k u) l).z2 (nmul E (bs.foldl bitVal n) G)
  | [], _, _, h2, _ => h2
  | b :: bs, n, l, h2, h3 => by
    have h := round_rep E hG hu hu0 n b l h2 h3
    exact fold_rep E hG hu hu0 bs _ _ h.1 h.2

theorem run_rep (E : Crv q) {G : CPt (Fin q)} (hG : On E G) {u : Fin q} (hu : Is u G) (hu0 : u ≠ 0) (bs : List Bool) :
    Rep (runA E.k u bs).x2 (runA E.k u bs).z2 (nmul E (valB bs) G) := by
  refine fold_rep E hG hu hu0 bs 0 ⟨1, 0, u, 1⟩ ⟨?_, ?_⟩ ?_
  · show (1 : Fin q) - 0 = 1 * (1 + 0); grind
  · show (1 : Fin q) + 0 ≠ 0
    intro h
    exact E.two (by grind)
  · show Rep u 1 (padd E O G)
    rw [O_add]
    unfold Is at hu
    refine ⟨by grind, fun h => E.two ?_⟩
    grind

/-- the number that stands for a point, 0 for none -/
def uo (E : Crv q) (P : CPt (Fin q)) : Fin q := (1 + P.y) * E.inv (1 - P.y)
theorem out_rep (E : Crv q) {P : CPt (Fin q)} {X Z : Fin q} (h : Rep X Z P) : X * E.inv Z = uo E P := by
  obtain ⟨h1, h2⟩ := h
  unfold uo
  by_cases e : 1 - P.y = 0
  · have z0 : Z = 0 := dbl0 E (by clear h2; grind)
    rw [e, z0, E.inv0]
    grind
  · have z0 : Z ≠ 0 := by
      intro z
      subst z
      have : (1 - P.y) * X = 0 := by clear h2; grind
      exact h2 (by rw [E.mul0 this e]; grind)
    have i1 := E.hinv _ e
    have i2 := E.hinv _ z0
    refine E.cancel (E.mul_ne z0 e) ?_
    have l : Z * (1 - P.y) * (X * E.inv Z) = X * (1 - P.y) * (Z * E.inv Z) := by clear i1 i2 h1; grind
    have r : Z * (1 - P.y) * ((1 + P.y) * E.inv (1 - P.y)) = Z * (1 + P.y) * ((1 - P.y) * E.inv (1 - P.y)) := by clear i1 i2 h1 l; grind
    rw [l, r, i1, i2]
    clear l r i1 i2 h2
    grind

def outA (E : Crv q) (u : Fin q) (bs : List Bool) : Fin q := (runA E.k u bs).x2 * E.inv (runA E.k u bs).z2
theorem out_point (E : Crv q) {Q : CPt (Fin q)} (hQ : On E Q) (h0 : uo E Q ≠ 0) (bs : List Bool) : outA E (uo E Q) bs = uo E (nmul E (valB bs) Q) := by
  have hne : 1 - Q.y ≠ 0 := by
    intro e
    apply h0
    unfold uo
    rw [e, E.inv0]
    grind
  have hu : Is (uo E Q) Q := by
    have := E.hinv _ hne
    unfold Is uo
    have e : (1 + Q.y) * E.inv (1 - Q.y) * (1 - Q.y) = (1 + Q.y) * ((1 - Q.y) * E.inv (1 - Q.y)) := by clear this; grind
    rw [e, this]
    grind
  exact out_rep E (run_rep E hQ hu h0 bs)

theorem zero_fold (k : Fin q) : ∀ (bs : List Bool) (l : LadA (Fin q)), l.x2 = 0 → l.z2 = 0 → (bs.foldl (roundA k 0) l).x2 = 0
  | [], _, h, _ => h
  | b :: bs, l, h, h' => by
    refine zero_fold k bs (roundA k 0 l b) ?_ ?_
    · cases b with
      | false =>
        show ((l.x2 + l.z2) * (l.x2 + l.z2)) * ((l.x2 - l.z2) * (l.x2 - l.z2)) = 0
        rw [h, h']; grind
      | true =>
        show ((l.x2 - l.z2) * (l.x3 + l.z3) + (l.x2 + l.z2) * (l.x3 - l.z3)) * ((l.x2 - l.z2) * (l.x3 + l.z3) + (l.x2 + l.z2) * (l.x3 - l.z3)) = 0
        rw [h, h']; grind
    · cases b with
      | false =>
        show ((l.x2 + l.z2) * (l.x2 + l.z2) - (l.x2 - l.z2) * (l.x2 - l.z2)) * ((l.x2 + l.z2) * (l.x2 + l.z2) + k * ((l.x2 + l.z2) * (l.x2 + l.z2) - (l.x2 - l.z2) * (l.x2 - l.z2))) = 0
        rw [h, h']; grind
      | true =>
        show (0 : Fin q) * _ = 0
        grind
theorem out_zero (E : Crv q) (bs : List Bool) : outA E 0 (true :: bs) = 0 := by
  have h : (runA E.k 0 (true :: bs)).x2 = 0 := by
    refine zero_fold E.k bs (roundA E.k 0 ⟨1, 0, 0, 1⟩ true) ?_ ?_
    · show (((1 : Fin q) - 0) * (0 + 1) + (1 + 0) * (0 - 1)) * ((1 - 0) * (0 + 1) + (1 + 0) * (0 - 1)) = 0
      grind
    · show (0 : Fin q) * _ = 0
      grind
  unfold outA
  rw [h]
  grind

theorem two_T (E : Crv q) {T : CPt (Fin q)} (hT : On E T) (hy : T.y * T.y = 1) : nmul E 2 T = O := by
  show padd E (padd E O T) T = O
  rw [O_add]
  unfold On at hT
  have hkc := E.hkc
  have hc1 : 1 - E.c ≠ 0 := by
    intro e
    exact E.two (by clear hT; grind)
  have x2 : T.x * T.x = 0 := E.mul0 (a := 1 - E.c) (by clear hc1 hkc; grind) hc1
  have x0 : T.x = 0 := by
    by_cases e : T.x = 0
    · exact e
    · exact E.mul0 x2 e
  have hi := E.hinv E.c E.hc
  have t0 : tt T T = 0 := by unfold tt; rw [x0]; clear hi hkc hT; grind
  refine CPt.ext' ?_ ?_
  · show E.c * (T.x * T.y + T.y * T.x) * E.inv (E.c + tt T T) = 0
    rw [x0]; clear hi hkc hT; grind
  · show E.c * (T.y * T.y - T.x * T.x) * E.inv (E.c - tt T T) = 1
    have e : E.c - tt T T = E.c := by rw [t0]; clear hi hkc hT; grind
    rw [e, x0, hy]
    clear hT hkc e t0
    grind
theorem uo_O (E : Crv q) : uo E (O : CPt (Fin q)) = 0 := by
  unfold uo O
  have e : (1 : Fin q) - 1 = 0 := by grind
  simp only
  rw [e, E.inv0]
  grind
theorem uo_zero (E : Crv q) {T : CPt (Fin q)} (h : uo E T = 0) : T.y * T.y = 1 := by
  unfold uo at h
  by_cases e : 1 - T.y = 0
  · grind
  · have hi := E.hinv _ e
    have h1 : (1 + T.y) * ((1 - T.y) * E.inv (1 - T.y)) = 0 := by
      have : (1 + T.y) * ((1 - T.y) * E.inv (1 - T.y)) = (1 - T.y) * ((1 + T.y) * E.inv (1 - T.y)) := by clear hi h; grind
      rw [this, h]; grind
    rw [hi] at h1
    clear h hi
    grind
theorem even_zero (E : Crv q) {T : CPt (Fin q)} (hT : On E T) (h : uo E T = 0) (m : Nat) : uo E (nmul E (2 * m) T) = 0 := by
  rw [nmul_mul E hT, two_T E hT (uo_zero E h), nmul_O, uo_O]
theorem val_even (t : List Bool) : valB (t ++ [false]) = 2 * valB t := by
  unfold valB
  rw [List.foldl_append]
  rfl

theorem shares (E : Crv q) {G : CPt (Fin q)} (hG : On E G) {u : Fin q} (hu : Is u G) (hu0 : u ≠ 0) (a b : List Bool)
    (ha : ∃ t, a = true :: t) (hb : ∃ t, b = true :: t) (hae : ∃ t, a = t ++ [false]) (hbe : ∃ t, b = t ++ [false]) :
    outA E (outA E u b) a = outA E (outA E u a) b := by
  have e1 : outA E u a = uo E (nmul E (valB a) G) := out_rep E (run_rep E hG hu hu0 a)
  have e2 : outA E u b = uo E (nmul E (valB b) G) := out_rep E (run_rep E hG hu hu0 b)
  have oa := on_nmul E hG (valB a)
  have ob := on_nmul E hG (valB b)
  have hab : nmul E (valB a) (nmul E (valB b) G) = nmul E (valB b) (nmul E (valB a) G) := by
    rw [← nmul_mul E hG, ← nmul_mul E hG, Nat.mul_comm]
  rw [e1, e2]
  by_cases za : uo E (nmul E (valB a) G) = 0
  · rw [za]
    obtain ⟨tb, htb⟩ := hb
    rw [htb, out_zero, ← htb]
    by_cases zb : uo E (nmul E (valB b) G) = 0
    · rw [zb]
      obtain ⟨ta, hta⟩ := ha
      rw [hta, out_zero]
    · rw [out_point E ob zb a, hab]
      obtain ⟨te, hte⟩ := hbe
      have : valB b = 2 * valB te := by rw [hte, val_even]
      rw [this]
      exact even_zero E oa za _
  · by_cases zb : uo E (nmul E (valB b) G) = 0
    · rw [zb]
      obtain ⟨ta, hta⟩ := ha
      rw [hta, out_zero, ← hta, out_point E oa za b, ← hab]
      obtain ⟨te, hte⟩ := hae
      have : valB a = 2 * valB te := by rw [hte, val_even]
      rw [this]
      exact (even_zero E ob zb _).symm
    · rw [out_point E ob zb a, out_point E oa za b, hab]
end Go.Proofs.YtnfhfibbaeiglaaDoor.Curve