/- The texts Prime, Ferm, Le, Lnum, one behind the other. -/
import Derived.Test.YtnfhfibbaeiglaaDoorAg1
import Derived.Test.YtnfhfibbaeiglaaDoorPow
import Derived.Test.YtnfhfibbaeiglaaDoorAg4
import Derived.Test.YtnfhfibbaeiglaaDoorQl
/- That 2^255 - 19 is a prime, by Pocklington's theorem; Fermat's theorem; and what follows of inverses. Nothing of the program stands here. -/
namespace Go.Proofs.YtnfhfibbaeiglaaDoor.Prime
def IsPrime (p : Nat) : Prop := 2 ≤ p ∧ ∀ m, m ∣ p → m = 1 ∨ m = p

theorem coprime_of {p a : Nat} (hp : IsPrime p) (ha : ¬ p ∣ a) : Nat.gcd p a = 1 := by
  rcases hp.2 _ (Nat.gcd_dvd_left p a) with h | h
  · exact h
  · exact absurd (h ▸ Nat.gcd_dvd_right p a) ha
theorem euclid {p a b : Nat} (hp : IsPrime p) (h : p ∣ a * b) : p ∣ a ∨ p ∣ b := by
  by_cases ha : p ∣ a
  · exact Or.inl ha
  · exact Or.inr (Nat.Coprime.dvd_of_dvd_mul_left (coprime_of hp ha) h)

/-- a row without repeats inside another one that is no longer is its rearrangement -/
theorem perm_of_sub : ∀ (l1 l2 : List Nat), l1.Nodup → (∀ x ∈ l1, x ∈ l2) → l2.length ≤ l1.length → l1.Perm l2
  | [], l2, _, _, h => by
    have : l2 = [] := List.length_eq_zero_iff.1 (by simpa using h)
    rw [this]
  | a :: t, l2, hn, hs, h => by
    have ha : a ∈ l2 := hs a (List.mem_cons_self ..)
    have hn' := List.nodup_cons.1 hn
    have hp := List.perm_cons_erase ha
    refine List.Perm.trans ?_ hp.symm
    refine List.Perm.cons a (perm_of_sub t (l2.erase a) hn'.2 (fun x hx => ?_) ?_)
    · have hxa : x ≠ a := fun e => hn'.1 (e ▸ hx)
      exact (List.mem_erase_of_ne hxa).2 (hs x (List.mem_cons_of_mem _ hx))
    · rw [List.length_erase_of_mem ha]; simp at h; omega

theorem prod_mul (a p : Nat) : ∀ l : List Nat, (l.map fun y => a * y % p).prod % p = a ^ l.length * l.prod % p
  | [] => by simp
  | y :: t => by
    have ih := prod_mul a p t
    simp only [List.map_cons, List.prod_cons, List.length_cons]
    rw [Nat.mul_mod, ih, Nat.mod_mod, ← Nat.mul_mod, Nat.pow_succ]
    congr 1
    rw [Nat.mul_assoc, Nat.mul_assoc, Nat.mul_left_comm y, Nat.mul_left_comm a]
theorem nodup_map {f : Nat → Nat} : ∀ (l : List Nat), l.Nodup → (∀ x ∈ l, ∀ y ∈ l, f x = f y → x = y) → (l.map f).Nodup
  | [], _, _ => by simp
  | a :: t, hn, hi => by
    have hn' := List.nodup_cons.1 hn
    rw [List.map_cons, List.nodup_cons]
    refine ⟨fun h => ?_, nodup_map t hn'.2 fun x hx y hy => hi x (List.mem_cons_of_mem _ hx) y (List.mem_cons_of_mem _ hy)⟩
    obtain ⟨y, hy, e⟩ := List.mem_map.1 h
    exact hn'.1 ((hi y (List.mem_cons_of_mem _ hy) a (List.mem_cons_self ..) e) ▸ hy)
theorem prod_not_dvd {p : Nat} (hp : IsPrime p) : ∀ l : List Nat, (∀ x ∈ l, ¬ p ∣ x) → ¬ p ∣ l.prod
  | [], _ => by
    intro h
    have := Nat.le_of_dvd (by simp) h
    have := hp.1
    simp at *
    omega
  | a :: t, hl => by
    intro h
    rw [List.prod_cons] at h
    rcases euclid hp h with h | h
    · exact hl a (List.mem_cons_self ..) h
    · exact prod_not_dvd hp t (fun x hx => hl x (List.mem_cons_of_mem _ hx)) h

theorem dvd_of_mod_eq {p x y : Nat} (h : x % p = y % p) (hle : y ≤ x) : p ∣ x - y := by
  have := Nat.mod_add_div x p
  have := Nat.mod_add_div y p
  refine ⟨x / p - y / p, ?_⟩
  rw [Nat.mul_sub]
  omega

theorem fermat {p a : Nat} (hp : IsPrime p) (ha : ¬ p ∣ a) : a ^ (p - 1) % p = 1 := by
  have h2 := hp.1
  have hmem : ∀ x, x ∈ List.range' 1 (p - 1) ↔ 1 ≤ x ∧ x < p := fun x => by
    rw [List.mem_range'_1]; omega
  have hnd : ∀ x ∈ List.range' 1 (p - 1), ¬ p ∣ x := fun x hx h => by
    have := (hmem x).1 hx
    have := Nat.le_of_dvd (by omega) h
    omega
  have hinj : ∀ x ∈ List.range' 1 (p - 1), ∀ y ∈ List.range' 1 (p - 1), a * x % p = a * y % p → x = y := by
    have key : ∀ x y, 1 ≤ x → x < p → 1 ≤ y → y < p → y ≤ x → a * x % p = a * y % p → x = y := by
      intro x y hx1 hx2 hy1 hy2 hle e
      have d : p ∣ a * (x - y) := by
        rw [Nat.mul_sub]
        exact dvd_of_mod_eq e (Nat.mul_le_mul_left a hle)
      rcases euclid hp d with h | h
      · exact absurd h ha
      · rcases Nat.eq_zero_or_pos (x - y) with h0 | h0
        · omega
        · have := Nat.le_of_dvd h0 h; omega
    intro x hx y hy e
    have h1 := (hmem x).1 hx
    have h2 := (hmem y).1 hy
    rcases Nat.le_total y x with h | h
    · exact key x y h1.1 h1.2 h2.1 h2.2 h e
    · exact (key y x h2.1 h2.2 h1.1 h1.2 h e.symm).symm
  have hperm : ((List.range' 1 (p - 1)).map fun y => a * y % p).Perm (List.range' 1 (p - 1)) := by
    refine perm_of_sub _ _ (nodup_map _ (List.nodup_range' 1) hinj) (fun x hx => ?_) (by simp)
    obtain ⟨y, hy, rfl⟩ := List.mem_map.1 hx
    rw [hmem]
    have hy' := (hmem y).1 hy
    refine ⟨?_, Nat.mod_lt _ (by omega)⟩
    rcases Nat.eq_zero_or_pos (a * y % p) with h0 | h0
    · exfalso
      rcases euclid hp (Nat.dvd_of_mod_eq_zero h0) with h | h
      · exact ha h
      · exact hnd y hy h
    · exact h0
  have e := prod_mul a p (List.range' 1 (p - 1))
  rw [hperm.prod_nat, List.length_range'] at e
  have hnp := prod_not_dvd hp _ hnd
  generalize (List.range' 1 (p - 1)).prod = Q at *
  generalize hM : a ^ (p - 1) = M at *
  have hM1 : 1 ≤ M := by
    rcases Nat.eq_zero_or_pos M with h | h
    · exfalso
      subst h
      rw [Nat.zero_mul, Nat.zero_mod] at e
      exact hnp (Nat.dvd_of_mod_eq_zero e)
    · exact h
  have d : p ∣ (M - 1) * Q := by
    rw [Nat.sub_mul, Nat.one_mul]
    exact dvd_of_mod_eq e.symm (Nat.le_mul_of_pos_left Q hM1)
  rcases euclid hp d with h | h
  · obtain ⟨k, hk⟩ := h
    have : M = 1 + p * k := by omega
    rw [this, Nat.add_mul_mod_self_left, Nat.mod_eq_of_lt (by omega)]
  · exact absurd h hnp

theorem pow_gcd (q b : Nat) (hq : 2 ≤ q) : ∀ m n : Nat, b ^ m % q = 1 → b ^ n % q = 1 → b ^ (Nat.gcd m n) % q = 1 := by
  intro m n
  induction m, n using Nat.gcd.induction with
  | H0 n => intro _ h; simpa using h
  | H1 m n hm ih =>
    intro h1 h2
    rw [Nat.gcd_rec]
    refine ih ?_ h1
    have e : b ^ n = (b ^ m) ^ (n / m) * b ^ (n % m) := by rw [← Nat.pow_mul, ← Nat.pow_add, Nat.div_add_mod]
    rw [e, Nat.mul_mod, Nat.pow_mod, h1, Nat.one_pow, Nat.mod_eq_of_lt (show 1 < q by omega), Nat.one_mul, Nat.mod_mod] at h2
    exact h2

theorem prime_factor : ∀ n, 2 ≤ n → ∃ q, IsPrime q ∧ q ∣ n := by
  intro n
  induction n using Nat.strongRecOn with
  | _ n ih =>
    intro hn
    by_cases h : ∃ m, m ∣ n ∧ m ≠ 1 ∧ m ≠ n
    · obtain ⟨m, hm, h1, h2⟩ := h
      have hm0 : m ≠ 0 := by
        rintro rfl
        have := Nat.eq_zero_of_zero_dvd hm
        omega
      have hle := Nat.le_of_dvd (by omega) hm
      obtain ⟨q, hq, hd⟩ := ih m (by omega) (by omega)
      exact ⟨q, hq, Nat.dvd_trans hd hm⟩
    · refine ⟨n, ⟨hn, fun m hm => ?_⟩, Nat.dvd_refl n⟩
      by_cases h1 : m = 1
      · exact Or.inl h1
      · refine Or.inr (Classical.byContradiction fun h2 => h ⟨m, hm, h1, h2⟩)
/-- a number without a prime factor up to its root is a prime -/
theorem prime_of_root {n : Nat} (hn : 2 ≤ n) (h : ∀ q, IsPrime q → q ∣ n → n < q * q) : IsPrime n := by
  refine ⟨hn, fun m hm => ?_⟩
  obtain ⟨k, hk⟩ := hm
  by_cases h1 : m = 1
  · exact Or.inl h1
  · refine Or.inr (Classical.byContradiction fun h2 => ?_)
    have hm0 : m ≠ 0 := by rintro rfl; omega
    have hk0 : k ≠ 0 := by rintro rfl; omega
    have hk1 : k ≠ 1 := by rintro rfl; omega
    rcases Nat.le_total m k with hle | hle
    · obtain ⟨q, hq, hd⟩ := prime_factor m (by omega)
      have := h q hq (Nat.dvd_trans hd ⟨k, hk⟩)
      have hqm := Nat.le_of_dvd (by omega) hd
      have := Nat.mul_le_mul hqm (Nat.le_trans hqm hle)
      omega
    · obtain ⟨q, hq, hd⟩ := prime_factor k (by omega)
      have := h q hq (Nat.dvd_trans hd ⟨m, by rw [hk, Nat.mul_comm]⟩)
      have hqk := Nat.le_of_dvd (by omega) hd
      have := Nat.mul_le_mul (Nat.le_trans hqk hle) hqk
      omega

/-- one step: a prime r of N - 1 divides q - 1 for each prime q of N -/
theorem pock_step {N r q a : Nat} (hr : IsPrime r) (hd : r ∣ N - 1) (h1 : a ^ (N - 1) % N = 1) (hg : Nat.gcd (a ^ ((N - 1) / r) % N + (N - 1)) N = 1) (hN : 2 ≤ N) (hq : IsPrime q) (hqN : q ∣ N) : r ∣ q - 1 := by
  have hq2 := hq.1
  obtain ⟨k, hk⟩ := hd
  have hr0 : 0 < r := by have := hr.1; omega
  have hdiv : (N - 1) / r = k := by rw [hk, Nat.mul_div_cancel_left _ hr0]
  rw [hdiv] at hg
  have modq : ∀ x, x % N % q = x % q := fun x => Nat.mod_mod_of_dvd x hqN
  have hb1 : (a ^ k) ^ r % q = 1 := by
    rw [← Nat.pow_mul, Nat.mul_comm k r, ← hk, ← modq, h1, Nat.mod_eq_of_lt (by omega)]
  have hnd : ¬ q ∣ a ^ k := by
    intro h
    have h0 : a ^ k % q = 0 := Nat.mod_eq_zero_of_dvd h
    rw [Nat.pow_mod, h0, Nat.zero_pow hr0, Nat.zero_mod] at hb1
    omega
  have hb2 := fermat hq hnd
  have hb3 := pow_gcd q (a ^ k) hq2 r (q - 1) hb1 hb2
  rcases hr.2 _ (Nat.gcd_dvd_left r (q - 1)) with h | h
  · exfalso
    rw [h, Nat.pow_one] at hb3
    have hx : q ∣ a ^ k % N + (N - 1) := by
      have e1 : (a ^ k % N) % q = 1 := by rw [modq]; exact hb3
      obtain ⟨t, ht⟩ := hqN
      have h5 := Nat.mod_add_div (a ^ k % N) q
      rw [e1] at h5
      refine ⟨a ^ k % N / q + t, ?_⟩
      rw [Nat.mul_add]
      omega
    have := Nat.dvd_gcd hx hqN
    rw [hg] at this
    have := Nat.le_of_dvd (by omega) this
    omega
  · rw [← h]; exact Nat.gcd_dvd_right r (q - 1)

theorem pock1 {N r a : Nat} (hr : IsPrime r) (hd : r ∣ N - 1) (hN : 2 ≤ N) (h1 : a ^ (N - 1) % N = 1) (hg : Nat.gcd (a ^ ((N - 1) / r) % N + (N - 1)) N = 1) (hF : N < r * r) : IsPrime N := by
  refine prime_of_root hN fun q hq hqN => ?_
  have h := pock_step hr hd h1 hg hN hq hqN
  have hq2 := hq.1
  have hle := Nat.le_of_dvd (by omega) h
  have := Nat.mul_le_mul (show r ≤ q by omega) (show r ≤ q by omega)
  omega
theorem pock2 {N r s a : Nat} (hr : IsPrime r) (hs : IsPrime s) (hne : r ≠ s) (hdr : r ∣ N - 1) (hds : s ∣ N - 1) (hN : 2 ≤ N) (h1 : a ^ (N - 1) % N = 1)
    (hgr : Nat.gcd (a ^ ((N - 1) / r) % N + (N - 1)) N = 1) (hgs : Nat.gcd (a ^ ((N - 1) / s) % N + (N - 1)) N = 1) (hF : N < (r * s) * (r * s)) : IsPrime N := by
  refine prime_of_root hN fun q hq hqN => ?_
  have h := pock_step hr hdr h1 hgr hN hq hqN
  have h' := pock_step hs hds h1 hgs hN hq hqN
  have hc : Nat.Coprime r s := by
    refine coprime_of hr fun hd => ?_
    rcases hs.2 r hd with e | e
    · have := hr.1; omega
    · exact hne e
  have hd := Nat.Coprime.mul_dvd_of_dvd_of_dvd hc h h'
  have hq2 := hq.1
  have hle := Nat.le_of_dvd (by omega) hd
  have := Nat.mul_le_mul (show r * s ≤ q by omega) (show r * s ≤ q by omega)
  omega

/-- powers modulo n, by squares -/
def pm (n : Nat) : Nat → Nat → Nat → Nat
  | 0, _, _ => 1 % n
  | f + 1, a, e => if e % 2 = 1 then a * pm n f (a * a % n) (e / 2) % n else pm n f (a * a % n) (e / 2)
theorem pm_eq (n : Nat) : ∀ f a e, e < 2 ^ f → pm n f a e = a ^ e % n
  | 0, a, e, h => by
    have : e = 0 := by simp at h; exact h
    subst this; simp [pm]
  | f + 1, a, e, h => by
    have ih := pm_eq n f (a * a % n) (e / 2) (by rw [Nat.pow_succ] at h; omega)
    unfold pm
    rw [ih, ← Nat.pow_mod]
    have e1 : (a * a) ^ (e / 2) = a ^ (2 * (e / 2)) := by rw [Nat.pow_mul, Nat.pow_two]
    split
    · rename_i h1
      rw [Nat.mul_mod, Nat.mod_mod, ← Nat.mul_mod, e1, Nat.mul_comm, ← Nat.pow_succ]
      congr 2; omega
    · rename_i h1
      rw [e1]
      congr 2; omega

theorem pock1m (N r f a : Nat) (hr : IsPrime r) (hd : (N - 1) % r = 0) (hN : 2 ≤ N) (hf : N < 2 ^ f) (h1 : pm N f a (N - 1) = 1) (hg : Nat.gcd (pm N f a ((N - 1) / r) + (N - 1)) N = 1) (hF : N < r * r) : IsPrime N := by
  rw [pm_eq N f a _ (by omega)] at h1
  rw [pm_eq N f a _ (Nat.lt_of_le_of_lt (Nat.div_le_self _ _) (by omega))] at hg
  exact pock1 hr (Nat.dvd_of_mod_eq_zero hd) hN h1 hg hF
theorem pock2m (N r s f a : Nat) (hr : IsPrime r) (hs : IsPrime s) (hne : (r == s) = false) (hdr : (N - 1) % r = 0) (hds : (N - 1) % s = 0) (hN : 2 ≤ N) (hf : N < 2 ^ f) (h1 : pm N f a (N - 1) = 1)
    (hgr : Nat.gcd (pm N f a ((N - 1) / r) + (N - 1)) N = 1) (hgs : Nat.gcd (pm N f a ((N - 1) / s) + (N - 1)) N = 1) (hF : N < (r * s) * (r * s)) : IsPrime N := by
  rw [pm_eq N f a _ (by omega)] at h1
  rw [pm_eq N f a _ (Nat.lt_of_le_of_lt (Nat.div_le_self _ _) (by omega))] at hgr hgs
  exact pock2 hr hs (by simpa using hne) (Nat.dvd_of_mod_eq_zero hdr) (Nat.dvd_of_mod_eq_zero hds) hN h1 hgr hgs hF

/-- small primes, by trial -/
def noDiv (n : Nat) : Nat → Bool
  | 0 => true
  | k + 1 => (decide (k + 2 ≤ 1) || decide (n % (k + 2) ≠ 0)) && noDiv n k
theorem noDiv_spec (n : Nat) : ∀ k, noDiv n k = true → ∀ m, 2 ≤ m → m ≤ k + 1 → n % m ≠ 0
  | 0, _, m, h1, h2 => by omega
  | k + 1, h, m, h1, h2 => by
    simp only [noDiv, Bool.and_eq_true, Bool.or_eq_true, decide_eq_true_eq] at h
    by_cases e : m = k + 2
    · subst e; rcases h.1 with h | h
      · omega
      · exact h
    · exact noDiv_spec n k h.2 m h1 (by omega)
theorem prime_small (n k : Nat) (hn : 2 ≤ n) (h : noDiv n k = true) (hk : n < (k + 2) * (k + 2)) : IsPrime n := by
  refine prime_of_root hn fun q hq hqn => ?_
  rcases Nat.lt_or_ge (k + 1) q with h1 | h1
  · have := Nat.mul_le_mul (show k + 2 ≤ q by omega) (show k + 2 ≤ q by omega)
    omega
  · exact absurd (Nat.mod_eq_zero_of_dvd hqn) (noDiv_spec n k h q hq.1 h1)

theorem p97 : IsPrime 97 := prime_small 97 9 (by decide) (by decide +kernel) (by decide)
theorem p103 : IsPrime 103 := prime_small 103 10 (by decide) (by decide +kernel) (by decide)
theorem p127 : IsPrime 127 := prime_small 127 11 (by decide) (by decide +kernel) (by decide)
theorem p419 : IsPrime 419 := prime_small 419 20 (by decide) (by decide +kernel) (by decide)
theorem p991 : IsPrime 991 := prime_small 991 31 (by decide) (by decide +kernel) (by decide)
theorem p1723 : IsPrime 1723 := prime_small 1723 41 (by decide) (by decide +kernel) (by decide)
theorem p4153 : IsPrime 4153 := prime_small 4153 64 (by decide) (by decide +kernel) (by decide)
theorem p8574133 : IsPrime 8574133 :=
  pock2m 8574133 991 103 24 2 p991 p103 (by decide +kernel) (by decide +kernel) (by decide +kernel) (by decide +kernel) (by decide +kernel) (by decide +kernel) (by decide +kernel) (by decide +kernel) (by decide +kernel)
theorem p1919519569386763 : IsPrime 1919519569386763 :=
  pock2m 1919519569386763 8574133 127 51 2 p8574133 p127 (by decide +kernel) (by decide +kernel) (by decide +kernel) (by decide +kernel) (by decide +kernel) (by decide +kernel) (by decide +kernel) (by decide +kernel) (by decide +kernel)
theorem p569003 : IsPrime 569003 :=
  pock2m 569003 419 97 20 2 p419 p97 (by decide +kernel) (by decide +kernel) (by decide +kernel) (by decide +kernel) (by decide +kernel) (by decide +kernel) (by decide +kernel) (by decide +kernel) (by decide +kernel)
theorem p2773320623 : IsPrime 2773320623 :=
  pock1m 2773320623 569003 32 2 p569003 (by decide +kernel) (by decide +kernel) (by decide +kernel) (by decide +kernel) (by decide +kernel) (by decide +kernel)
theorem p72106336199 : IsPrime 72106336199 :=
  pock1m 72106336199 2773320623 37 2 p2773320623 (by decide +kernel) (by decide +kernel) (by decide +kernel) (by decide +kernel) (by decide +kernel) (by decide +kernel)
theorem p75445702479781427272750846543864801 : IsPrime 75445702479781427272750846543864801 :=
  pock2m 75445702479781427272750846543864801 1919519569386763 72106336199 116 2 p1919519569386763 p72106336199 (by decide +kernel) (by decide +kernel) (by decide +kernel) (by decide +kernel) (by decide +kernel) (by decide +kernel) (by decide +kernel) (by decide +kernel) (by decide +kernel)
theorem p430751 : IsPrime 430751 :=
  pock1m 430751 1723 19 2 p1723 (by decide +kernel) (by decide +kernel) (by decide +kernel) (by decide +kernel) (by decide +kernel) (by decide +kernel)
theorem p31757755568855353 : IsPrime 31757755568855353 :=
  pock2m 31757755568855353 430751 4153 55 2 p430751 p4153 (by decide +kernel) (by decide +kernel) (by decide +kernel) (by decide +kernel) (by decide +kernel) (by decide +kernel) (by decide +kernel) (by decide +kernel) (by decide +kernel)
theorem p74058212732561358302231226437062788676166966415465897661863160754340907 : IsPrime 74058212732561358302231226437062788676166966415465897661863160754340907 :=
  pock2m 74058212732561358302231226437062788676166966415465897661863160754340907 75445702479781427272750846543864801 31757755568855353 236 2 p75445702479781427272750846543864801 p31757755568855353 (by decide +kernel) (by decide +kernel) (by decide +kernel) (by decide +kernel) (by decide +kernel) (by decide +kernel) (by decide +kernel) (by decide +kernel) (by decide +kernel)
theorem p57896044618658097711785492504343953926634992332820282019728792003956564819949 : IsPrime 57896044618658097711785492504343953926634992332820282019728792003956564819949 :=
  pock1m 57896044618658097711785492504343953926634992332820282019728792003956564819949 74058212732561358302231226437062788676166966415465897661863160754340907 255 2 p74058212732561358302231226437062788676166966415465897661863160754340907 (by decide +kernel) (by decide +kernel) (by decide +kernel) (by decide +kernel) (by decide +kernel) (by decide +kernel)

end Go.Proofs.YtnfhfibbaeiglaaDoor.Prime

/- A number times its power p - 2 leaves 1, if anything is left of it, and else nothing. -/
namespace Go.Proofs.YtnfhfibbaeiglaaDoor
set_option maxRecDepth 100000
open Go.RowKit
theorem exp_succ : (57896044618658097711785492504343953926634992332820282019728792003956564819949 : Nat) - 1 = ExpN + 1 := by decide +kernel
theorem pr_nat : Pr = ((57896044618658097711785492504343953926634992332820282019728792003956564819949 : Nat) : Int) := rfl

theorem fermat_int (A : Int) (h0 : 0 ≤ A) (hA : A % Pr ≠ 0) : (A * (A ^ ExpN % Pr)) % Pr = 1 := by
  obtain ⟨n, rfl⟩ := Int.eq_ofNat_of_zero_le h0
  have hp := Prime.p57896044618658097711785492504343953926634992332820282019728792003956564819949
  have hs := exp_succ
  rw [pr_nat] at *
  generalize (57896044618658097711785492504343953926634992332820282019728792003956564819949 : Nat) = N at *
  generalize ExpN = E at *
  have hnd : ¬ N ∣ n := fun h => hA (by
    have : n % N = 0 := Nat.mod_eq_zero_of_dvd h
    omega)
  have hf := Prime.fermat hp hnd
  rw [hs, Nat.pow_succ] at hf
  rw [Int.mul_emod, Int.emod_emod, ← Int.mul_emod, Int.mul_comm, ← Int.natCast_pow, ← Int.natCast_mul, ← Int.natCast_emod, hf]
  rfl
end Go.Proofs.YtnfhfibbaeiglaaDoor

/- A number's text read again is the number. Nothing of the program's runs stands here. -/
namespace Go.Proofs.YtnfhfibbaeiglaaDoor
set_option maxRecDepth 100000
open Go.RowKit Go.PlainAid
theorem bt_str (l : List Int) (h : ∀ v ∈ l, 0 ≤ v ∧ v < 256) (k : Nat) (hk : k < l.length) : bt (strOfNums l) k = l.getD k 0 := by
  have hs : k < (strOfNums l).size := by rw [strOfNums_size]; exact hk
  have hv := h l[k] (List.getElem_mem hk)
  have e : (strOfNums l)[k]'hs = UInt8.ofNat (l[k]).toNat := by
    show (strOfNums l).data[k]'hs = _
    simp [strOfNums]
  unfold bt
  rw [dif_pos hs, e, List.getD_eq_getElem?_getD, List.getElem?_eq_getElem hk, Option.getD_some]
  rw [UInt8.toNat_ofNat']
  omega
theorem bt_extract (s : ByteArray) (a b k : Nat) (hb : b ≤ s.size) (hk : a + k < b) : bt (s.extract a b) k = bt s (a + k) := by
  have h1 : k < (s.extract a b).size := by rw [ByteArray.size_extract]; omega
  have h2 : a + k < s.size := by omega
  unfold bt
  rw [dif_pos h1, dif_pos h2, ByteArray.getElem_extract]
theorem bytesLE_mem (n : Nat) : ∀ x, ∀ v ∈ bytesLE n x, 0 ≤ v ∧ v < 256 := by
  induction n with
  | zero => intro x v hv; cases hv
  | succ n ih =>
    intro x v hv
    rcases List.mem_cons.1 hv with rfl | hv
    · omega
    · exact ih _ _ hv
/-- what digits tell -/
def valLE : List Int → Int
  | [] => 0
  | d :: r => d + 256 * valLE r
theorem mod_split (x m : Int) (hm : 0 < m) : x % (256 * m) = x % 256 + 256 * (x / 256 % m) := by
  have h1 : x = x % 256 + 256 * (x / 256) := (Int.emod_add_mul_ediv x 256).symm
  have h2 : x / 256 = x / 256 % m + m * (x / 256 / m) := (Int.emod_add_mul_ediv _ _).symm
  have h3 : 0 ≤ x / 256 % m := Int.emod_nonneg _ (by omega)
  have h4 : x / 256 % m < m := Int.emod_lt_of_pos _ hm
  have h5 : x = (x % 256 + 256 * (x / 256 % m)) + (256 * m) * (x / 256 / m) := by
    rw [Int.mul_assoc]
    generalize m * (x / 256 / m) = t at *
    omega
  have h6 : 0 ≤ x % 256 ∧ x % 256 < 256 := by omega
  have h7 : x % (256 * m) = ((x % 256 + 256 * (x / 256 % m)) + (256 * m) * (x / 256 / m)) % (256 * m) := by rw [← h5]
  rw [h7, Int.add_mul_emod_self_left]
  exact Int.emod_eq_of_lt (by omega) (by omega)
theorem valLE_bytesLE (n : Nat) : ∀ x, valLE (bytesLE n x) = x % (256 : Int) ^ n := by
  induction n with
  | zero => intro x; simp [bytesLE, valLE, Int.emod_one]
  | succ n ih =>
    intro x
    simp only [bytesLE, valLE]
    rw [ih, Int.pow_succ, Int.mul_comm ((256 : Int) ^ n) 256, mod_split _ _ (Int.pow_pos (by omega))]
theorem leNum_bt (s : ByteArray) (hs : s.size = 32) : leNum s = valLE [bt s 0, bt s 1, bt s 2, bt s 3, bt s 4, bt s 5, bt s 6, bt s 7, bt s 8, bt s 9, bt s 10, bt s 11, bt s 12, bt s 13, bt s 14, bt s 15,
    bt s 16, bt s 17, bt s 18, bt s 19, bt s 20, bt s 21, bt s 22, bt s 23, bt s 24, bt s 25, bt s 26, bt s 27, bt s 28, bt s 29, bt s 30, bt s 31] := by
  have h0 : ∀ k, k < 8 → bt (s.extract 0 8) k = bt s (0 + k) := fun k hk => bt_extract s 0 8 k (by omega) (by omega)
  have h1 : ∀ k, k < 8 → bt (s.extract 8 16) k = bt s (8 + k) := fun k hk => bt_extract s 8 16 k (by omega) (by omega)
  have h2 : ∀ k, k < 8 → bt (s.extract 16 24) k = bt s (16 + k) := fun k hk => bt_extract s 16 24 k (by omega) (by omega)
  have h3 : ∀ k, k < 8 → bt (s.extract 24 32) k = bt s (24 + k) := fun k hk => bt_extract s 24 32 k (by omega) (by omega)
  unfold leNum word8 val4
  rw [h0 0 (by omega), h0 1 (by omega), h0 2 (by omega), h0 3 (by omega), h0 4 (by omega), h0 5 (by omega), h0 6 (by omega), h0 7 (by omega)]
  rw [h1 0 (by omega), h1 1 (by omega), h1 2 (by omega), h1 3 (by omega), h1 4 (by omega), h1 5 (by omega), h1 6 (by omega), h1 7 (by omega)]
  rw [h2 0 (by omega), h2 1 (by omega), h2 2 (by omega), h2 3 (by omega), h2 4 (by omega), h2 5 (by omega), h2 6 (by omega), h2 7 (by omega)]
  rw [h3 0 (by omega), h3 1 (by omega), h3 2 (by omega), h3 3 (by omega), h3 4 (by omega), h3 5 (by omega), h3 6 (by omega), h3 7 (by omega)]
  simp only [valLE, Nat.zero_add, Nat.reduceAdd]
  generalize bt s 0 = d0; generalize bt s 1 = d1; generalize bt s 2 = d2; generalize bt s 3 = d3; generalize bt s 4 = d4; generalize bt s 5 = d5; generalize bt s 6 = d6; generalize bt s 7 = d7
  generalize bt s 8 = d8; generalize bt s 9 = d9; generalize bt s 10 = d10; generalize bt s 11 = d11; generalize bt s 12 = d12; generalize bt s 13 = d13; generalize bt s 14 = d14; generalize bt s 15 = d15
  generalize bt s 16 = d16; generalize bt s 17 = d17; generalize bt s 18 = d18; generalize bt s 19 = d19; generalize bt s 20 = d20; generalize bt s 21 = d21; generalize bt s 22 = d22; generalize bt s 23 = d23
  generalize bt s 24 = d24; generalize bt s 25 = d25; generalize bt s 26 = d26; generalize bt s 27 = d27; generalize bt s 28 = d28; generalize bt s 29 = d29; generalize bt s 30 = d30; generalize bt s 31 = d31
  omega
theorem list32 (l : List Int) (h : l.length = 32) : [l.getD 0 0, l.getD 1 0, l.getD 2 0, l.getD 3 0, l.getD 4 0, l.getD 5 0, l.getD 6 0, l.getD 7 0, l.getD 8 0, l.getD 9 0, l.getD 10 0, l.getD 11 0, l.getD 12 0, l.getD 13 0, l.getD 14 0, l.getD 15 0,
    l.getD 16 0, l.getD 17 0, l.getD 18 0, l.getD 19 0, l.getD 20 0, l.getD 21 0, l.getD 22 0, l.getD 23 0, l.getD 24 0, l.getD 25 0, l.getD 26 0, l.getD 27 0, l.getD 28 0, l.getD 29 0, l.getD 30 0, l.getD 31 0] = l := by
  rcases l with _ | ⟨_, _ | ⟨_, _ | ⟨_, _ | ⟨_, _ | ⟨_, _ | ⟨_, _ | ⟨_, _ | ⟨_, _ | ⟨_, _ | ⟨_, _ | ⟨_, _ | ⟨_, _ | ⟨_, _ | ⟨_, _ | ⟨_, _ | ⟨_, _ | ⟨_, _ | ⟨_, _ | ⟨_, _ | ⟨_, _ | ⟨_, _ | ⟨_, _ | ⟨_, _ | ⟨_, _ | ⟨_, _ | ⟨_, _ | ⟨_, _ | ⟨_, _ | ⟨_, _ | ⟨_, _ | ⟨_, _ | ⟨_, l⟩⟩⟩⟩⟩⟩⟩⟩⟩⟩⟩⟩⟩⟩⟩⟩⟩⟩⟩⟩⟩⟩⟩⟩⟩⟩⟩⟩⟩⟩⟩⟩ <;> simp at h
  subst h; rfl
theorem leNum_leStr (x : Int) (h0 : 0 ≤ x) (h1 : x < W256) : leNum (leStr x) = x := by
  have hl := bytesLE_length 32 x
  have hb : ∀ k, k < 32 → bt (leStr x) k = (bytesLE 32 x).getD k 0 := fun k hk => bt_str _ (bytesLE_mem 32 x) k (by rw [hl]; exact hk)
  rw [leNum_bt _ (leStr_size x), hb 0 (by omega), hb 1 (by omega), hb 2 (by omega), hb 3 (by omega), hb 4 (by omega), hb 5 (by omega), hb 6 (by omega), hb 7 (by omega), hb 8 (by omega), hb 9 (by omega), hb 10 (by omega), hb 11 (by omega), hb 12 (by omega), hb 13 (by omega), hb 14 (by omega), hb 15 (by omega),
    hb 16 (by omega), hb 17 (by omega), hb 18 (by omega), hb 19 (by omega), hb 20 (by omega), hb 21 (by omega), hb 22 (by omega), hb 23 (by omega), hb 24 (by omega), hb 25 (by omega), hb 26 (by omega), hb 27 (by omega), hb 28 (by omega), hb 29 (by omega), hb 30 (by omega), hb 31 (by omega), list32 _ hl, valLE_bytesLE]
  exact Int.emod_eq_of_lt h0 (by unfold W256 at h1; simpa using h1)
end Go.Proofs.YtnfhfibbaeiglaaDoor

/- The ladder's numbers: texts that tell numbers below the prime; what its methods tell of them. -/
namespace Go.Proofs.YtnfhfibbaeiglaaDoor
set_option maxRecDepth 100000
open Go.RowKit Go.Sort
/-- a number that is left -/
def Rd (x : Int) : Prop := 0 ≤ x ∧ x < Pr
theorem Rd.mod (x : Int) : Rd (x % Pr) := ⟨Int.emod_nonneg _ (by have := pr_pos; omega), Int.emod_lt_of_pos _ pr_pos⟩
theorem Rd.num {x : Int} (h : Rd x) : leNum (leStr x) = x := by
  obtain ⟨h0, h1⟩ := h
  refine leNum_leStr x h0 ?_
  unfold Pr at h1
  unfold W256
  omega
/-- a call that hands back a text, and leaves what was there -/
def Tells (x : Int) (w : World) (e : Ending) (w' : World) : Prop := e = .returned (.string (leStr x)) ∧ Below w.heap.size w w'

set_option maxHeartbeats 1000000 in
theorem lplus {x y : Int} (hx : Rd x) (hy : Rd y) (w : World) (hP : PrimeAt w) :
    Calls Tryd.prog 27 #[.string (leStr x), .string (leStr y)] w (Tells ((x + y) % Pr) w) := by
  have H := add_good _ _ (leStr_size x) (leStr_size y) w hP
  rw [hx.num, hy.num] at H
  have HH := Lib.hid H
  clear H
  go_enter Tryd.func27, Tryd.ntmps27
  go_wp2_with fail
  refine HH.out.mono ?_
  rintro e w1 ⟨rfl, hb1⟩
  go_wp2_with fail
  go_ret
  exact ⟨rfl, hb1⟩
set_option maxHeartbeats 1000000 in
theorem lminus {x y : Int} (hx : Rd x) (hy : Rd y) (w : World) (hP : PrimeAt w) :
    Calls Tryd.prog 28 #[.string (leStr x), .string (leStr y)] w (Tells ((x - y) % Pr) w) := by
  have H := sub_good _ _ (leStr_size x) (leStr_size y) w hP
  rw [hx.num, hy.num] at H
  have HH := Lib.hid H
  clear H
  go_enter Tryd.func28, Tryd.ntmps28
  go_wp2_with fail
  refine HH.out.mono ?_
  rintro e w1 ⟨rfl, hb1⟩
  go_wp2_with fail
  go_ret
  exact ⟨rfl, hb1⟩
set_option maxHeartbeats 1000000 in
theorem ltimes {x y : Int} (hx : Rd x) (hy : Rd y) (w : World) (hP : PrimeAt w) :
    Calls Tryd.prog 30 #[.string (leStr x), .string (leStr y)] w (Tells ((x * y) % Pr) w) := by
  have H := mul_good _ _ (leStr_size x) (leStr_size y) w hP
  rw [hx.num, hy.num] at H
  have HH := Lib.hid H
  clear H
  go_enter Tryd.func30, Tryd.ntmps30
  go_wp2_with fail
  refine HH.out.mono ?_
  rintro e w1 ⟨rfl, hb1⟩
  go_wp2_with fail
  go_ret
  exact ⟨rfl, hb1⟩
set_option maxHeartbeats 1000000 in
theorem lsquare {x : Int} (hx : Rd x) (w : World) (hP : PrimeAt w) :
    Calls Tryd.prog 29 #[.string (leStr x)] w (Tells ((x * x) % Pr) w) := by
  have HH := Lib.hid (ltimes hx hx w hP)
  go_enter Tryd.func29, Tryd.ntmps29
  go_wp2_with fail
  refine HH.out.mono ?_
  rintro e w1 ⟨rfl, hb1⟩
  go_wp2_with fail
  go_ret
  exact ⟨rfl, hb1⟩
set_option maxHeartbeats 1000000 in
theorem linverse {x : Int} (hx : Rd x) (w : World) (hP : PrimeAt w) :
    Calls Tryd.prog 31 #[.string (leStr x)] w (Tells (x ^ ExpN % Pr) w) := by
  have H := inv_good _ (leStr_size x) w hP
  rw [hx.num] at H
  have HH := Lib.hid H
  clear H
  go_enter Tryd.func31, Tryd.ntmps31
  go_wp2_with fail
  refine HH.out.mono ?_
  rintro e w1 ⟨rfl, hb1⟩
  go_wp2_with fail
  go_ret
  exact ⟨rfl, hb1⟩

/-- the same, in every world in which nothing of W has turned -/
theorem gplus {W : World} (hP : PrimeAt W) {x y : Int} (hx : Rd x) (hy : Rd y) (d : Nat) (os : Array Obj) :
    Calls Tryd.prog 27 #[.string (leStr x), .string (leStr y)] (grow (redrawn W d) os) fun e w'' => e = .returned (.string (leStr ((x + y) % Pr))) ∧ ∃ p : Regrown, w'' = grow (redrawn W p.d) p.os :=
  Calls.regrown_of (lplus hx hy _ (hP.below (below_regrown W d os) hP.lt))
theorem gminus {W : World} (hP : PrimeAt W) {x y : Int} (hx : Rd x) (hy : Rd y) (d : Nat) (os : Array Obj) :
    Calls Tryd.prog 28 #[.string (leStr x), .string (leStr y)] (grow (redrawn W d) os) fun e w'' => e = .returned (.string (leStr ((x - y) % Pr))) ∧ ∃ p : Regrown, w'' = grow (redrawn W p.d) p.os :=
  Calls.regrown_of (lminus hx hy _ (hP.below (below_regrown W d os) hP.lt))
theorem gtimes {W : World} (hP : PrimeAt W) {x y : Int} (hx : Rd x) (hy : Rd y) (d : Nat) (os : Array Obj) :
    Calls Tryd.prog 30 #[.string (leStr x), .string (leStr y)] (grow (redrawn W d) os) fun e w'' => e = .returned (.string (leStr ((x * y) % Pr))) ∧ ∃ p : Regrown, w'' = grow (redrawn W p.d) p.os :=
  Calls.regrown_of (ltimes hx hy _ (hP.below (below_regrown W d os) hP.lt))
theorem gsquare {W : World} (hP : PrimeAt W) {x : Int} (hx : Rd x) (d : Nat) (os : Array Obj) :
    Calls Tryd.prog 29 #[.string (leStr x)] (grow (redrawn W d) os) fun e w'' => e = .returned (.string (leStr ((x * x) % Pr))) ∧ ∃ p : Regrown, w'' = grow (redrawn W p.d) p.os :=
  Calls.regrown_of (lsquare hx _ (hP.below (below_regrown W d os) hP.lt))
theorem ginverse {W : World} (hP : PrimeAt W) {x : Int} (hx : Rd x) (d : Nat) (os : Array Obj) :
    Calls Tryd.prog 31 #[.string (leStr x)] (grow (redrawn W d) os) fun e w'' => e = .returned (.string (leStr (x ^ ExpN % Pr))) ∧ ∃ p : Regrown, w'' = grow (redrawn W p.d) p.os :=
  Calls.regrown_of (linverse hx _ (hP.below (below_regrown W d os) hP.lt))
end Go.Proofs.YtnfhfibbaeiglaaDoor
