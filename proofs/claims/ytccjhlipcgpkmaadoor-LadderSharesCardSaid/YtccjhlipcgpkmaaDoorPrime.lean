/- That 2^255 - 19 is a prime, by Pocklington's theorem; Fermat's theorem; and what follows of inverses. Nothing of the program stands here. -/
import Derived.Test.YtccjhlipcgpkmaaDoorNum
namespace Go.Proofs.YtccjhlipcgpkmaaDoor.Prime

def IsPrime (p : Nat) : Prop := 2 ≤ p ∧ ∀ m, m ∣ p → m = 1 ∨ m = p

theorem coprime_of {p a : Nat} (hp : IsPrime p) (ha : ¬ p ∣ a) : Nat.gcd p a = 1 := by
  rcases hp.2 _ (Nat.gcd_dvd_left p a) with h | h
  · exact h
  · exact absurd (h ▸ Nat.gcd_dvd_right p a) ha
theorem euclid {p a b : Nat} (hp : IsPrime p) (h : p ∣ a * b) : p ∣ a ∨ p ∣ b := by
  by_cases ha : p ∣ a
  · exact Or.inl ha
  · exact Or.inr (Nat.Coprime.dvd_of_dvd_mul_left (coprime_of hp ha) h)

/-- a row without repeats inside another one that is no longer is its rearrangement -/
theorem perm_of_sub : ∀ (l1 l2 : List Nat), l1.Nodup → (∀ x ∈ l1, x ∈ l2) → l2.length ≤ l1.length → l1.Perm l2
  | [], l2, _, _, h => by
    have : l2 = [] := List.length_eq_zero_iff.1 (by simpa using h)
    rw [this]
  | a :: t, l2, hn, hs, h => by
    have ha : a ∈ l2 := hs a (List.mem_cons_self ..)
    have hn' := List.nodup_cons.1 hn
    have hp := List.perm_cons_erase ha
    refine List.Perm.trans ?_ hp.symm
    refine List.Perm.cons a (perm_of_sub t (l2.erase a) hn'.2 (fun x hx => ?_) ?_)
    · have hxa : x ≠ a := fun e => hn'.1 (e ▸ hx)
      exact (List.mem_erase_of_ne hxa).2 (hs x (List.mem_cons_of_mem _ hx))
    · rw [List.length_erase_of_mem ha]; simp at h; omega

theorem prod_mul (a p : Nat) : ∀ l : List Nat, (l.map fun y => a * y % p).prod % p = a ^ l.length * l.prod % p
  | [] => by simp
  | y :: t => by
    have ih := prod_mul a p t
    simp only [List.map_cons, List.prod_cons, List.length_cons]
    rw [Nat.mul_mod, ih, Nat.mod_mod, ← Nat.mul_mod, Nat.pow_succ]
    congr 1
    rw [Nat.mul_assoc, Nat.mul_assoc, Nat.mul_left_comm y, Nat.mul_left_comm a]
theorem nodup_map {f : Nat → Nat} : ∀ (l : List Nat), l.Nodup → (∀ x ∈ l, ∀ y ∈ l, f x = f y → x = y) → (l.map f).Nodup
  | [], _, _ => by simp
  | a :: t, hn, hi => by
    have hn' := List.nodup_cons.1 hn
    rw [List.map_cons, List.nodup_cons]
    refine ⟨fun h => ?_, nodup_map t hn'.2 fun x hx y hy => hi x (List.mem_cons_of_mem _ hx) y (List.mem_cons_of_mem _ hy)⟩
    obtain ⟨y, hy, e⟩ := List.mem_map.1 h
    exact hn'.1 ((hi y (List.mem_cons_of_mem _ hy) a (List.mem_cons_self ..) e) ▸ hy)
theorem prod_not_dvd {p : Nat} (hp : IsPrime p) : ∀ l : List Nat, (∀ x ∈ l, ¬ p ∣ x) → ¬ p ∣ l.prod
  | [], _ => by
    intro h
    have := Nat.le_of_dvd (by simp) h
    have := hp.1
    simp at *
    omega
  | a :: t, hl => by
    intro h
    rw [List.prod_cons] at h
    rcases euclid hp h with h | h
    · exact hl a (List.mem_cons_self ..) h
    · exact prod_not_dvd hp t (fun x hx => hl x (List.mem_cons_of_mem _ hx)) h

theorem dvd_of_mod_eq {p x y : Nat} (h : x % p = y % p) (hle : y ≤ x) : p ∣ x - y := by
  have := Nat.mod_add_div x p
  have := Nat.mod_add_div y p
  refine ⟨x / p - y / p, ?_⟩
  rw [Nat.mul_sub]
  omega

theorem fermat {p a : Nat} (hp : IsPrime p) (ha : ¬ p ∣ a) : a ^ (p - 1) % p = 1 := by
  have h2 := hp.1
  have hmem : ∀ x, x ∈ List.range' 1 (p - 1) ↔ 1 ≤ x ∧ x < p := fun x => by
    rw [List.mem_range'_1]; omega
  have hnd : ∀ x ∈ List.range' 1 (p - 1), ¬ p ∣ x := fun x hx h => by
    have := (hmem x).1 hx
    have := Nat.le_of_dvd (by omega) h
    omega
  have hinj : ∀ x ∈ List.range' 1 (p - 1), ∀ y ∈ List.range' 1 (p - 1), a * x % p = a * y % p → x = y := by
    have key : ∀ x y, 1 ≤ x → x < p → 1 ≤ y → y < p → y ≤ x → a * x % p = a * y % p → x = y := by
      intro x y hx1 hx2 hy1 hy2 hle e
      have d : p ∣ a * (x - y) := by
        rw [Nat.mul_sub]
        exact dvd_of_mod_eq e (Nat.mul_le_mul_left a hle)
      rcases euclid hp d with h | h
      · exact absurd h ha
      · rcases Nat.eq_zero_or_pos (x - y) with h0 | h0
        · omega
        · have := Nat.le_of_dvd h0 h; omega
    intro x hx y hy e
    have h1 := (hmem x).1 hx
    have h2 := (hmem y).1 hy
    rcases Nat.le_total y x with h | h
    · exact key x y h1.1 h1.2 h2.1 h2.2 h e
    · exact (key y x h2.1 h2.2 h1.1 h1.2 h e.symm).symm
  have hperm : ((List.range' 1 (p - 1)).map fun y => a * y % p).Perm (List.range' 1 (p - 1)) := by
    refine perm_of_sub _ _ (nodup_map _ (List.nodup_range' 1) hinj) (fun x hx => ?_) (by simp)
    obtain ⟨y, hy, rfl⟩ := List.mem_map.1 hx
    rw [hmem]
    have hy' := (hmem y).1 hy
    refine ⟨?_, Nat.mod_lt _ (by omega)⟩
    rcases Nat.eq_zero_or_pos (a * y % p) with h0 | h0
    · exfalso
      rcases euclid hp (Nat.dvd_of_mod_eq_zero h0) with h | h
      · exact ha h
      · exact hnd y hy h
    · exact h0
  have e := prod_mul a p (List.range' 1 (p - 1))
  rw [hperm.prod_nat, List.length_range'] at e
  have hnp := prod_not_dvd hp _ hnd
  generalize (List.range' 1 (p - 1)).prod = Q at *
  generalize hM : a ^ (p - 1) = M at *
  have hM1 : 1 ≤ M := by
    rcases Nat.eq_zero_or_pos M with h | h
    · exfalso
      subst h
      rw [Nat.zero_mul, Nat.zero_mod] at e
      exact hnp (Nat.dvd_of_mod_eq_zero e)
    · exact h
  have d : p ∣ (M - 1) * Q := by
    rw [Nat.sub_mul, Nat.one_mul]
    exact dvd_of_mod_eq e.symm (Nat.le_mul_of_pos_left Q hM1)
  rcases euclid hp d with h | h
  · obtain ⟨k, hk⟩ := h
    have : M = 1 + p * k := by omega
    rw [this, Nat.add_mul_mod_self_left, Nat.mod_eq_of_lt (by omega)]
  · exact absurd h hnp

theorem pow_gcd (q b : Nat) (hq : 2 ≤ q) : ∀ m n : Nat, b ^ m % q = 1 → b ^ n % q = 1 → b ^ (Nat.gcd m n) % q = 1 := by
  intro m n
  induction m, n using Nat.gcd.induction with
  | H0 n => intro _ h; simpa using h
  | H1 m n hm ih =>
    intro h1 h2
    rw [Nat.gcd_rec]
    refine ih ?_ h1
    have e : b ^ n = (b ^ m) ^ (n / m) * b ^ (n % m) := by rw [← Nat.pow_mul, ← Nat.pow_add, Nat.div_add_mod]
    rw [e, Nat.mul_mod, Nat.pow_mod, h1, Nat.one_pow, Nat.mod_eq_of_lt (show 1 < q by omega), Nat.one_mul, Nat.mod_mod] at h2
    exact h2

theorem prime_factor : ∀ n, 2 ≤ n → ∃ q, IsPrime q ∧ q ∣ n := by
  intro n
  induction n using Nat.strongRecOn with
  | _ n ih =>
    intro hn
    by_cases h : ∃ m, m ∣ n ∧ m ≠ 1 ∧ m ≠ n
    · obtain ⟨m, hm, h1, h2⟩ := h
      have hm0 : m ≠ 0 := by
        rintro rfl
        have := Nat.eq_zero_of_zero_dvd hm
        omega
      have hle := Nat.le_of_dvd (by omega) hm
      obtain ⟨q, hq, hd⟩ := ih m (by omega) (by omega)
      exact ⟨q, hq, Nat.dvd_trans hd hm⟩
    · refine ⟨n, ⟨hn, fun m hm => ?_⟩, Nat.dvd_refl n⟩
      by_cases h1 : m = 1
      · exact Or.inl h1
      · refine Or.inr (Classical.byContradiction fun h2 => h ⟨m, hm, h1, h2⟩)
/-- a number without a prime factor up to its root is a prime -/
theorem prime_of_root {n : Nat} (hn : 2 ≤ n) (h : ∀ q, IsPrime q → q ∣ n → n < q * q) : IsPrime n := by
  refine ⟨hn, fun m hm => ?_⟩
  obtain ⟨k, hk⟩ := hm
  by_cases h1 : m = 1
  · exact Or.inl h1
  · refine Or.inr (Classical.byContradiction fun h2 => ?_)
    have hm0 : m ≠ 0 := by rintro rfl; omega
    have hk0 : k ≠ 0 := by rintro rfl; omega
    have hk1 : k ≠ 1 := by rintro rfl; omega
    rcases Nat.le_total m k with hle | hle
    · obtain ⟨q, hq, hd⟩ := prime_factor m (by omega)
      have := h q hq (Nat.dvd_trans hd ⟨k, hk⟩)
      have hqm := Nat.le_of_dvd (by omega) hd
      have := Nat.mul_le_mul hqm (Nat.le_trans hqm hle)
      omega
    · obtain ⟨q, hq, hd⟩ := prime_factor k (by omega)
      have := h q hq (Nat.dvd_trans hd ⟨m, by rw [hk, Nat.mul_comm]⟩)
      have hqk := Nat.le_of_dvd (by omega) hd
      have := Nat.mul_le_mul (Nat.le_trans hqk hle) hqk
      omega

/-- one step: a prime r of N - 1 divides q - 1 for each prime q of N -/
theorem pock_step {N r q a : Nat} (hr : IsPrime r) (hd : r ∣ N - 1) (h1 : a ^ (N - 1) % N = 1) (hg : Nat.gcd (a ^ ((N - 1) / r) % N + (N - 1)) N = 1) (hN : 2 ≤ N) (hq : IsPrime q) (hqN : q ∣ N) : r ∣ q - 1 := by
  have hq2 := hq.1
  obtain ⟨k, hk⟩ := hd
  have hr0 : 0 < r := by have := hr.1; omega
  have hdiv : (N - 1) / r = k := by rw [hk, Nat.mul_div_cancel_left _ hr0]
  rw [hdiv] at hg
  have modq : ∀ x, x % N % q = x % q := fun x => Nat.mod_mod_of_dvd x hqN
  have hb1 : (a ^ k) ^ r % q = 1 := by
    rw [← Nat.pow_mul, Nat.mul_comm k r, ← hk, ← modq, h1, Nat.mod_eq_of_lt (by omega)]
  have hnd : ¬ q ∣ a ^ k := by
    intro h
    have h0 : a ^ k % q = 0 := Nat.mod_eq_zero_of_dvd h
    rw [Nat.pow_mod, h0, Nat.zero_pow hr0, Nat.zero_mod] at hb1
    omega
  have hb2 := fermat hq hnd
  have hb3 := pow_gcd q (a ^ k) hq2 r (q - 1) hb1 hb2
  rcases hr.2 _ (Nat.gcd_dvd_left r (q - 1)) with h | h
  · exfalso
    rw [h, Nat.pow_one] at hb3
    have hx : q ∣ a ^ k % N + (N - 1) := by
      have e1 : (a ^ k % N) % q = 1 := by rw [modq]; exact hb3
      obtain ⟨t, ht⟩ := hqN
      have h5 := Nat.mod_add_div (a ^ k % N) q
      rw [e1] at h5
      refine ⟨a ^ k % N / q + t, ?_⟩
      rw [Nat.mul_add]
      omega
    have := Nat.dvd_gcd hx hqN
    rw [hg] at this
    have := Nat.le_of_dvd (by omega) this
    omega
  · rw [← h]; exact Nat.gcd_dvd_right r (q - 1)

theorem pock1 {N r a : Nat} (hr : IsPrime r) (hd : r ∣ N - 1) (hN : 2 ≤ N) (h1 : a ^ (N - 1) % N = 1) (hg : Nat.gcd (a ^ ((N - 1) / r) % N + (N - 1)) N = 1) (hF : N < r * r) : IsPrime N := by
  refine prime_of_root hN fun q hq hqN => ?_
  have h := pock_step hr hd h1 hg hN hq hqN
  have hq2 := hq.1
  have hle := Nat.le_of_dvd (by omega) h
  have := Nat.mul_le_mul (show r ≤ q by omega) (show r ≤ q by omega)
  omega
theorem pock2 {N r s a : Nat} (hr : IsPrime r) (hs : IsPrime s) (hne : r ≠ s) (hdr : r ∣ N - 1) (hds : s ∣ N - 1) (hN : 2 ≤ N) (h1 : a ^ (N - 1) % N = 1)
    (hgr : Nat.gcd (a ^ ((N - 1) / r) % N + (N - 1)) N = 1) (hgs : Nat.gcd (a ^ ((N - 1) / s) % N + (N - 1)) N = 1) (hF : N < (r * s) * (r * s)) : IsPrime N := by
  refine prime_of_root hN fun q hq hqN => ?_
  have h := pock_step hr hdr h1 hgr hN hq hqN
  have h' := pock_step hs hds h1 hgs hN hq hqN
  have hc : Nat.Coprime r s := by
    refine coprime_of hr fun hd => ?_
    rcases hs.2 r hd with e | e
    · have := hr.1; omega
    · exact hne e
  have hd := Nat.Coprime.mul_dvd_of_dvd_of_dvd hc h h'
  have hq2 := hq.1
  have hle := Nat.le_of_dvd (by omega) hd
  have := Nat.mul_le_mul (show r * s ≤ q by omega) (show r * s ≤ q by omega)
  omega

/-- powers modulo n, by squares -/
def pm (n : Nat) : Nat → Nat → Nat → Nat
  | 0, _, _ => 1 % n
  | f + 1, a, e => if e % 2 = 1 then a * pm n f (a * a % n) (e / 2) % n else pm n f (a * a % n) (e / 2)
theorem pm_eq (n : Nat) : ∀ f a e, e < 2 ^ f → pm n f a e = a ^ e % n
  | 0, a, e, h => by
    have : e = 0 := by simp at h; exact h
    subst this; simp [pm]
  | f + 1, a, e, h => by
    have ih := pm_eq n f (a * a % n) (e / 2) (by rw [Nat.pow_succ] at h; omega)
    unfold pm
    rw [ih, ← Nat.pow_mod]
    have e1 : (a * a) ^ (e / 2) = a ^ (2 * (e / 2)) := by rw [Nat.pow_mul, Nat.pow_two]
    split
    · rename_i h1
      rw [Nat.mul_mod, Nat.mod_mod, ← Nat.mul_mod, e1, Nat.mul_comm, ← Nat.pow_succ]
      congr 2; omega
    · rename_i h1
      rw [e1]
      congr 2; omega

theorem pock1m (N r f a : Nat) (hr : IsPrime r) (hd : (N - 1) % r = 0) (hN : 2 ≤ N) (hf : N < 2 ^ f) (h1 : pm N f a (N - 1) = 1) (hg : Nat.gcd (pm N f a ((N - 1) / r) + (N - 1)) N = 1) (hF : N < r * r) : IsPrime N := by
  rw [pm_eq N f a _ (by omega)] at h1
  rw [pm_eq N f a _ (Nat.lt_of_le_of_lt (Nat.div_le_self _ _) (by omega))] at hg
  exact pock1 hr (Nat.dvd_of_mod_eq_zero hd) hN h1 hg hF
theorem pock2m (N r s f a : Nat) (hr : IsPrime r) (hs : IsPrime s) (hne : (r == s) = false) (hdr : (N - 1) % r = 0) (hds : (N - 1) % s = 0) (hN : 2 ≤ N) (hf : N < 2 ^ f) (h1 : pm N f a (N - 1) = 1)
    (hgr : Nat.gcd (pm N f a ((N - 1) / r) + (N - 1)) N = 1) (hgs : Nat.gcd (pm N f a ((N - 1) / s) + (N - 1)) N = 1) (hF : N < (r * s) * (r * s)) : IsPrime N := by
  rw [pm_eq N f a _ (by omega)] at h1
  rw [pm_eq N f a _ (Nat.lt_of_le_of_lt (Nat.div_le_self _ _) (by omega))] at hgr hgs
  exact pock2 hr hs (by simpa using hne) (Nat.dvd_of_mod_eq_zero hdr) (Nat.dvd_of_mod_eq_zero hds) hN h1 hgr hgs hF

/-- small primes, by trial -/
def noDiv (n : Nat) : Nat → Bool
  | 0 => true
  | k + 1 => (decide (k + 2 ≤ 1) || decide (n % (k + 2) ≠ 0)) && noDiv n k
theorem noDiv_spec (n : Nat) : ∀ k, noDiv n k = true → ∀ m, 2 ≤ m → m ≤ k + 1 → n % m ≠ 0
  | 0, _, m, h1, h2 => by omega
  | k + 1, h, m, h1, h2 => by
    simp only [noDiv, Bool.and_eq_true, Bool.or_eq_true, decide_eq_true_eq] at h
    by_cases e : m = k + 2
    · subst e; rcases h.1 with h | h
      · omega
      · exact h
    · exact noDiv_spec n k h.2 m h1 (by omega)
theorem prime_small (n k : Nat) (hn : 2 ≤ n) (h : noDiv n k = true) (hk : n < (k + 2) * (k + 2)) : IsPrime n := by
  refine prime_of_root hn fun q hq hqn => ?_
  rcases Nat.lt_or_ge (k + 1) q with h1 | h1
  · have := Nat.mul_le_mul (show k + 2 ≤ q by omega) (show k + 2 ≤ q by omega)
    omega
  · exact absurd (Nat.mod_eq_zero_of_dvd hqn) (noDiv_spec n k h q hq.1 h1)

theorem p97 : IsPrime 97 := prime_small 97 9 (by decide) (by decide +kernel) (by decide)
theorem p103 : IsPrime 103 := prime_small 103 10 (by decide) (by decide +kernel) (by decide)
theorem p127 : IsPrime 127 := prime_small 127 11 (by decide) (by decide +kernel) (by decide)
theorem p419 : IsPrime 419 := prime_small 419 20 (by decide) (by decide +kernel) (by decide)
theorem p991 : IsPrime 991 := prime_small 991 31 (by decide) (by decide +kernel) (by decide)
theorem p1723 : IsPrime 1723 := prime_small 1723 41 (by decide) (by decide +kernel) (by decide)
theorem p4153 : IsPrime 4153 := prime_small 4153 64 (by decide) (by decide +kernel) (by decide)
theorem p8574133 : IsPrime 8574133 :=
  pock2m 8574133 991 103 24 2 p991 p103 (by decide +kernel) (by decide +kernel) (by decide +kernel) (by decide +kernel) (by decide +kernel) (by decide +kernel) (by decide +kernel) (by decide +kernel) (by decide +kernel)
theorem p1919519569386763 : IsPrime 1919519569386763 :=
  pock2m 1919519569386763 8574133 127 51 2 p8574133 p127 (by decide +kernel) (by decide +kernel) (by decide +kernel) (by decide +kernel) (by decide +kernel) (by decide +kernel) (by decide +kernel) (by decide +kernel) (by decide +kernel)
theorem p569003 : IsPrime 569003 :=
  pock2m 569003 419 97 20 2 p419 p97 (by decide +kernel) (by decide +kernel) (by decide +kernel) (by decide +kernel) (by decide +kernel) (by decide +kernel) (by decide +kernel) (by decide +kernel) (by decide +kernel)
theorem p2773320623 : IsPrime 2773320623 :=
  pock1m 2773320623 569003 32 2 p569003 (by decide +kernel) (by decide +kernel) (by decide +kernel) (by decide +kernel) (by decide +kernel) (by decide +kernel)
theorem p72106336199 : IsPrime 72106336199 :=
  pock1m 72106336199 2773320623 37 2 p2773320623 (by decide +kernel) (by decide +kernel) (by decide +kernel) (by decide +kernel) (by decide +kernel) (by decide +kernel)
theorem p75445702479781427272750846543864801 : IsPrime 75445702479781427272750846543864801 :=
  pock2m 75445702479781427272750846543864801 1919519569386763 72106336199 116 2 p1919519569386763 p72106336199 (by decide +kernel) (by decide +kernel) (by decide +kernel) (by decide +kernel) (by decide +kernel) (by decide +kernel) (by decide +kernel) (by decide +kernel) (by decide +kernel)
theorem p430751 : IsPrime 430751 :=
  pock1m 430751 1723 19 2 p1723 (by decide +kernel) (by decide +kernel) (by decide +kernel) (by decide +kernel) (by decide +kernel) (by decide +kernel)
theorem p31757755568855353 : IsPrime 31757755568855353 :=
  pock2m 31757755568855353 430751 4153 55 2 p430751 p4153 (by decide +kernel) (by decide +kernel) (by decide +kernel) (by decide +kernel) (by decide +kernel) (by decide +kernel) (by decide +kernel) (by decide +kernel) (by decide +kernel)
theorem p74058212732561358302231226437062788676166966415465897661863160754340907 : IsPrime 74058212732561358302231226437062788676166966415465897661863160754340907 :=
  pock2m 74058212732561358302231226437062788676166966415465897661863160754340907 75445702479781427272750846543864801 31757755568855353 236 2 p75445702479781427272750846543864801 p31757755568855353 (by decide +kernel) (by decide +kernel) (by decide +kernel) (by decide +kernel) (by decide +kernel) (by decide +kernel) (by decide +kernel) (by decide +kernel) (by decide +kernel)
theorem p57896044618658097711785492504343953926634992332820282019728792003956564819949 : IsPrime 57896044618658097711785492504343953926634992332820282019728792003956564819949 :=
  pock1m 57896044618658097711785492504343953926634992332820282019728792003956564819949 74058212732561358302231226437062788676166966415465897661863160754340907 255 2 p74058212732561358302231226437062788676166966415465897661863160754340907 (by decide +kernel) (by decide +kernel) (by decide +kernel) (by decide +kernel) (by decide +kernel) (by decide +kernel)

end Go.Proofs.YtccjhlipcgpkmaaDoor.Prime
