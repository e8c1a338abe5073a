/- Plain number theory: primes, the little theorem of Fermat, a certificate of primality after Pocklington. It imports nothing of the program. -/
/- The primes: P = 2^255 - 19 and L, the order of the base, by certificates that the kernel checks. -/
import Derived.KernelRfl
namespace Go.Proofs.YtbojijefenfbgaaDoor
namespace Nt

def IsPrime (p : Nat) : Prop := 1 < p ∧ ∀ m, m ∣ p → m = 1 ∨ m = p

theorem IsPrime.pos {p : Nat} (h : IsPrime p) : 0 < p := by have := h.1; omega
theorem IsPrime.coprime {p : Nat} (h : IsPrime p) (a : Nat) (ha : ¬ p ∣ a) : Nat.Coprime a p := by
  have hd : Nat.gcd a p ∣ p := Nat.gcd_dvd_right _ _
  rcases h.2 _ hd with e | e
  · exact e
  · exact absurd (e ▸ Nat.gcd_dvd_left a p) ha
theorem IsPrime.dvd_mul {p : Nat} (h : IsPrime p) {a b : Nat} (hab : p ∣ a * b) : p ∣ a ∨ p ∣ b := by
  by_cases ha : p ∣ a
  · exact .inl ha
  · exact .inr ((Nat.Coprime.symm (h.coprime a ha)).dvd_of_dvd_mul_left hab)

/-- Binomial numbers. -/
def bin : Nat → Nat → Nat
  | _, 0 => 1
  | 0, _ + 1 => 0
  | n + 1, k + 1 => bin n k + bin n (k + 1)
theorem bin_zero (n : Nat) : bin n 0 = 1 := by cases n <;> rfl
theorem bin_gt (n k : Nat) (h : n < k) : bin n k = 0 := by
  induction n generalizing k with
  | zero => cases k with
    | zero => omega
    | succ k => rfl
  | succ n ih => cases k with
    | zero => omega
    | succ k => simp only [bin]; rw [ih k (by omega), ih (k + 1) (by omega)]
theorem bin_self (n : Nat) : bin n n = 1 := by
  induction n with
  | zero => rfl
  | succ n ih => simp only [bin]; rw [ih, bin_gt n (n + 1) (by omega)]
theorem bin_mul (n k : Nat) : (k + 1) * bin (n + 1) (k + 1) = (n + 1) * bin n k := by
  induction n generalizing k with
  | zero => cases k with
    | zero => rfl
    | succ k => simp [bin]
  | succ n ih => cases k with
    | zero =>
      have := ih 0
      simp only [bin_zero, Nat.mul_one, Nat.zero_add, Nat.one_mul] at this ⊢
      show bin (n + 1) 0 + bin (n + 1) 1 = n + 1 + 1
      rw [this, bin_zero]; omega
    | succ j =>
      have h1 := ih j
      have h2 := ih (j + 1)
      have e : bin (n + 1) (j + 1) = bin n j + bin n (j + 1) := rfl
      have e2 : bin (n + 1 + 1) (j + 1 + 1) = bin (n + 1) (j + 1) + bin (n + 1) (j + 1 + 1) := rfl
      rw [e2, Nat.mul_add, h2]
      rw [show j + 1 + 1 = (j + 1) + 1 from rfl, Nat.add_mul (j + 1) 1, h1, Nat.one_mul]
      rw [Nat.add_mul (n + 1) 1, Nat.one_mul]
      rw [show (n + 1) * bin (n + 1) (j + 1) = (n + 1) * bin n j + (n + 1) * bin n (j + 1) by rw [e, Nat.mul_add]]
      omega

def sumTo (n a : Nat) : Nat → Nat
  | 0 => 0
  | m + 1 => sumTo n a m + bin n m * a ^ m
theorem sumTo_succ (n a m : Nat) : sumTo (n + 1) a (m + 1) = sumTo n a (m + 1) + a * sumTo n a m := by
  induction m with
  | zero => simp [sumTo, bin_zero]
  | succ m ih =>
    rw [sumTo, ih]
    rw [show sumTo n a (m + 1 + 1) = sumTo n a (m + 1) + bin n (m + 1) * a ^ (m + 1) from rfl]
    rw [show bin (n + 1) (m + 1) = bin n m + bin n (m + 1) from rfl, Nat.add_mul]
    rw [show a * sumTo n a (m + 1) = a * sumTo n a m + a * (bin n m * a ^ m) by rw [sumTo, Nat.mul_add]]
    rw [show a * (bin n m * a ^ m) = bin n m * a ^ (m + 1) by rw [Nat.pow_succ, Nat.mul_left_comm, Nat.mul_comm a (a ^ m)]]
    omega
theorem binomial (n a : Nat) : (a + 1) ^ n = sumTo n a (n + 1) := by
  induction n with
  | zero => simp [sumTo, bin_zero]
  | succ n ih =>
    rw [Nat.pow_succ, ih, sumTo_succ]
    rw [show sumTo n a (n + 1 + 1) = sumTo n a (n + 1) + bin n (n + 1) * a ^ (n + 1) from rfl, bin_gt n (n + 1) (by omega)]
    rw [Nat.mul_add, Nat.mul_one, Nat.mul_comm]
    omega

theorem bin_dvd {p : Nat} (h : IsPrime p) (k : Nat) (h1 : 0 < k) (h2 : k < p) : p ∣ bin p k := by
  obtain ⟨n, rfl⟩ : ∃ n, p = n + 1 := ⟨p - 1, by have := h.1; omega⟩
  obtain ⟨j, rfl⟩ : ∃ j, k = j + 1 := ⟨k - 1, by omega⟩
  have e := bin_mul n j
  have hd : n + 1 ∣ (j + 1) * bin (n + 1) (j + 1) := ⟨bin n j, e⟩
  rcases h.dvd_mul hd with hc | hc
  · exact absurd (Nat.le_of_dvd (by omega) hc) (by omega)
  · exact hc
theorem sumTo_mod {p : Nat} (h : IsPrime p) (a k : Nat) (hk : k < p) : sumTo p a (k + 1) % p = 1 % p := by
  induction k with
  | zero => simp [sumTo, bin_zero]
  | succ k ih =>
    rw [sumTo, Nat.add_mod, ih (by omega)]
    obtain ⟨c, hc⟩ := bin_dvd h (k + 1) (by omega) hk
    rw [hc, Nat.mul_assoc, Nat.mul_mod_right]
    simp
theorem fermat {p : Nat} (h : IsPrime p) (a : Nat) : a ^ p % p = a % p := by
  induction a with
  | zero => rw [Nat.zero_pow h.pos]
  | succ a ih =>
    obtain ⟨n, hn⟩ : ∃ n, p = n + 1 := ⟨p - 1, by have := h.1; omega⟩
    rw [binomial, sumTo, bin_self, Nat.one_mul, Nat.add_mod, ih]
    have e : sumTo p a p % p = 1 % p := by
      have := sumTo_mod h a n (by omega)
      rw [← hn] at this
      exact this
    rw [e, ← Nat.add_mod, Nat.add_comm]
theorem mod_of_dvd_sub {a b m : Nat} (h : a ≤ b) (hd : m ∣ b - a) : b % m = a % m := by
  obtain ⟨c, hc⟩ := hd
  rw [show b = a + m * c by omega, Nat.add_mul_mod_self_left]
theorem fermat_one {p : Nat} (h : IsPrime p) (a : Nat) (ha : ¬ p ∣ a) : a ^ (p - 1) % p = 1 := by
  have h1 := h.1
  have e := fermat h a
  have hpos : 0 < a ^ (p - 1) := Nat.pow_pos (Nat.pos_of_ne_zero (fun h0 => ha (h0 ▸ Nat.dvd_zero p)))
  have hp : a ^ p = a * a ^ (p - 1) := by
    conv => lhs; rw [show p = (p - 1) + 1 by omega, Nat.pow_succ, Nat.mul_comm]
  have hd : p ∣ a * (a ^ (p - 1) - 1) := by
    rw [Nat.mul_sub, Nat.mul_one, ← hp]
    exact Nat.dvd_of_mod_eq_zero (Nat.sub_mod_eq_zero_of_mod_eq e)
  rcases h.dvd_mul hd with hc | hc
  · exact absurd hc ha
  · rw [mod_of_dvd_sub hpos hc]; exact Nat.mod_eq_of_lt h1

/-- A prime divisor. -/
theorem exists_prime (n : Nat) (h : 1 < n) : ∃ p, IsPrime p ∧ p ∣ n := by
  induction n using Nat.strongRecOn with
  | _ n ih =>
    by_cases hp : IsPrime n
    · exact ⟨n, hp, Nat.dvd_refl n⟩
    · have : ∃ m, m ∣ n ∧ m ≠ 1 ∧ m ≠ n := Classical.byContradiction fun hno => hp ⟨h, fun m hm => by
        by_cases h1 : m = 1
        · exact .inl h1
        · by_cases h2 : m = n
          · exact .inr h2
          · exact absurd ⟨m, hm, h1, h2⟩ hno⟩
      obtain ⟨m, hm, h1, h2⟩ := this
      have hle := Nat.le_of_dvd (by omega) hm
      have hpos : 0 < m := Nat.pos_of_dvd_of_pos hm (by omega)
      obtain ⟨p, hpp, hd⟩ := ih m (by omega) (by omega)
      exact ⟨p, hpp, Nat.dvd_trans hd hm⟩

theorem pow_mod_one {a p e : Nat} (h : a ^ e % p = 1 % p) (k : Nat) : a ^ (e * k) % p = 1 % p := by
  rw [Nat.pow_mul, Nat.pow_mod, h, ← Nat.pow_mod, Nat.one_pow]

/-- If a to e and a to f are 1 modulo p, a to gcd e f is. -/
theorem pow_gcd {a p : Nat} (e f : Nat) (h1 : a ^ e % p = 1 % p) (h2 : a ^ f % p = 1 % p) : a ^ Nat.gcd e f % p = 1 % p := by
  induction e, f using Nat.gcd.induction with
  | H0 f => rw [Nat.gcd_zero_left]; exact h2
  | H1 e f hpos ih =>
    rw [Nat.gcd_rec]
    refine ih ?_ h1
    have hd := Nat.div_add_mod f e
    have hk := pow_mod_one h1 (f / e)
    rw [← hd, Nat.pow_add, Nat.mul_mod, hk, ← Nat.mul_mod, Nat.one_mul] at h2
    exact h2

theorem mod_of_mod {a b m p : Nat} (hd : p ∣ m) (h : a % m = b % m) : a % p = b % p := by
  rw [← Nat.mod_mod_of_dvd a hd, h, Nat.mod_mod_of_dvd b hd]

/-- One step of Pocklington's: a prime q of n - 1 divides p - 1 for each prime p of n. -/
theorem pock_dvd {n q a r p : Nat} (hn : n = q * r + 1) (hq : IsPrime q) (h1 : a ^ (n - 1) % n = 1 % n) (h2 : Nat.gcd (a ^ r % n + n - 1) n = 1) (hp : IsPrime p) (hpn : p ∣ n) : q ∣ p - 1 := by
  refine Classical.byContradiction fun hnot => ?_
  have hp1 := hp.1
  have hn0 : 0 < n := by omega
  have e1 : a ^ (n - 1) % p = 1 % p := mod_of_mod hpn h1
  have hr0 : 0 < n - 1 := by
    rcases Nat.eq_zero_or_pos (n - 1) with h0 | h0
    · exfalso
      have hn1 : n = 1 := by omega
      subst hn1
      have := Nat.le_of_dvd (by omega) hpn
      omega
    · exact h0
  have hpa : ¬ p ∣ a := fun hd => by
    have : p ∣ a ^ (n - 1) := Nat.dvd_trans hd (by rw [show n - 1 = (n - 2) + 1 by omega, Nat.pow_succ]; exact Nat.dvd_mul_left a _)
    rw [Nat.mod_eq_zero_of_dvd this, Nat.mod_eq_of_lt hp1] at e1
    omega
  have e2 : a ^ (p - 1) % p = 1 % p := by rw [fermat_one hp a hpa, Nat.mod_eq_of_lt hp1]
  have e3 := pow_gcd (n - 1) (p - 1) e1 e2
  -- the gcd of n - 1 = q r and p - 1 divides r
  have hg : Nat.gcd (n - 1) (p - 1) ∣ r := by
    have hco : Nat.Coprime (Nat.gcd (n - 1) (p - 1)) q := by
      have hc := hq.coprime (p - 1) hnot
      exact Nat.Coprime.coprime_dvd_left (Nat.gcd_dvd_right _ _) hc
    have hd : Nat.gcd (n - 1) (p - 1) ∣ q * r := by
      have := Nat.gcd_dvd_left (n - 1) (p - 1)
      rwa [show n - 1 = q * r by omega] at this ⊢
    exact hco.dvd_of_dvd_mul_left hd
  obtain ⟨c, hc⟩ := hg
  have e4 : a ^ r % p = 1 % p := by rw [hc]; exact pow_mod_one e3 c
  have hd : p ∣ a ^ r % n + n - 1 := by
    obtain ⟨k, hk⟩ := hpn
    have e5 : (a ^ r % n) % p = 1 % p := by rw [Nat.mod_mod_of_dvd _ ⟨k, hk⟩]; exact e4
    have hkpos : 0 < k := Nat.pos_of_ne_zero fun h0 => by rw [h0, Nat.mul_zero] at hk; omega
    have e6 : (a ^ r % n + n) % p = 1 % p := by rw [Nat.add_mod, e5, hk, Nat.mul_mod_right]; simp
    have := Nat.sub_mod_eq_zero_of_mod_eq e6
    exact Nat.dvd_of_mod_eq_zero this
  have := Nat.dvd_gcd hd hpn
  rw [h2] at this
  have := Nat.le_of_dvd (by omega) this
  omega
/-- If each prime of n is greater than its root, n is prime. -/
theorem prime_of_large {n : Nat} (h1 : 1 < n) (h : ∀ p, IsPrime p → p ∣ n → n < p * p) : IsPrime n := by
  refine ⟨h1, fun m hm => ?_⟩
  by_cases hm1 : m = 1
  · exact .inl hm1
  · right
    have hmpos : 0 < m := Nat.pos_of_dvd_of_pos hm (by omega)
    obtain ⟨c, hc⟩ := hm
    by_cases hc1 : c = 1
    · rw [hc, hc1, Nat.mul_one]
    · exfalso
      have hcpos : 0 < c := Nat.pos_of_ne_zero fun h0 => by rw [h0, Nat.mul_zero] at hc; omega
      obtain ⟨p, hp, hpm⟩ := exists_prime m (by omega)
      obtain ⟨p', hp', hpc⟩ := exists_prime c (by omega)
      have a1 := h p hp (Nat.dvd_trans hpm ⟨c, hc⟩)
      have a2 := h p' hp' (Nat.dvd_trans hpc ⟨m, by rw [Nat.mul_comm]; exact hc⟩)
      have b1 := Nat.le_of_dvd hmpos hpm
      have b2 := Nat.le_of_dvd hcpos hpc
      have hle : p * p' ≤ n := by rw [hc]; exact Nat.mul_le_mul b1 b2
      rcases Nat.le_total p p' with hpp | hpp
      · have := Nat.mul_le_mul_left p hpp; omega
      · have := Nat.mul_le_mul_right p' hpp; omega
theorem pock_one {n q a r : Nat} (h0 : 1 < n) (hn : n = q * r + 1) (hq : IsPrime q) (hbig : n < (q + 1) * (q + 1)) (h1 : a ^ (n - 1) % n = 1 % n) (h2 : Nat.gcd (a ^ r % n + n - 1) n = 1) : IsPrime n := by
  refine prime_of_large h0 (fun p hp hpn => ?_)
  have hd := pock_dvd hn hq h1 h2 hp hpn
  have hp1 := hp.1
  have hle := Nat.le_of_dvd (by omega) hd
  exact Nat.lt_of_lt_of_le hbig (Nat.mul_le_mul (by omega) (by omega))
theorem pock_two {n q r q' r' a : Nat} (h0 : 1 < n) (hn : n = q * r + 1) (hn' : n = q' * r' + 1) (hq : IsPrime q) (hq' : IsPrime q') (hne : Nat.gcd q q' = 1) (hbig : n < (q * q' + 1) * (q * q' + 1))
    (h1 : a ^ (n - 1) % n = 1 % n) (h2 : Nat.gcd (a ^ r % n + n - 1) n = 1) (h2' : Nat.gcd (a ^ r' % n + n - 1) n = 1) : IsPrime n := by
  refine prime_of_large h0 (fun p hp hpn => ?_)
  have hd := pock_dvd hn hq h1 h2 hp hpn
  have hd' := pock_dvd hn' hq' h1 h2' hp hpn
  have hp1 := hp.1
  have hle := Nat.le_of_dvd (by omega) (Nat.Coprime.mul_dvd_of_dvd_of_dvd hne hd hd')
  exact Nat.lt_of_lt_of_le hbig (Nat.mul_le_mul (by omega) (by omega))

/-- A number modulo m, to a power, by squarings (fuel bits). -/
def powMod (m : Nat) : Nat → Nat → Nat → Nat
  | 0, _, _ => 1 % m
  | f + 1, a, e => if e % 2 = 1 then a * powMod m f (a * a % m) (e / 2) % m else powMod m f (a * a % m) (e / 2)
theorem powMod_eq (m : Nat) (f a e : Nat) (h : e < 2 ^ f) : powMod m f a e = a ^ e % m := by
  induction f generalizing a e with
  | zero => obtain rfl : e = 0 := by simpa using h
            rfl
  | succ f ih =>
    rw [Nat.pow_succ] at h
    have hd := Nat.div_add_mod e 2
    simp only [powMod]
    rw [ih _ _ (by omega)]
    have e1 : (a * a % m) ^ (e / 2) % m = a ^ (2 * (e / 2)) % m := by rw [← Nat.pow_mod, Nat.pow_mul, Nat.pow_two]
    by_cases ho : e % 2 = 1
    · rw [if_pos ho, e1, Nat.mul_mod_mod]
      conv => rhs; rw [← hd, ho, Nat.pow_succ, Nat.mul_comm]
    · rw [if_neg ho, e1]
      conv => rhs; rw [← hd, show e % 2 = 0 by omega, Nat.add_zero]
theorem r_lt {n q r : Nat} (hn : n = q * r + 1) (hq : IsPrime q) : r < n := by
  have := Nat.le_mul_of_pos_left r hq.pos
  omega
theorem cert_one {n q a r : Nat} (f : Nat) (h0 : 1 < n) (hf : n ≤ 2 ^ f) (hn : n = q * r + 1) (hq : IsPrime q) (hbig : n < (q + 1) * (q + 1)) (h1 : powMod n f a (n - 1) = 1 % n) (h2 : Nat.gcd (powMod n f a r + n - 1) n = 1) : IsPrime n := by
  have hr := r_lt hn hq
  rw [powMod_eq n f a _ (by omega)] at h1 h2
  exact pock_one h0 hn hq hbig h1 h2
theorem cert_two {n q r q' r' a : Nat} (f : Nat) (h0 : 1 < n) (hf : n ≤ 2 ^ f) (hn : n = q * r + 1) (hn' : n = q' * r' + 1) (hq : IsPrime q) (hq' : IsPrime q') (hne : Nat.gcd q q' = 1) (hbig : n < (q * q' + 1) * (q * q' + 1))
    (h1 : powMod n f a (n - 1) = 1 % n) (h2 : Nat.gcd (powMod n f a r + n - 1) n = 1) (h2' : Nat.gcd (powMod n f a r' + n - 1) n = 1) : IsPrime n := by
  have hr := r_lt hn hq
  have hr' := r_lt hn' hq'
  rw [powMod_eq n f a _ (by omega)] at h1 h2 h2'
  exact pock_two h0 hn hn' hq hq' hne hbig h1 h2 h2'
/-- Trial division from d on (fuel f): no divisor up to the root. -/
def noDiv (n : Nat) : Nat → Nat → Bool
  | 0, _ => false
  | f + 1, d => if n < d * d then true else if n % d = 0 then false else noDiv n f (d + 1)
theorem noDiv_spec (n f d : Nat) (h : noDiv n f d = true) (m : Nat) (hm : d ≤ m) (hmm : m * m ≤ n) : ¬ m ∣ n := by
  induction f generalizing d with
  | zero => simp [noDiv] at h
  | succ f ih =>
    simp only [noDiv] at h
    by_cases h1 : n < d * d
    · have := Nat.mul_le_mul hm hm; omega
    · rw [if_neg h1] at h
      by_cases h2 : n % d = 0
      · rw [if_pos h2] at h; cases h
      · rw [if_neg h2] at h
        by_cases e : d = m
        · subst e; exact fun hd => h2 (Nat.mod_eq_zero_of_dvd hd)
        · exact ih (d + 1) h (by omega)
theorem prime_of_trial {n : Nat} (f : Nat) (h1 : 1 < n) (h : noDiv n f 2 = true) : IsPrime n := by
  refine prime_of_large h1 (fun p hp hpn => ?_)
  have hp1 := hp.1
  rcases Nat.lt_or_ge n (p * p) with hl | hl
  · exact hl
  · exact absurd hpn (noDiv_spec n f 2 h p (by omega) hl)
end Nt
end Go.Proofs.YtbojijefenfbgaaDoor
namespace Go.Proofs.YtbojijefenfbgaaDoor
namespace Nt
theorem prime_0 : IsPrime 8574133 := prime_of_trial 10000 (by decide) (by kernel_rfl)
theorem prime_1 : IsPrime 127 := prime_of_trial 10000 (by decide) (by kernel_rfl)
theorem prime_2 : IsPrime 1919519569386763 :=
  cert_two (f := 256) (q := 8574133) (r := 223873314) (q' := 127) (r' := 15114327318006) (a := 2) (by decide) (by decide) (by decide) (by decide) prime_0 prime_1 (by decide) (by decide) (by kernel_rfl) (by kernel_rfl) (by kernel_rfl)
theorem prime_3 : IsPrime 569003 := prime_of_trial 10000 (by decide) (by kernel_rfl)
theorem prime_4 : IsPrime 2773320623 :=
  cert_one (f := 256) (q := 569003) (r := 4874) (a := 2) (by decide) (by decide) (by decide) prime_3 (by decide) (by kernel_rfl) (by kernel_rfl)
theorem prime_5 : IsPrime 72106336199 :=
  cert_one (f := 256) (q := 2773320623) (r := 26) (a := 2) (by decide) (by decide) (by decide) prime_4 (by decide) (by kernel_rfl) (by kernel_rfl)
theorem prime_6 : IsPrime 75445702479781427272750846543864801 :=
  cert_two (f := 256) (q := 1919519569386763) (r := 39304471641247389600) (q' := 72106336199) (r' := 1046311689884858398375200) (a := 2) (by decide) (by decide) (by decide) (by decide) prime_2 prime_5 (by decide) (by decide) (by kernel_rfl) (by kernel_rfl) (by kernel_rfl)
theorem prime_7 : IsPrime 430751 := prime_of_trial 10000 (by decide) (by kernel_rfl)
theorem prime_8 : IsPrime 4153 := prime_of_trial 10000 (by decide) (by kernel_rfl)
theorem prime_9 : IsPrime 31757755568855353 :=
  cert_two (f := 256) (q := 430751) (r := 73726481352) (q' := 4153) (r' := 7646943310584) (a := 2) (by decide) (by decide) (by decide) (by decide) prime_7 prime_8 (by decide) (by decide) (by kernel_rfl) (by kernel_rfl) (by kernel_rfl)
theorem prime_10 : IsPrime 74058212732561358302231226437062788676166966415465897661863160754340907 :=
  cert_two (f := 256) (q := 75445702479781427272750846543864801) (r := 981609426360740691344999861639072106) (q' := 31757755568855353) (r' := 2331972502653487852620185443007392165117953542933313402) (a := 2) (by decide) (by decide) (by decide) (by decide) prime_6 prime_9 (by decide) (by decide) (by kernel_rfl) (by kernel_rfl) (by kernel_rfl)
theorem prime_P : IsPrime 57896044618658097711785492504343953926634992332820282019728792003956564819949 :=
  cert_one (f := 256) (q := 74058212732561358302231226437062788676166966415465897661863160754340907) (r := 781764) (a := 2) (by decide) (by decide) (by decide) prime_10 (by decide) (by kernel_rfl) (by kernel_rfl)
theorem prime_12 : IsPrime 1224481 := prime_of_trial 10000 (by decide) (by kernel_rfl)
theorem prime_13 : IsPrime 531581 := prime_of_trial 10000 (by decide) (by kernel_rfl)
theorem prime_14 : IsPrime 1257559732178653 :=
  cert_two (f := 256) (q := 1224481) (r := 1027014492) (q' := 531581) (r' := 2365697292) (a := 2) (by decide) (by decide) (by decide) (by decide) prime_12 prime_13 (by decide) (by decide) (by kernel_rfl) (by kernel_rfl) (by kernel_rfl)
theorem prime_15 : IsPrime 4434155615661930479 :=
  cert_one (f := 256) (q := 1257559732178653) (r := 3526) (a := 2) (by decide) (by decide) (by decide) prime_14 (by decide) (by kernel_rfl) (by kernel_rfl)
theorem prime_16 : IsPrime 172054593956031949258510691 :=
  cert_one (f := 256) (q := 4434155615661930479) (r := 38802110) (a := 2) (by decide) (by decide) (by decide) prime_15 (by decide) (by kernel_rfl) (by kernel_rfl)
theorem prime_17 : IsPrime 19757330305831588566944191468367130476339 :=
  cert_one (f := 256) (q := 172054593956031949258510691) (r := 114831751082918) (a := 2) (by decide) (by decide) (by decide) prime_16 (by decide) (by kernel_rfl) (by kernel_rfl)
theorem prime_18 : IsPrime 276602624281642239937218680557139826668747 :=
  cert_one (f := 256) (q := 19757330305831588566944191468367130476339) (r := 14) (a := 2) (by decide) (by decide) (by decide) prime_17 (by decide) (by kernel_rfl) (by kernel_rfl)
theorem prime_L : IsPrime 7237005577332262213973186563042994240857116359379907606001950938285454250989 :=
  cert_one (f := 256) (q := 276602624281642239937218680557139826668747) (r := 26163907866482859529727157400808004) (a := 2) (by decide) (by decide) (by decide) prime_18 (by decide) (by kernel_rfl) (by kernel_rfl)
end Nt
end Go.Proofs.YtbojijefenfbgaaDoor
