/- Plain number theory: primes, the little theorem of Fermat, a certificate of primality after Pocklington. It imports nothing of the program. The primes: P = 2^255 - 19 and L, the order of the base, by certificates that the kernel checks. The field of P = 2^255 - 19 elements, and that D is no square in it. Plain mathematics: it imports nothing of the program. The points of the curve and their sum: a group. Plain mathematics. -/
import Derived.KernelRfl
namespace Go.Proofs.YtbojijefenfbgaaGreatDoor
namespace Nt
def IsPrime (p : Nat) : Prop := 1 < p ∧ ∀ m, m ∣ p → m = 1 ∨ m = p
theorem IsPrime.pos {p : Nat} (h : IsPrime p) : 0 < p := by have := h.1; omega
theorem IsPrime.coprime {p : Nat} (h : IsPrime p) (a : Nat) (ha : ¬ p ∣ a) : Nat.Coprime a p := by
 have hd : Nat.gcd a p ∣ p := Nat.gcd_dvd_right _ _
 rcases h.2 _ hd with e | e
 ·exact e
 ·exact absurd (e ▸ Nat.gcd_dvd_left a p) ha
theorem IsPrime.dvd_mul {p : Nat} (h : IsPrime p) {a b : Nat} (hab : p ∣ a * b) : p ∣ a ∨ p ∣ b := by
 by_cases ha : p ∣ a
 ·exact .inl ha
 ·exact .inr ((Nat.Coprime.symm (h.coprime a ha)).dvd_of_dvd_mul_left hab)
def bin : Nat → Nat → Nat
 | _, 0 => 1
 | 0, _ + 1 => 0
 | n + 1, k + 1 => bin n k + bin n (k + 1)
theorem bin_zero (n : Nat) : bin n 0 = 1 := by cases n <;> rfl
theorem bin_gt (n k : Nat) (h : n < k) : bin n k = 0 := by
 induction n generalizing k with
 | zero => cases k with
  | zero => omega
  | succ k => rfl
 | succ n ih => cases k with
  | zero => omega
  | succ k => simp only [bin]; rw [ih k (by omega), ih (k + 1) (by omega)]
theorem bin_self (n : Nat) : bin n n = 1 := by
 induction n with
 | zero => rfl
 | succ n ih => simp only [bin]; rw [ih, bin_gt n (n + 1) (by omega)]
theorem bin_mul (n k : Nat) : (k + 1) * bin (n + 1) (k + 1) = (n + 1) * bin n k := by
 induction n generalizing k with
 | zero => cases k with
  | zero => rfl
  | succ k => simp [bin]
 | succ n ih => cases k with
  | zero =>
   have := ih 0
   simp only [bin_zero, Nat.mul_one, Nat.zero_add, Nat.one_mul] at this ⊢
   show bin (n + 1) 0 + bin (n + 1) 1 = n + 1 + 1
   rw [this, bin_zero]; omega
  | succ j =>
   have h1 := ih j
   have h2 := ih (j + 1)
   have e : bin (n + 1) (j + 1) = bin n j + bin n (j + 1) := rfl
   have e2 : bin (n + 1 + 1) (j + 1 + 1) = bin (n + 1) (j + 1) + bin (n + 1) (j + 1 + 1) := rfl
   rw [e2, Nat.mul_add, h2]
   rw [show j + 1 + 1 = (j + 1) + 1 from rfl, Nat.add_mul (j + 1) 1, h1, Nat.one_mul]
   rw [Nat.add_mul (n + 1) 1, Nat.one_mul]
   rw [show (n + 1) * bin (n + 1) (j + 1) = (n + 1) * bin n j + (n + 1) * bin n (j + 1) by rw [e, Nat.mul_add]]
   omega
def sumTo (n a : Nat) : Nat → Nat
 | 0 => 0
 | m + 1 => sumTo n a m + bin n m * a ^ m
theorem sumTo_succ (n a m : Nat) : sumTo (n + 1) a (m + 1) = sumTo n a (m + 1) + a * sumTo n a m := by
 induction m with
 | zero => simp [sumTo, bin_zero]
 | succ m ih =>
  rw [sumTo, ih]
  rw [show sumTo n a (m + 1 + 1) = sumTo n a (m + 1) + bin n (m + 1) * a ^ (m + 1) from rfl]
  rw [show bin (n + 1) (m + 1) = bin n m + bin n (m + 1) from rfl, Nat.add_mul]
  rw [show a * sumTo n a (m + 1) = a * sumTo n a m + a * (bin n m * a ^ m) by rw [sumTo, Nat.mul_add]]
  rw [show a * (bin n m * a ^ m) = bin n m * a ^ (m + 1) by rw [Nat.pow_succ, Nat.mul_left_comm, Nat.mul_comm a (a ^ m)]]
  omega
theorem binomial (n a : Nat) : (a + 1) ^ n = sumTo n a (n + 1) := by
 induction n with
 | zero => simp [sumTo, bin_zero]
 | succ n ih =>
  rw [Nat.pow_succ, ih, sumTo_succ]
  rw [show sumTo n a (n + 1 + 1) = sumTo n a (n + 1) + bin n (n + 1) * a ^ (n + 1) from rfl, bin_gt n (n + 1) (by omega)]
  rw [Nat.mul_add, Nat.mul_one, Nat.mul_comm]
  omega
theorem bin_dvd {p : Nat} (h : IsPrime p) (k : Nat) (h1 : 0 < k) (h2 : k < p) : p ∣ bin p k := by
 obtain ⟨n, rfl⟩ : ∃ n, p = n + 1 := ⟨p - 1, by have := h.1; omega⟩
 obtain ⟨j, rfl⟩ : ∃ j, k = j + 1 := ⟨k - 1, by omega⟩
 have e := bin_mul n j
 have hd : n + 1 ∣ (j + 1) * bin (n + 1) (j + 1) := ⟨bin n j, e⟩
 rcases h.dvd_mul hd with hc | hc
 ·exact absurd (Nat.le_of_dvd (by omega) hc) (by omega)
 ·exact hc
theorem sumTo_mod {p : Nat} (h : IsPrime p) (a k : Nat) (hk : k < p) : sumTo p a (k + 1) % p = 1 % p := by
 induction k with
 | zero => simp [sumTo, bin_zero]
 | succ k ih =>
  rw [sumTo, Nat.add_mod, ih (by omega)]
  obtain ⟨c, hc⟩ := bin_dvd h (k + 1) (by omega) hk
  rw [hc, Nat.mul_assoc, Nat.mul_mod_right]
  simp
theorem fermat {p : Nat} (h : IsPrime p) (a : Nat) : a ^ p % p = a % p := by
 induction a with
 | zero => rw [Nat.zero_pow h.pos]
 | succ a ih =>
  obtain ⟨n, hn⟩ : ∃ n, p = n + 1 := ⟨p - 1, by have := h.1; omega⟩
  rw [binomial, sumTo, bin_self, Nat.one_mul, Nat.add_mod, ih]
  have e : sumTo p a p % p = 1 % p := by
   have := sumTo_mod h a n (by omega)
   rw [← hn] at this
   exact this
  rw [e, ← Nat.add_mod, Nat.add_comm]
theorem mod_of_dvd_sub {a b m : Nat} (h : a ≤ b) (hd : m ∣ b - a) : b % m = a % m := by
 obtain ⟨c, hc⟩ := hd
 rw [show b = a + m * c by omega, Nat.add_mul_mod_self_left]
theorem fermat_one {p : Nat} (h : IsPrime p) (a : Nat) (ha : ¬ p ∣ a) : a ^ (p - 1) % p = 1 := by
 have h1 := h.1
 have e := fermat h a
 have hpos : 0 < a ^ (p - 1) := Nat.pow_pos (Nat.pos_of_ne_zero (fun h0 => ha (h0 ▸ Nat.dvd_zero p)))
 have hp : a ^ p = a * a ^ (p - 1) := by
  conv => lhs; rw [show p = (p - 1) + 1 by omega, Nat.pow_succ, Nat.mul_comm]
 have hd : p ∣ a * (a ^ (p - 1) - 1) := by
  rw [Nat.mul_sub, Nat.mul_one, ← hp]
  exact Nat.dvd_of_mod_eq_zero (Nat.sub_mod_eq_zero_of_mod_eq e)
 rcases h.dvd_mul hd with hc | hc
 ·exact absurd hc ha
 ·rw [mod_of_dvd_sub hpos hc]; exact Nat.mod_eq_of_lt h1
theorem exists_prime (n : Nat) (h : 1 < n) : ∃ p, IsPrime p ∧ p ∣ n := by
 induction n using Nat.strongRecOn with
 | _ n ih =>
  by_cases hp : IsPrime n
  ·exact ⟨n, hp, Nat.dvd_refl n⟩
  ·have : ∃ m, m ∣ n ∧ m ≠ 1 ∧ m ≠ n := Classical.byContradiction fun hno => hp ⟨h, fun m hm => by
    by_cases h1 : m = 1
    ·exact .inl h1
    ·by_cases h2 : m = n
     ·exact .inr h2
     ·exact absurd ⟨m, hm, h1, h2⟩ hno⟩
   obtain ⟨m, hm, h1, h2⟩ := this
   have hle := Nat.le_of_dvd (by omega) hm
   have hpos : 0 < m := Nat.pos_of_dvd_of_pos hm (by omega)
   obtain ⟨p, hpp, hd⟩ := ih m (by omega) (by omega)
   exact ⟨p, hpp, Nat.dvd_trans hd hm⟩
theorem pow_mod_one {a p e : Nat} (h : a ^ e % p = 1 % p) (k : Nat) : a ^ (e * k) % p = 1 % p := by
 rw [Nat.pow_mul, Nat.pow_mod, h, ← Nat.pow_mod, Nat.one_pow]
theorem pow_gcd {a p : Nat} (e f : Nat) (h1 : a ^ e % p = 1 % p) (h2 : a ^ f % p = 1 % p) : a ^ Nat.gcd e f % p = 1 % p := by
 induction e, f using Nat.gcd.induction with
 | H0 f => rw [Nat.gcd_zero_left]; exact h2
 | H1 e f hpos ih =>
  rw [Nat.gcd_rec]
  refine ih ?_ h1
  have hd := Nat.div_add_mod f e
  have hk := pow_mod_one h1 (f / e)
  rw [← hd, Nat.pow_add, Nat.mul_mod, hk, ← Nat.mul_mod, Nat.one_mul] at h2
  exact h2
theorem mod_of_mod {a b m p : Nat} (hd : p ∣ m) (h : a % m = b % m) : a % p = b % p := by
 rw [← Nat.mod_mod_of_dvd a hd, h, Nat.mod_mod_of_dvd b hd]
theorem pock_dvd {n q a r p : Nat} (hn : n = q * r + 1) (hq : IsPrime q) (h1 : a ^ (n - 1) % n = 1 % n) (h2 : Nat.gcd (a ^ r % n + n - 1) n = 1) (hp : IsPrime p) (hpn : p ∣ n) : q ∣ p - 1 := by
 refine Classical.byContradiction fun hnot => ?_
 have hp1 := hp.1
 have hn0 : 0 < n := by omega
 have e1 : a ^ (n - 1) % p = 1 % p := mod_of_mod hpn h1
 have hr0 : 0 < n - 1 := by
  rcases Nat.eq_zero_or_pos (n - 1) with h0 | h0
  ·exfalso
   have hn1 : n = 1 := by omega
   subst hn1
   have := Nat.le_of_dvd (by omega) hpn
   omega
  ·exact h0
 have hpa : ¬ p ∣ a := fun hd => by
  have : p ∣ a ^ (n - 1) := Nat.dvd_trans hd (by rw [show n - 1 = (n - 2) + 1 by omega, Nat.pow_succ]; exact Nat.dvd_mul_left a _)
  rw [Nat.mod_eq_zero_of_dvd this, Nat.mod_eq_of_lt hp1] at e1
  omega
 have e2 : a ^ (p - 1) % p = 1 % p := by rw [fermat_one hp a hpa, Nat.mod_eq_of_lt hp1]
 have e3 := pow_gcd (n - 1) (p - 1) e1 e2
 have hg : Nat.gcd (n - 1) (p - 1) ∣ r := by
  have hco : Nat.Coprime (Nat.gcd (n - 1) (p - 1)) q := by
   have hc := hq.coprime (p - 1) hnot
   exact Nat.Coprime.coprime_dvd_left (Nat.gcd_dvd_right _ _) hc
  have hd : Nat.gcd (n - 1) (p - 1) ∣ q * r := by
   have := Nat.gcd_dvd_left (n - 1) (p - 1)
   rwa [show n - 1 = q * r by omega] at this ⊢
  exact hco.dvd_of_dvd_mul_left hd
 obtain ⟨c, hc⟩ := hg
 have e4 : a ^ r % p = 1 % p := by rw [hc]; exact pow_mod_one e3 c
 have hd : p ∣ a ^ r % n + n - 1 := by
  obtain ⟨k, hk⟩ := hpn
  have e5 : (a ^ r % n) % p = 1 % p := by rw [Nat.mod_mod_of_dvd _ ⟨k, hk⟩]; exact e4
  have hkpos : 0 < k := Nat.pos_of_ne_zero fun h0 => by rw [h0, Nat.mul_zero] at hk; omega
  have e6 : (a ^ r % n + n) % p = 1 % p := by rw [Nat.add_mod, e5, hk, Nat.mul_mod_right]; simp
  have := Nat.sub_mod_eq_zero_of_mod_eq e6
  exact Nat.dvd_of_mod_eq_zero this
 have := Nat.dvd_gcd hd hpn
 rw [h2] at this
 have := Nat.le_of_dvd (by omega) this
 omega
theorem prime_of_large {n : Nat} (h1 : 1 < n) (h : ∀ p, IsPrime p → p ∣ n → n < p * p) : IsPrime n := by
 refine ⟨h1, fun m hm => ?_⟩
 by_cases hm1 : m = 1
 ·exact .inl hm1
 ·right
  have hmpos : 0 < m := Nat.pos_of_dvd_of_pos hm (by omega)
  obtain ⟨c, hc⟩ := hm
  by_cases hc1 : c = 1
  ·rw [hc, hc1, Nat.mul_one]
  ·exfalso
   have hcpos : 0 < c := Nat.pos_of_ne_zero fun h0 => by rw [h0, Nat.mul_zero] at hc; omega
   obtain ⟨p, hp, hpm⟩ := exists_prime m (by omega)
   obtain ⟨p', hp', hpc⟩ := exists_prime c (by omega)
   have a1 := h p hp (Nat.dvd_trans hpm ⟨c, hc⟩)
   have a2 := h p' hp' (Nat.dvd_trans hpc ⟨m, by rw [Nat.mul_comm]; exact hc⟩)
   have b1 := Nat.le_of_dvd hmpos hpm
   have b2 := Nat.le_of_dvd hcpos hpc
   have hle : p * p' ≤ n := by rw [hc]; exact Nat.mul_le_mul b1 b2
   rcases Nat.le_total p p' with hpp | hpp
   ·have := Nat.mul_le_mul_left p hpp; omega
   ·have := Nat.mul_le_mul_right p' hpp; omega
theorem pock_one {n q a r : Nat} (h0 : 1 < n) (hn : n = q * r + 1) (hq : IsPrime q) (hbig : n < (q + 1) * (q + 1)) (h1 : a ^ (n - 1) % n = 1 % n) (h2 : Nat.gcd (a ^ r % n + n - 1) n = 1) : IsPrime n := by
 refine prime_of_large h0 (fun p hp hpn => ?_)
 have hd := pock_dvd hn hq h1 h2 hp hpn
 have hp1 := hp.1
 have hle := Nat.le_of_dvd (by omega) hd
 exact Nat.lt_of_lt_of_le hbig (Nat.mul_le_mul (by omega) (by omega))
theorem pock_two {n q r q' r' a : Nat} (h0 : 1 < n) (hn : n = q * r + 1) (hn' : n = q' * r' + 1) (hq : IsPrime q) (hq' : IsPrime q') (hne : Nat.gcd q q' = 1) (hbig : n < (q * q' + 1) * (q * q' + 1))
  (h1 : a ^ (n - 1) % n = 1 % n) (h2 : Nat.gcd (a ^ r % n + n - 1) n = 1) (h2' : Nat.gcd (a ^ r' % n + n - 1) n = 1) : IsPrime n := by
 refine prime_of_large h0 (fun p hp hpn => ?_)
 have hd := pock_dvd hn hq h1 h2 hp hpn
 have hd' := pock_dvd hn' hq' h1 h2' hp hpn
 have hp1 := hp.1
 have hle := Nat.le_of_dvd (by omega) (Nat.Coprime.mul_dvd_of_dvd_of_dvd hne hd hd')
 exact Nat.lt_of_lt_of_le hbig (Nat.mul_le_mul (by omega) (by omega))
def powMod (m : Nat) : Nat → Nat → Nat → Nat
 | 0, _, _ => 1 % m
 | f + 1, a, e => if e % 2 = 1 then a * powMod m f (a * a % m) (e / 2) % m else powMod m f (a * a % m) (e / 2)
theorem powMod_eq (m : Nat) (f a e : Nat) (h : e < 2 ^ f) : powMod m f a e = a ^ e % m := by
  induction f generalizing a e with
  | zero => obtain rfl : e = 0 := by simpa using h
            rfl
  | succ f ih =>
    rw [Nat.pow_succ] at h
    have hd := Nat.div_add_mod e 2
    simp only [powMod]
    rw [ih _ _ (by omega)]
    have e1 : (a * a % m) ^ (e / 2) % m = a ^ (2 * (e / 2)) % m := by rw [← Nat.pow_mod, Nat.pow_mul, Nat.pow_two]
    by_cases ho : e % 2 = 1
    · rw [if_pos ho, e1, Nat.mul_mod_mod]
      conv => rhs; rw [← hd, ho, Nat.pow_succ, Nat.mul_comm]
    · rw [if_neg ho, e1]
      conv => rhs; rw [← hd, show e % 2 = 0 by omega, Nat.add_zero]
theorem r_lt {n q r : Nat} (hn : n = q * r + 1) (hq : IsPrime q) : r < n := by
 have := Nat.le_mul_of_pos_left r hq.pos
 omega
theorem cert_one {n q a r : Nat} (f : Nat) (h0 : 1 < n) (hf : n ≤ 2 ^ f) (hn : n = q * r + 1) (hq : IsPrime q) (hbig : n < (q + 1) * (q + 1)) (h1 : powMod n f a (n - 1) = 1 % n) (h2 : Nat.gcd (powMod n f a r + n - 1) n = 1) : IsPrime n := by
 have hr := r_lt hn hq
 rw [powMod_eq n f a _ (by omega)] at h1 h2
 exact pock_one h0 hn hq hbig h1 h2
theorem cert_two {n q r q' r' a : Nat} (f : Nat) (h0 : 1 < n) (hf : n ≤ 2 ^ f) (hn : n = q * r + 1) (hn' : n = q' * r' + 1) (hq : IsPrime q) (hq' : IsPrime q') (hne : Nat.gcd q q' = 1) (hbig : n < (q * q' + 1) * (q * q' + 1))
  (h1 : powMod n f a (n - 1) = 1 % n) (h2 : Nat.gcd (powMod n f a r + n - 1) n = 1) (h2' : Nat.gcd (powMod n f a r' + n - 1) n = 1) : IsPrime n := by
 have hr := r_lt hn hq
 have hr' := r_lt hn' hq'
 rw [powMod_eq n f a _ (by omega)] at h1 h2 h2'
 exact pock_two h0 hn hn' hq hq' hne hbig h1 h2 h2'
def noDiv (n : Nat) : Nat → Nat → Bool
 | 0, _ => false
 | f + 1, d => if n < d * d then true else if n % d = 0 then false else noDiv n f (d + 1)
theorem noDiv_spec (n f d : Nat) (h : noDiv n f d = true) (m : Nat) (hm : d ≤ m) (hmm : m * m ≤ n) : ¬ m ∣ n := by
 induction f generalizing d with
 | zero => simp [noDiv] at h
 | succ f ih =>
  simp only [noDiv] at h
  by_cases h1 : n < d * d
  ·have := Nat.mul_le_mul hm hm; omega
  ·rw [if_neg h1] at h
   by_cases h2 : n % d = 0
   ·rw [if_pos h2] at h; cases h
   ·rw [if_neg h2] at h
    by_cases e : d = m
    ·subst e; exact fun hd => h2 (Nat.mod_eq_zero_of_dvd hd)
    ·exact ih (d + 1) h (by omega)
theorem prime_of_trial {n : Nat} (f : Nat) (h1 : 1 < n) (h : noDiv n f 2 = true) : IsPrime n := by
 refine prime_of_large h1 (fun p hp hpn => ?_)
 have hp1 := hp.1
 rcases Nat.lt_or_ge n (p * p) with hl | hl
 ·exact hl
 ·exact absurd hpn (noDiv_spec n f 2 h p (by omega) hl)
end Nt
end Go.Proofs.YtbojijefenfbgaaGreatDoor
namespace Go.Proofs.YtbojijefenfbgaaGreatDoor
namespace Nt
theorem prime_0 : IsPrime 8574133 := prime_of_trial 10000 (by decide) (by kernel_rfl)
theorem prime_1 : IsPrime 127 := prime_of_trial 10000 (by decide) (by kernel_rfl)
theorem prime_2 : IsPrime 1919519569386763 :=
 cert_two (f := 256) (q := 8574133) (r := 223873314) (q' := 127) (r' := 15114327318006) (a := 2) (by decide) (by decide) (by decide) (by decide) prime_0 prime_1 (by decide) (by decide) (by kernel_rfl) (by kernel_rfl) (by kernel_rfl)
theorem prime_3 : IsPrime 569003 := prime_of_trial 10000 (by decide) (by kernel_rfl)
theorem prime_4 : IsPrime 2773320623 :=
 cert_one (f := 256) (q := 569003) (r := 4874) (a := 2) (by decide) (by decide) (by decide) prime_3 (by decide) (by kernel_rfl) (by kernel_rfl)
theorem prime_5 : IsPrime 72106336199 :=
 cert_one (f := 256) (q := 2773320623) (r := 26) (a := 2) (by decide) (by decide) (by decide) prime_4 (by decide) (by kernel_rfl) (by kernel_rfl)
theorem prime_6 : IsPrime 75445702479781427272750846543864801 :=
 cert_two (f := 256) (q := 1919519569386763) (r := 39304471641247389600) (q' := 72106336199) (r' := 1046311689884858398375200) (a := 2) (by decide) (by decide) (by decide) (by decide) prime_2 prime_5 (by decide) (by decide) (by kernel_rfl) (by kernel_rfl) (by kernel_rfl)
theorem prime_7 : IsPrime 430751 := prime_of_trial 10000 (by decide) (by kernel_rfl)
theorem prime_8 : IsPrime 4153 := prime_of_trial 10000 (by decide) (by kernel_rfl)
theorem prime_9 : IsPrime 31757755568855353 :=
 cert_two (f := 256) (q := 430751) (r := 73726481352) (q' := 4153) (r' := 7646943310584) (a := 2) (by decide) (by decide) (by decide) (by decide) prime_7 prime_8 (by decide) (by decide) (by kernel_rfl) (by kernel_rfl) (by kernel_rfl)
theorem prime_10 : IsPrime 74058212732561358302231226437062788676166966415465897661863160754340907 :=
 cert_two (f := 256) (q := 75445702479781427272750846543864801) (r := 981609426360740691344999861639072106) (q' := 31757755568855353) (r' := 2331972502653487852620185443007392165117953542933313402) (a := 2) (by decide) (by decide) (by decide) (by decide) prime_6 prime_9 (by decide) (by decide) (by kernel_rfl) (by kernel_rfl) (by kernel_rfl)
theorem prime_P : IsPrime 57896044618658097711785492504343953926634992332820282019728792003956564819949 :=
 cert_one (f := 256) (q := 74058212732561358302231226437062788676166966415465897661863160754340907) (r := 781764) (a := 2) (by decide) (by decide) (by decide) prime_10 (by decide) (by kernel_rfl) (by kernel_rfl)
end Nt
end Go.Proofs.YtbojijefenfbgaaGreatDoor
namespace Go.Proofs.YtbojijefenfbgaaGreatDoor
namespace Ed
abbrev P : Nat := 57896044618658097711785492504343953926634992332820282019728792003956564819949
abbrev F := Fin P
theorem P_prime : Nt.IsPrime P := Nt.prime_P
theorem val_mul (a b : F) : (a * b).val = a.val * b.val % P := rfl
theorem mul_zero_cases {a b : F} (h : a * b = 0) : a = 0 ∨ b = 0 := by
 have h1 : a.val * b.val % P = 0 := by
  have := congrArg Fin.val h
  rw [val_mul] at this
  exact this
 rcases P_prime.dvd_mul (Nat.dvd_of_mod_eq_zero h1) with hd | hd
 ·left
  apply Fin.ext
  rcases Nat.eq_zero_or_pos a.val with h0 | h0
  ·rw [h0]; rfl
  ·exact absurd (Nat.le_of_dvd h0 hd) (by have := a.isLt; omega)
 ·right
  apply Fin.ext
  rcases Nat.eq_zero_or_pos b.val with h0 | h0
  ·rw [h0]; rfl
  ·exact absurd (Nat.le_of_dvd h0 hd) (by have := b.isLt; omega)
theorem mul_ne {a b : F} (ha : a ≠ 0) (hb : b ≠ 0) : a * b ≠ 0 := fun h => (mul_zero_cases h).elim ha hb
theorem mul_cancel {a b c : F} (ha : a ≠ 0) (h : a * b = a * c) : b = c := by
 have h1 : a * (b - c) = 0 := by grind
 rcases mul_zero_cases h1 with h2 | h2
 ·exact absurd h2 ha
 ·grind
def fpow (a : F) (e : Nat) : F := ⟨a.val ^ e % P, Nat.mod_lt _ (by decide)⟩
theorem fpow_zero (a : F) : fpow a 0 = 1 := by
 apply Fin.ext; show a.val ^ 0 % P = _; rw [Nat.pow_zero]; rfl
theorem fpow_one (a : F) : fpow a 1 = a := by
 apply Fin.ext; show a.val ^ 1 % P = _; rw [Nat.pow_one]; exact Nat.mod_eq_of_lt a.isLt
theorem fpow_add (a : F) (e k : Nat) : fpow a (e + k) = fpow a e * fpow a k := by
 apply Fin.ext
 show a.val ^ (e + k) % P = (a.val ^ e % P) * (a.val ^ k % P) % P
 rw [Nat.pow_add, Nat.mul_mod]
theorem fpow_mul (a : F) (e k : Nat) : fpow (fpow a e) k = fpow a (e * k) := by
 apply Fin.ext
 show (a.val ^ e % P) ^ k % P = a.val ^ (e * k) % P
 rw [← Nat.pow_mod, Nat.pow_mul]
theorem fpow_eval (a : F) (e f v : Nat) (h : e < 2 ^ f) (hv : Nt.powMod P f a.val e = v) : (fpow a e).val = v := by
 rw [← hv, Nt.powMod_eq P f a.val e h]; rfl
theorem fermat {a : F} (ha : a ≠ 0) : fpow a (P - 1) = 1 := by
 apply Fin.ext
 show a.val ^ (P - 1) % P = _
 rw [Nt.fermat_one P_prime a.val (fun hd => ha ?_)]
 ·rfl
 ·apply Fin.ext
  rcases Nat.eq_zero_or_pos a.val with h0 | h0
  ·rw [h0]; rfl
  ·exact absurd (Nat.le_of_dvd h0 hd) (by have := a.isLt; omega)
def inv (a : F) : F := fpow a (P - 2)
theorem mul_inv {a : F} (ha : a ≠ 0) : a * inv a = 1 := by
 have h := fermat ha
 rw [show P - 1 = 1 + (P - 2) by decide, fpow_add, fpow_one] at h
 exact h
def dD : F := ⟨37095705934669439343138083508754565189542113879843219016388785533085940283555, by decide⟩
def cC : F := ⟨29203323570479832313932222820853031755424015489030106335172286495629888845891, by decide⟩
def iI : F := ⟨19681161376707505956807079304988542015446066515923890162744021073123829784752, by decide⟩
theorem dD_cC : dD * cC = 1 := by decide
theorem iI_sq : iI * iI = -1 := by decide
theorem cC_ne : cC ≠ 0 := by decide
theorem two_ne : (2 : F) ≠ 0 := by decide
theorem dD_pow : fpow dD 28948022309329048855892746252171976963317496166410141009864396001978282409974 = -1 := by
 apply Fin.ext
 rw [fpow_eval dD 28948022309329048855892746252171976963317496166410141009864396001978282409974 256 57896044618658097711785492504343953926634992332820282019728792003956564819948 (by decide) (by kernel_rfl)]
 rfl
theorem dD_nonsquare (x : F) : x * x ≠ dD := fun h => by
 have hx : x ≠ 0 := fun h0 => by rw [h0] at h; exact absurd (show (0 : F) = dD by grind) (by decide)
 have h1 := dD_pow
 rw [← h] at h1
 have h2 : fpow (x * x) 28948022309329048855892746252171976963317496166410141009864396001978282409974 = 1 := by
  have e : x * x = fpow x 2 := by rw [show (2 : Nat) = 1 + 1 from rfl, fpow_add, fpow_one]
  rw [e, fpow_mul, show 2 * 28948022309329048855892746252171976963317496166410141009864396001978282409974 = P - 1 by decide]
  exact fermat hx
 rw [h2] at h1
 exact absurd h1 (by decide)
theorem cC_nonsquare (x : F) : x * x ≠ cC := fun h => by
 have hd := dD_cC
 refine dD_nonsquare (x * dD) ?_
 grind
def On (x y : F) : Prop := x * x * (y * y) = cC * (y * y - x * x - 1)
theorem gen_m (n : Nat) [NeZero n] (e m c : Fin n) (he : e * e = 1) (h0 : c + e * m = 0) : m = -(e * c) := by grind
theorem gen_key (n : Nat) [NeZero n] (x1 y1 x2 y2 e i c : Fin n) (h1 : x1 * x1 * (y1 * y1) = c * (y1 * y1 - x1 * x1 - 1)) (h2 : x2 * x2 * (y2 * y2) = c * (y2 * y2 - x2 * x2 - 1)) (he : e * e = 1) (hi : i * i = -1)
  (hm : x1 * x2 * y1 * y2 = -(e * c)) : c * (c * ((i * x1 - e * y1) * (i * x1 - e * y1))) = c * ((x1 * y1 * (y2 + i * x2)) * (x1 * y1 * (y2 + i * x2))) := by grind
theorem gen_neg (n : Nat) [NeZero n] (i : Fin n) (hi : i * i = -1) : (-i) * (-i) = -1 := by grind
theorem gen_zero_m (n : Nat) [NeZero n] (x1 y1 x2 y2 : Fin n) (h : x1 * y1 = 0) : x1 * x2 * y1 * y2 = 0 := by grind
theorem gen_neg_zero (n : Nat) [NeZero n] (a : Fin n) (h : 0 = -a) : a = 0 := by grind
theorem gen_sq (n : Nat) [NeZero n] (c u v w : Fin n) (h : c * (u * u) = v * v) (hw : u * w = 1) : (v * w) * (v * w) = c := by grind
theorem gen_two (n : Nat) [NeZero n] (i x y : Fin n) (h1 : y + i * x = 0) (h2 : y + -i * x = 0) : 2 * y = 0 := by grind
theorem gen_ix (n : Nat) [NeZero n] (i x y : Fin n) (hi : i * i = -1) (h1 : y + i * x = 0) (hy : y = 0) : x = 0 := by grind
theorem gen_c (n : Nat) [NeZero n] (c x y : Fin n) (hx : x = 0) (hy : y = 0) (h : x * x * (y * y) = c * (y * y - x * x - 1)) : c = 0 := by grind
theorem gen_mul0 (n : Nat) [NeZero n] (c u : Fin n) (h : u = 0) : c * (u * u) = 0 := by grind
theorem no_key {x1 y1 x2 y2 : F} (h1 : On x1 y1) (h2 : On x2 y2) (e i : F) (he : e * e = 1) (hi : i * i = -1) (hm : x1 * x2 * y1 * y2 = -(e * cC)) (hx1 : x1 * y1 ≠ 0) : y2 + i * x2 = 0 := by
 have key := mul_cancel cC_ne (gen_key P x1 y1 x2 y2 e i cC h1 h2 he hi hm)
 refine Classical.byContradiction fun hne => ?_
 have hv : x1 * y1 * (y2 + i * x2) ≠ 0 := mul_ne hx1 hne
 by_cases hu : i * x1 - e * y1 = 0
 ·have : cC * ((i * x1 - e * y1) * (i * x1 - e * y1)) = 0 := gen_mul0 P _ _ hu
  rw [this] at key
  exact mul_ne hv hv key.symm
 ·exact cC_nonsquare _ (gen_sq P cC _ _ _ key (mul_inv hu))
theorem complete {x1 y1 x2 y2 : F} (h1 : On x1 y1) (h2 : On x2 y2) (e : F) (he : e * e = 1) : cC + e * (x1 * x2 * y1 * y2) ≠ 0 := fun h0 => by
 have hm := gen_m P e _ cC he h0
 have hx1 : x1 * y1 ≠ 0 := fun hz => by
  rw [gen_zero_m P x1 y1 x2 y2 hz] at hm
  rcases mul_zero_cases (gen_neg_zero P _ hm) with h | h
  ·rw [h] at he; exact absurd he (by decide)
  ·exact cC_ne h
 have k1 := no_key h1 h2 e iI he iI_sq hm hx1
 have k2 := no_key h1 h2 e (-iI) he (gen_neg P iI iI_sq) hm hx1
 rcases mul_zero_cases (gen_two P iI x2 y2 k1 k2) with h | hy
 ·exact two_ne h
 ·exact cC_ne (gen_c P cC x2 y2 (gen_ix P iI x2 y2 iI_sq k1 hy) hy h2)
end Ed
end Go.Proofs.YtbojijefenfbgaaGreatDoor
namespace Go.Proofs.YtbojijefenfbgaaGreatDoor
namespace Ed
abbrev Pt := F × F
def OnP (p : Pt) : Prop := On p.1 p.2
def zero : Pt := (0, 1)
def neg (p : Pt) : Pt := (-p.1, p.2)
def mm (p q : Pt) : F := p.1 * q.1 * p.2 * q.2
def padd (p q : Pt) : Pt := (cC * (p.1 * q.2 + p.2 * q.1) * inv (cC + mm p q), cC * (p.2 * q.2 + p.1 * q.1) * inv (cC - mm p q))
theorem gen_e1 (n : Nat) [NeZero n] (c m : Fin n) : c + 1 * m = c + m := by grind
theorem gen_e2 (n : Nat) [NeZero n] (c m : Fin n) : c + (-1) * m = c - m := by grind
theorem den1 {p q : Pt} (hp : OnP p) (hq : OnP q) : cC + mm p q ≠ 0 := by
 have h := complete hp hq 1 (by decide)
 rw [gen_e1] at h; exact h
theorem den2 {p q : Pt} (hp : OnP p) (hq : OnP q) : cC - mm p q ≠ 0 := by
 have h := complete hp hq (-1) (by decide)
 rw [gen_e2] at h; exact h
theorem gen_on (n : Nat) [NeZero n] (c x1 y1 x2 y2 : Fin n) (h1 : x1 * x1 * (y1 * y1) = c * (y1 * y1 - x1 * x1 - 1)) (h2 : x2 * x2 * (y2 * y2) = c * (y2 * y2 - x2 * x2 - 1)) :
  c * c * c * ((x1 * y2 + y1 * x2) * (x1 * y2 + y1 * x2)) * ((y1 * y2 + x1 * x2) * (y1 * y2 + x1 * x2)) = c * c * ((y1 * y2 + x1 * x2) * (y1 * y2 + x1 * x2)) * ((c + x1 * x2 * y1 * y2) * (c + x1 * x2 * y1 * y2)) - c * c * ((x1 * y2 + y1 * x2) * (x1 * y2 + y1 * x2)) * ((c - x1 * x2 * y1 * y2) * (c - x1 * x2 * y1 * y2)) - (c + x1 * x2 * y1 * y2) * (c + x1 * x2 * y1 * y2) * ((c - x1 * x2 * y1 * y2) * (c - x1 * x2 * y1 * y2)) := by grind
theorem gen_on2 (n : Nat) [NeZero n] (c N M A B u v : Fin n) (hu : A * u = 1) (hv : B * v = 1) (h : c * c * c * (N * N) * (M * M) = c * c * (M * M) * (A * A) - c * c * (N * N) * (B * B) - A * A * (B * B)) :
  (c * N * u) * (c * N * u) * ((c * M * v) * (c * M * v)) = c * ((c * M * v) * (c * M * v) - (c * N * u) * (c * N * u) - 1) := by
 have e : c * (c * c * c * (N * N) * (M * M)) * (u * u) * (v * v) = c * (c * c * (M * M) * (A * A) - c * c * (N * N) * (B * B) - A * A * (B * B)) * (u * u) * (v * v) := by rw [h]
 have e1 : (A * A) * (u * u) = 1 := by grind
 have e2 : (B * B) * (v * v) = 1 := by grind
 clear h hu hv
 grind
theorem padd_on {p q : Pt} (hp : OnP p) (hq : OnP q) : OnP (padd p q) :=
 gen_on2 P cC _ _ _ _ _ _ (mul_inv (den1 hp hq)) (mul_inv (den2 hp hq)) (gen_on P cC p.1 p.2 q.1 q.2 hp hq)
theorem zero_on : OnP zero := by unfold OnP On zero; grind
theorem neg_on {p : Pt} (hp : OnP p) : OnP (neg p) := by
 unfold OnP On neg at *
 have : -p.1 * -p.1 = p.1 * p.1 := by grind
 simp only [this]; exact hp
theorem padd_comm (p q : Pt) : padd p q = padd q p := by
 have h : mm p q = mm q p := by unfold mm; grind
 have h1 : p.1 * q.2 + p.2 * q.1 = q.1 * p.2 + q.2 * p.1 := by grind
 have h2 : p.2 * q.2 + p.1 * q.1 = q.2 * p.2 + q.1 * p.1 := by grind
 unfold padd
 rw [h, h1, h2]
theorem gen_z1 (n : Nat) [NeZero n] (c x y u : Fin n) (h : c * u = 1) : c * (x * 1 + y * 0) * u = x := by grind
theorem gen_z2 (n : Nat) [NeZero n] (c x y u : Fin n) (h : c * u = 1) : c * (y * 1 + x * 0) * u = y := by grind
theorem padd_zero (p : Pt) : padd p zero = p := by
 have h : mm p zero = 0 := by unfold mm zero; grind
 have h1 : cC + 0 = cC := by grind
 have h2 : cC - 0 = cC := by grind
 unfold padd
 rw [h, h1, h2]
 exact Prod.ext (gen_z1 P cC p.1 p.2 _ (mul_inv cC_ne)) (gen_z2 P cC p.1 p.2 _ (mul_inv cC_ne))
theorem zero_padd (p : Pt) : padd zero p = p := by rw [padd_comm, padd_zero]
theorem assocX (n : Nat) [NeZero n] (c x1 y1 x2 y2 x3 y3 : Fin n) (h1 : x1*x1*(y1*y1) = c*(y1*y1 - x1*x1 - 1)) (h2 : x2*x2*(y2*y2) = c*(y2*y2 - x2*x2 - 1)) (h3 : x3*x3*(y3*y3) = c*(y3*y3 - x3*x3 - 1)) :
  ((x1*y2+y1*x2)*(c-x1*x2*y1*y2)*y3 + (y1*y2+x1*x2)*(c+x1*x2*y1*y2)*x3) * ((c+x2*x3*y2*y3)*(c-x2*x3*y2*y3) + c*(x2*y3+y2*x3)*(y2*y3+x2*x3)*x1*y1)
  = ((x2*y3+y2*x3)*(c-x2*x3*y2*y3)*y1 + (y2*y3+x2*x3)*(c+x2*x3*y2*y3)*x1) * ((c+x1*x2*y1*y2)*(c-x1*x2*y1*y2) + c*(x1*y2+y1*x2)*(y1*y2+x1*x2)*x3*y3) := by grind
theorem assocY (n : Nat) [NeZero n] (c x1 y1 x2 y2 x3 y3 : Fin n) (h1 : x1*x1*(y1*y1) = c*(y1*y1 - x1*x1 - 1)) (h2 : x2*x2*(y2*y2) = c*(y2*y2 - x2*x2 - 1)) (h3 : x3*x3*(y3*y3) = c*(y3*y3 - x3*x3 - 1)) :
  ((y1*y2+x1*x2)*(c+x1*x2*y1*y2)*y3 + (x1*y2+y1*x2)*(c-x1*x2*y1*y2)*x3) * ((c+x2*x3*y2*y3)*(c-x2*x3*y2*y3) - c*(x2*y3+y2*x3)*(y2*y3+x2*x3)*x1*y1)
  = ((y2*y3+x2*x3)*(c+x2*x3*y2*y3)*y1 + (x2*y3+y2*x3)*(c-x2*x3*y2*y3)*x1) * ((c+x1*x2*y1*y2)*(c-x1*x2*y1*y2) - c*(x1*y2+y1*x2)*(y1*y2+x1*x2)*x3*y3) := by grind
theorem gen_clear1 (n : Nat) [NeZero n] (c N M A B u v s t w X : Fin n) (hu : A * u = 1) (hv : B * v = 1) (hw : (c + c * N * u * s * (c * M * v) * t) * w = 1) (hX : X = c * (c * N * u * t + c * M * v * s) * w) :
  c * ((A * B + c * N * M * s * t) * X) = c * (c * (N * B * t + M * A * s)) := by
 have e1 : (c * N * u) * A = c * N := by grind
 have e2 : (c * M * v) * B = c * M := by grind
 generalize c * N * u = x at *
 generalize c * M * v = y at *
 have e3 : X * (c + x * s * y * t) = c * (x * t + y * s) := by grind
 have e4 : X * (c + x * s * y * t) * (A * B) = c * (x * t + y * s) * (A * B) := by rw [e3]
 clear hu hv hw hX e3
 grind
theorem gen_clear2 (n : Nat) [NeZero n] (c N M A B u v s t w X : Fin n) (hu : A * u = 1) (hv : B * v = 1) (hw : (c - c * N * u * s * (c * M * v) * t) * w = 1) (hX : X = c * (c * M * v * t + c * N * u * s) * w) :
  c * ((A * B - c * N * M * s * t) * X) = c * (c * (M * A * t + N * B * s)) := by
 have e1 : (c * N * u) * A = c * N := by grind
 have e2 : (c * M * v) * B = c * M := by grind
 generalize c * N * u = x at *
 generalize c * M * v = y at *
 have e3 : X * (c - x * s * y * t) = c * (y * t + x * s) := by grind
 have e4 : X * (c - x * s * y * t) * (A * B) = c * (y * t + x * s) * (A * B) := by rw [e3]
 clear hu hv hw hX e3
 grind
theorem gen_ne1 (n : Nat) [NeZero n] (c N M A B u v s t : Fin n) (hu : A * u = 1) (hv : B * v = 1) (h0 : A * B + c * N * M * s * t = 0) : c + c * N * u * s * (c * M * v) * t = 0 := by
 have e : (A * B + c * N * M * s * t) * (c * u * v) = 0 := by rw [h0]; grind
 have e1 : A * B * (u * v) = 1 := by grind
 clear h0 hu hv
 grind
theorem gen_ne2 (n : Nat) [NeZero n] (c N M A B u v s t : Fin n) (hu : A * u = 1) (hv : B * v = 1) (h0 : A * B - c * N * M * s * t = 0) : c - c * N * u * s * (c * M * v) * t = 0 := by
 have e : (A * B - c * N * M * s * t) * (c * u * v) = 0 := by rw [h0]; grind
 have e1 : A * B * (u * v) = 1 := by grind
 clear h0 hu hv
 grind
theorem left1 {p q r : Pt} (hp : OnP p) (hq : OnP q) (hr : OnP r) :
  ((cC + mm p q) * (cC - mm p q) + cC * (p.1 * q.2 + p.2 * q.1) * (p.2 * q.2 + p.1 * q.1) * r.1 * r.2) * (padd (padd p q) r).1 = cC * ((p.1 * q.2 + p.2 * q.1) * (cC - mm p q) * r.2 + (p.2 * q.2 + p.1 * q.1) * (cC + mm p q) * r.1)
  ∧ (cC + mm p q) * (cC - mm p q) + cC * (p.1 * q.2 + p.2 * q.1) * (p.2 * q.2 + p.1 * q.1) * r.1 * r.2 ≠ 0 := by
 have hu := mul_inv (den1 hp hq)
 have hv := mul_inv (den2 hp hq)
 have hne := den1 (padd_on hp hq) hr
 have hw := mul_inv hne
 exact ⟨mul_cancel cC_ne (gen_clear1 P cC (p.1 * q.2 + p.2 * q.1) (p.2 * q.2 + p.1 * q.1) (cC + mm p q) (cC - mm p q) _ _ r.1 r.2 _ _ hu hv hw rfl), fun h0 => hne (gen_ne1 P cC _ _ _ _ _ _ _ _ hu hv h0)⟩
theorem left2 {p q r : Pt} (hp : OnP p) (hq : OnP q) (hr : OnP r) :
  ((cC + mm p q) * (cC - mm p q) - cC * (p.1 * q.2 + p.2 * q.1) * (p.2 * q.2 + p.1 * q.1) * r.1 * r.2) * (padd (padd p q) r).2 = cC * ((p.2 * q.2 + p.1 * q.1) * (cC + mm p q) * r.2 + (p.1 * q.2 + p.2 * q.1) * (cC - mm p q) * r.1)
  ∧ (cC + mm p q) * (cC - mm p q) - cC * (p.1 * q.2 + p.2 * q.1) * (p.2 * q.2 + p.1 * q.1) * r.1 * r.2 ≠ 0 := by
 have hu := mul_inv (den1 hp hq)
 have hv := mul_inv (den2 hp hq)
 have hne := den2 (padd_on hp hq) hr
 have hw := mul_inv hne
 exact ⟨mul_cancel cC_ne (gen_clear2 P cC (p.1 * q.2 + p.2 * q.1) (p.2 * q.2 + p.1 * q.1) (cC + mm p q) (cC - mm p q) _ _ r.1 r.2 _ _ hu hv hw rfl), fun h0 => hne (gen_ne2 P cC _ _ _ _ _ _ _ _ hu hv h0)⟩
theorem gen_eq (n : Nat) [NeZero n] (c X Y a b d e : Fin n) (h1 : a * X = c * b) (h2 : d * Y = c * e) (h : b * d = e * a) : (a * d) * X = (a * d) * Y := by grind
theorem padd_assoc {p q r : Pt} (hp : OnP p) (hq : OnP q) (hr : OnP r) : padd (padd p q) r = padd p (padd q r) := by
 rw [padd_comm p (padd q r)]
 have a1 := left1 hp hq hr
 have a2 := left2 hp hq hr
 have b1 := left1 hq hr hp
 have b2 := left2 hq hr hp
 have k1 := assocX P cC p.1 p.2 q.1 q.2 r.1 r.2 hp hq hr
 have k2 := assocY P cC p.1 p.2 q.1 q.2 r.1 r.2 hp hq hr
 exact Prod.ext (mul_cancel (mul_ne a1.2 b1.2) (gen_eq P cC _ _ _ _ _ _ a1.1 b1.1 k1)) (mul_cancel (mul_ne a2.2 b2.2) (gen_eq P cC _ _ _ _ _ _ a2.1 b2.1 k2))
def mulP (p : Pt) : Nat → Pt
 | 0 => zero
 | n + 1 => padd (mulP p n) p
theorem mulP_on {p : Pt} (hp : OnP p) (n : Nat) : OnP (mulP p n) := by
 induction n with
 | zero => exact zero_on
 | succ n ih => exact padd_on ih hp
theorem mulP_add {p : Pt} (hp : OnP p) (m n : Nat) : mulP p (m + n) = padd (mulP p m) (mulP p n) := by
 induction n with
 | zero => rw [Nat.add_zero]; exact (padd_zero _).symm
 | succ n ih =>
  show padd (mulP p (m + n)) p = padd (mulP p m) (padd (mulP p n) p)
  rw [ih, padd_assoc (mulP_on hp m) (mulP_on hp n) hp]
end Ed
end Go.Proofs.YtbojijefenfbgaaGreatDoor
