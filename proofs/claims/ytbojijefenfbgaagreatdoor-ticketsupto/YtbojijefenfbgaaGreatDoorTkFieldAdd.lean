/- Walks of the program's field: Add, Sub, Neg. -/
/- Plain number theory: primes, the little theorem of Fermat, a certificate of primality after Pocklington. It imports nothing of the program. -/
/- Numbers in parts to a base, with carries: what the document's own reckoning in parts of 16 bits comes to. -/
import Derived.Test.YtbojijefenfbgaaGreatDoorTkU
namespace Go.Proofs.YtbojijefenfbgaaGreatDoor
open Go.RowKit
namespace Fw
open Bt
attribute [local go_sem] run_Add64_xy0 run_Add64_19 run_Add64_0c run_Sub64_xy0 run_Sub64_0c
attribute [local go_sem] UV.u_add UV.u_mul UV.u_sub UV.u_xor UV.u_and UV.u_or UV.u_shr UV.u_shl UV.u_not UV.u_notm UV.u_wrap_un run_Add64 run_Sub64

def wordZero : Array Value := #[.int .u64 0, .int .u64 0, .int .u64 0, .int .u64 0]
theorem below_setRow (w : World) (g : Nat) (cs : Array Value) : Below g w (w.setRow g cs) :=
  ⟨rfl, rfl, rfl, by simp [World.setRow], fun k hk => by show (Array.modify _ _ _)[k]? = _; rw [Array.getElem?_modify, if_neg (by omega)]⟩
/-- The carries of a + b. -/
def k1 (a b : Q) : Bool := carry a.a0 b.a0 false
def k2 (a b : Q) : Bool := carry a.a1 b.a1 (k1 a b)
def k3 (a b : Q) : Bool := carry a.a2 b.a2 (k2 a b)
def addQ (a b : Q) : Q := ⟨a.a0 + b.a0 + bv false, a.a1 + b.a1 + bv (k1 a b), a.a2 + b.a2 + bv (k2 a b), a.a3 + b.a3 + bv (k3 a b)⟩
theorem addQ_num (a b : Q) (ha : a.num < PP) (hb : b.num < PP) : (addQ a b).num = a.num + b.num := by
  have v0 := add_val a.a0 b.a0 false
  have v1 := add_val a.a1 b.a1 (k1 a b)
  have v2 := add_val a.a2 b.a2 (k2 a b)
  have v3 := add_val a.a3 b.a3 (k3 a b)
  rw [show carry a.a0 b.a0 false = k1 a b from rfl, show (bv false).toNat = 0 from rfl] at v0
  rw [show carry a.a1 b.a1 (k1 a b) = k2 a b from rfl] at v1
  rw [show carry a.a2 b.a2 (k2 a b) = k3 a b from rfl] at v2
  unfold Q.num addQ at *
  simp only at *
  generalize (a.a0 + b.a0 + bv false).toNat = t0 at *
  generalize (a.a1 + b.a1 + bv (k1 a b)).toNat = t1 at *
  generalize (a.a2 + b.a2 + bv (k2 a b)).toNat = t2 at *
  generalize (a.a3 + b.a3 + bv (k3 a b)).toNat = t3 at *
  generalize (bv (k1 a b)).toNat = c1 at *
  generalize (bv (k2 a b)).toNat = c2 at *
  generalize (bv (k3 a b)).toNat = c3 at *
  generalize (bv (carry a.a3 b.a3 (k3 a b))).toNat = c4 at *
  rw [PP_eq] at *
  omega

set_option maxHeartbeats 400000 in
theorem add_any (a b : Q) (ha : a.num < PP) (hb : b.num < PP) (w : World) :
    Calls Tryz.prog 229 #[.agg a.cells, .agg b.cells] w fun e w' => ∃ r : Q, e = .returned (.agg r.cells) ∧ r.num = (a.num + b.num) % PP ∧ Below w.heap.size w w' := by
  have HN : Hid _ := addQ_num a b ha hb
  have HS : Hid ((addQ a b).num < 2 * PP) := by show _ < _; rw [HN.out]; omega
  clear ha hb
  unfold Q.cells
  go_enter Tryz.func229, Tryz.ntmps229
  go_wp2_with fail
  refine (settle_any (addQ a b) HS.out _).mono ?_
  rintro e w1 ⟨r, rfl, hr, hb⟩
  have HR : Hid _ := hr
  have HB : Hid _ := hb
  clear hr hb
  have HG : Hid (w1.heap[w.heap.size + 1 + 1]? = some (.cells wordZero 161 (0, 0))) := (HB.out.block _ (by simp)).trans (by
    have := heap_alloc_new ((w.alloc (.cells a.cells 161)).alloc (.cells b.cells 161)) (.cells wordZero 161)
    simp only [World.size_alloc] at this
    exact this)
  go_wp2_with (refine wpList_store_row rfl 161 _ _ rfl (w.heap.size + 1 + 1) r.cells rfl rfl 161 wordZero HG.out (by kernel_rfl) rfl r.cells_one ?_)
  refine Own.ret_row Tryz.results229 rfl (w.heap.size + 1 + 1) 161 r.cells (0, 0) _ rfl (setRow_heap _ _ _ _ _ _ HG.out) Tryz.underlying161 rfl (by kernel_rfl) ⟨r, rfl, by rw [HR.out, HN.out], ?_⟩
  have h3 : Below w.heap.size w (((w.alloc (.cells a.cells 161)).alloc (.cells b.cells 161)).alloc (.cells wordZero 161)) := (((Below.refl _ _).alloc (Nat.le_refl _) _).alloc (by simp) _).alloc (by simp; omega) _
  exact (h3.trans (HB.out.mono h3.size)).trans ((below_setRow _ _ _).mono (by omega))

/-- The borrows of a - b, and of what is then taken away. -/
def m1 (a b : Q) : Bool := borrow a.a0 b.a0 false
def m2 (a b : Q) : Bool := borrow a.a1 b.a1 (m1 a b)
def m3 (a b : Q) : Bool := borrow a.a2 b.a2 (m2 a b)
def m4 (a b : Q) : Bool := borrow a.a3 b.a3 (m3 a b)
def d0 (a b : Q) : BitVec 64 := a.a0 - b.a0 - bv false
def d1 (a b : Q) : BitVec 64 := a.a1 - b.a1 - bv (m1 a b)
def d2 (a b : Q) : BitVec 64 := a.a2 - b.a2 - bv (m2 a b)
def d3 (a b : Q) : BitVec 64 := a.a3 - b.a3 - bv (m3 a b)
def n1 (a b : Q) : Bool := borrow (d0 a b) (19#64 * bv (m4 a b)) false
def n2 (a b : Q) : Bool := borrow (d1 a b) 0#64 (n1 a b)
def n3 (a b : Q) : Bool := borrow (d2 a b) 0#64 (n2 a b)
def subQ (a b : Q) : Q := ⟨d0 a b - 19#64 * bv (m4 a b) - bv false, d1 a b - bv (n1 a b), d2 a b - bv (n2 a b), (d3 a b - bv (n3 a b)) &&& 9223372036854775807#64⟩
theorem mul19 (b : Bool) : (19#64 * bv b).toNat = 19 * (bv b).toNat := by cases b <;> rfl
theorem sub_chain (t0 t1 t2 t3 b0 b1 b2 b3 a0 a1 a2 a3 c0 c1 c2 c3 c4 : Nat) (v0 : t0 + b0 + c0 = a0 + 18446744073709551616 * c1) (v1 : t1 + b1 + c1 = a1 + 18446744073709551616 * c2) (v2 : t2 + b2 + c2 = a2 + 18446744073709551616 * c3) (v3 : t3 + b3 + c3 = a3 + 18446744073709551616 * c4) :
    (t0 + 18446744073709551616 * t1 + 340282366920938463463374607431768211456 * t2 + 6277101735386680763835789423207666416102355444464034512896 * t3) + (b0 + 18446744073709551616 * b1 + 340282366920938463463374607431768211456 * b2 + 6277101735386680763835789423207666416102355444464034512896 * b3) + c0
    = (a0 + 18446744073709551616 * a1 + 340282366920938463463374607431768211456 * a2 + 6277101735386680763835789423207666416102355444464034512896 * a3) + 115792089237316195423570985008687907853269984665640564039457584007913129639936 * c4 := by omega
theorem sub_end (A B T E e3 c4 f4 low : Nat) (hA : A < PP) (hB : B < PP) (hT : T + B + 0 = A + 115792089237316195423570985008687907853269984665640564039457584007913129639936 * c4) (hT2 : T < 115792089237316195423570985008687907853269984665640564039457584007913129639936) (hc : c4 ≤ 1)
    (hE : E + 19 * c4 + 0 = T + 115792089237316195423570985008687907853269984665640564039457584007913129639936 * f4) (hE2 : E = low + 6277101735386680763835789423207666416102355444464034512896 * e3) (hl : low < 6277101735386680763835789423207666416102355444464034512896) (he : e3 < 18446744073709551616) :
    low + 6277101735386680763835789423207666416102355444464034512896 * (e3 % 9223372036854775808) = (A + PP - B) % PP := by
  rcases Nat.lt_or_ge A B with hlt | hge
  · have hmod : (A + PP - B) % PP = A + PP - B := Nat.mod_eq_of_lt (by omega)
    rw [hmod]
    rw [PP_eq] at *
    have h1 : c4 = 1 := by omega
    subst h1
    have hf : f4 = 0 := by omega
    subst hf
    omega
  · have hmod : (A + PP - B) % PP = A - B := by
      rw [show A + PP - B = (A - B) + PP by omega, Nat.add_mod_right]
      exact Nat.mod_eq_of_lt (by omega)
    rw [hmod]
    rw [PP_eq] at *
    have h1 : c4 = 0 := by omega
    subst h1
    have hf : f4 = 0 := by omega
    subst hf
    omega
theorem subQ_num (a b : Q) (ha : a.num < PP) (hb : b.num < PP) : (subQ a b).num = (a.num + PP - b.num) % PP := by
  have v0 : (d0 a b).toNat + b.a0.toNat + 0 = a.a0.toNat + 18446744073709551616 * (bv (m1 a b)).toNat := sub_val a.a0 b.a0 false
  have v1 : (d1 a b).toNat + b.a1.toNat + (bv (m1 a b)).toNat = a.a1.toNat + 18446744073709551616 * (bv (m2 a b)).toNat := sub_val a.a1 b.a1 (m1 a b)
  have v2 : (d2 a b).toNat + b.a2.toNat + (bv (m2 a b)).toNat = a.a2.toNat + 18446744073709551616 * (bv (m3 a b)).toNat := sub_val a.a2 b.a2 (m2 a b)
  have v3 : (d3 a b).toNat + b.a3.toNat + (bv (m3 a b)).toNat = a.a3.toNat + 18446744073709551616 * (bv (m4 a b)).toNat := sub_val a.a3 b.a3 (m3 a b)
  have w0 : (d0 a b - 19#64 * bv (m4 a b) - bv false).toNat + (19#64 * bv (m4 a b)).toNat + 0 = (d0 a b).toNat + 18446744073709551616 * (bv (n1 a b)).toNat := sub_val (d0 a b) _ false
  have w1 := sub_val (d1 a b) 0#64 (n1 a b)
  have w2 := sub_val (d2 a b) 0#64 (n2 a b)
  have w3 := sub_val (d3 a b) 0#64 (n3 a b)
  rw [mul19] at w0
  simp only [BitVec.sub_zero] at w1 w2 w3
  rw [show borrow (d1 a b) 0#64 (n1 a b) = n2 a b from rfl, show (0#64).toNat = 0 from rfl] at w1
  rw [show borrow (d2 a b) 0#64 (n2 a b) = n3 a b from rfl, show (0#64).toNat = 0 from rfl] at w2
  rw [show (0#64).toNat = 0 from rfl] at w3
  have hm : ((d3 a b - bv (n3 a b)) &&& 9223372036854775807#64).toNat = (d3 a b - bv (n3 a b)).toNat % 9223372036854775808 := by
    rw [BitVec.toNat_and]
    exact Nat.and_two_pow_sub_one_eq_mod _ 63
  have b4 := bv_le (m4 a b)
  have hT := sub_chain _ _ _ _ _ _ _ _ _ _ _ _ _ _ _ _ _ v0 v1 v2 v3
  have hE := sub_chain _ _ _ _ _ _ _ _ _ _ _ _ _ _ _ _ _ w0 w1 w2 w3
  have l0 := (d0 a b).isLt
  have l1 := (d1 a b).isLt
  have l2 := (d2 a b).isLt
  have l3 := (d3 a b).isLt
  have g0 := (d0 a b - 19#64 * bv (m4 a b) - bv false).isLt
  have g1 := (d1 a b - bv (n1 a b)).isLt
  have g2 := (d2 a b - bv (n2 a b)).isLt
  have g3 := (d3 a b - bv (n3 a b)).isLt
  clear v0 v1 v2 v3 w0 w1 w2 w3
  unfold subQ
  show _ + _ + _ + _ * ((d3 a b - bv (n3 a b)) &&& 9223372036854775807#64).toNat = _
  rw [hm]
  refine sub_end a.num b.num _ _ (d3 a b - bv (n3 a b)).toNat _ _ _ ha hb hT ?_ b4 (by simpa using hE) rfl ?_ g3
  · clear hT hE hm ha hb
    omega
  · clear hT hE hm ha hb
    omega
theorem u_mul19 (x : BitVec 64) : IntKind.u64.wrap (19 * un x) = un (19#64 * x) := UV.u_mul 19#64 x
attribute [local go_sem] u_mul19

set_option maxHeartbeats 400000 in
theorem sub_any (a b : Q) (ha : a.num < PP) (hb : b.num < PP) (w : World) :
    Calls Tryz.prog 226 #[.agg a.cells, .agg b.cells] w fun e w' => ∃ r : Q, e = .returned (.agg r.cells) ∧ r.num = (a.num + PP - b.num) % PP ∧ Below w.heap.size w w' := by
  have HN : Hid _ := subQ_num a b ha hb
  have hand := and_top (d3 a b - bv (n3 a b))
  unfold d3 n3 n2 n1 d2 d1 d0 m4 m3 m2 m1 at hand
  clear ha hb
  unfold Q.cells
  go_enter Tryz.func226, Tryz.ntmps226
  go_wp2_with fail
  refine Own.ret_row Tryz.results226 rfl (w.heap.size + 1 + 1) 161 (subQ a b).cells (0, 0) _ rfl (by
    have := heap_alloc_new ((w.alloc (.cells a.cells 161)).alloc (.cells b.cells 161)) (.cells (subQ a b).cells 161)
    simp only [World.size_alloc] at this
    exact this) Tryz.underlying161 rfl (by kernel_rfl) ⟨subQ a b, rfl, HN.out, ?_⟩
  exact (((Below.refl _ _).alloc (Nat.le_refl _) _).alloc (by simp) _).alloc (by simp; omega) _
end Fw
end Go.Proofs.YtbojijefenfbgaaGreatDoor
namespace Go.Proofs.YtbojijefenfbgaaGreatDoor
namespace Nt

def IsPrime (p : Nat) : Prop := 1 < p ∧ ∀ m, m ∣ p → m = 1 ∨ m = p

theorem IsPrime.pos {p : Nat} (h : IsPrime p) : 0 < p := by have := h.1; omega
theorem IsPrime.coprime {p : Nat} (h : IsPrime p) (a : Nat) (ha : ¬ p ∣ a) : Nat.Coprime a p := by
  have hd : Nat.gcd a p ∣ p := Nat.gcd_dvd_right _ _
  rcases h.2 _ hd with e | e
  · exact e
  · exact absurd (e ▸ Nat.gcd_dvd_left a p) ha
theorem IsPrime.dvd_mul {p : Nat} (h : IsPrime p) {a b : Nat} (hab : p ∣ a * b) : p ∣ a ∨ p ∣ b := by
  by_cases ha : p ∣ a
  · exact .inl ha
  · exact .inr ((Nat.Coprime.symm (h.coprime a ha)).dvd_of_dvd_mul_left hab)

/-- Binomial numbers. -/
def bin : Nat → Nat → Nat
  | _, 0 => 1
  | 0, _ + 1 => 0
  | n + 1, k + 1 => bin n k + bin n (k + 1)
theorem bin_zero (n : Nat) : bin n 0 = 1 := by cases n <;> rfl
theorem bin_gt (n k : Nat) (h : n < k) : bin n k = 0 := by
  induction n generalizing k with
  | zero => cases k with
    | zero => omega
    | succ k => rfl
  | succ n ih => cases k with
    | zero => omega
    | succ k => simp only [bin]; rw [ih k (by omega), ih (k + 1) (by omega)]
theorem bin_self (n : Nat) : bin n n = 1 := by
  induction n with
  | zero => rfl
  | succ n ih => simp only [bin]; rw [ih, bin_gt n (n + 1) (by omega)]
theorem bin_mul (n k : Nat) : (k + 1) * bin (n + 1) (k + 1) = (n + 1) * bin n k := by
  induction n generalizing k with
  | zero => cases k with
    | zero => rfl
    | succ k => simp [bin]
  | succ n ih => cases k with
    | zero =>
      have := ih 0
      simp only [bin_zero, Nat.mul_one, Nat.zero_add, Nat.one_mul] at this ⊢
      show bin (n + 1) 0 + bin (n + 1) 1 = n + 1 + 1
      rw [this, bin_zero]; omega
    | succ j =>
      have h1 := ih j
      have h2 := ih (j + 1)
      have e : bin (n + 1) (j + 1) = bin n j + bin n (j + 1) := rfl
      have e2 : bin (n + 1 + 1) (j + 1 + 1) = bin (n + 1) (j + 1) + bin (n + 1) (j + 1 + 1) := rfl
      rw [e2, Nat.mul_add, h2]
      rw [show j + 1 + 1 = (j + 1) + 1 from rfl, Nat.add_mul (j + 1) 1, h1, Nat.one_mul]
      rw [Nat.add_mul (n + 1) 1, Nat.one_mul]
      rw [show (n + 1) * bin (n + 1) (j + 1) = (n + 1) * bin n j + (n + 1) * bin n (j + 1) by rw [e, Nat.mul_add]]
      omega

def sumTo (n a : Nat) : Nat → Nat
  | 0 => 0
  | m + 1 => sumTo n a m + bin n m * a ^ m
theorem sumTo_succ (n a m : Nat) : sumTo (n + 1) a (m + 1) = sumTo n a (m + 1) + a * sumTo n a m := by
  induction m with
  | zero => simp [sumTo, bin_zero]
  | succ m ih =>
    rw [sumTo, ih]
    rw [show sumTo n a (m + 1 + 1) = sumTo n a (m + 1) + bin n (m + 1) * a ^ (m + 1) from rfl]
    rw [show bin (n + 1) (m + 1) = bin n m + bin n (m + 1) from rfl, Nat.add_mul]
    rw [show a * sumTo n a (m + 1) = a * sumTo n a m + a * (bin n m * a ^ m) by rw [sumTo, Nat.mul_add]]
    rw [show a * (bin n m * a ^ m) = bin n m * a ^ (m + 1) by rw [Nat.pow_succ, Nat.mul_left_comm, Nat.mul_comm a (a ^ m)]]
    omega
theorem binomial (n a : Nat) : (a + 1) ^ n = sumTo n a (n + 1) := by
  induction n with
  | zero => simp [sumTo, bin_zero]
  | succ n ih =>
    rw [Nat.pow_succ, ih, sumTo_succ]
    rw [show sumTo n a (n + 1 + 1) = sumTo n a (n + 1) + bin n (n + 1) * a ^ (n + 1) from rfl, bin_gt n (n + 1) (by omega)]
    rw [Nat.mul_add, Nat.mul_one, Nat.mul_comm]
    omega

theorem bin_dvd {p : Nat} (h : IsPrime p) (k : Nat) (h1 : 0 < k) (h2 : k < p) : p ∣ bin p k := by
  obtain ⟨n, rfl⟩ : ∃ n, p = n + 1 := ⟨p - 1, by have := h.1; omega⟩
  obtain ⟨j, rfl⟩ : ∃ j, k = j + 1 := ⟨k - 1, by omega⟩
  have e := bin_mul n j
  have hd : n + 1 ∣ (j + 1) * bin (n + 1) (j + 1) := ⟨bin n j, e⟩
  rcases h.dvd_mul hd with hc | hc
  · exact absurd (Nat.le_of_dvd (by omega) hc) (by omega)
  · exact hc
theorem sumTo_mod {p : Nat} (h : IsPrime p) (a k : Nat) (hk : k < p) : sumTo p a (k + 1) % p = 1 % p := by
  induction k with
  | zero => simp [sumTo, bin_zero]
  | succ k ih =>
    rw [sumTo, Nat.add_mod, ih (by omega)]
    obtain ⟨c, hc⟩ := bin_dvd h (k + 1) (by omega) hk
    rw [hc, Nat.mul_assoc, Nat.mul_mod_right]
    simp
theorem fermat {p : Nat} (h : IsPrime p) (a : Nat) : a ^ p % p = a % p := by
  induction a with
  | zero => rw [Nat.zero_pow h.pos]
  | succ a ih =>
    obtain ⟨n, hn⟩ : ∃ n, p = n + 1 := ⟨p - 1, by have := h.1; omega⟩
    rw [binomial, sumTo, bin_self, Nat.one_mul, Nat.add_mod, ih]
    have e : sumTo p a p % p = 1 % p := by
      have := sumTo_mod h a n (by omega)
      rw [← hn] at this
      exact this
    rw [e, ← Nat.add_mod, Nat.add_comm]
theorem mod_of_dvd_sub {a b m : Nat} (h : a ≤ b) (hd : m ∣ b - a) : b % m = a % m := by
  obtain ⟨c, hc⟩ := hd
  rw [show b = a + m * c by omega, Nat.add_mul_mod_self_left]
theorem fermat_one {p : Nat} (h : IsPrime p) (a : Nat) (ha : ¬ p ∣ a) : a ^ (p - 1) % p = 1 := by
  have h1 := h.1
  have e := fermat h a
  have hpos : 0 < a ^ (p - 1) := Nat.pow_pos (Nat.pos_of_ne_zero (fun h0 => ha (h0 ▸ Nat.dvd_zero p)))
  have hp : a ^ p = a * a ^ (p - 1) := by
    conv => lhs; rw [show p = (p - 1) + 1 by omega, Nat.pow_succ, Nat.mul_comm]
  have hd : p ∣ a * (a ^ (p - 1) - 1) := by
    rw [Nat.mul_sub, Nat.mul_one, ← hp]
    exact Nat.dvd_of_mod_eq_zero (Nat.sub_mod_eq_zero_of_mod_eq e)
  rcases h.dvd_mul hd with hc | hc
  · exact absurd hc ha
  · rw [mod_of_dvd_sub hpos hc]; exact Nat.mod_eq_of_lt h1

/-- A prime divisor. -/
theorem exists_prime (n : Nat) (h : 1 < n) : ∃ p, IsPrime p ∧ p ∣ n := by
  induction n using Nat.strongRecOn with
  | _ n ih =>
    by_cases hp : IsPrime n
    · exact ⟨n, hp, Nat.dvd_refl n⟩
    · have : ∃ m, m ∣ n ∧ m ≠ 1 ∧ m ≠ n := Classical.byContradiction fun hno => hp ⟨h, fun m hm => by
        by_cases h1 : m = 1
        · exact .inl h1
        · by_cases h2 : m = n
          · exact .inr h2
          · exact absurd ⟨m, hm, h1, h2⟩ hno⟩
      obtain ⟨m, hm, h1, h2⟩ := this
      have hle := Nat.le_of_dvd (by omega) hm
      have hpos : 0 < m := Nat.pos_of_dvd_of_pos hm (by omega)
      obtain ⟨p, hpp, hd⟩ := ih m (by omega) (by omega)
      exact ⟨p, hpp, Nat.dvd_trans hd hm⟩

theorem pow_mod_one {a p e : Nat} (h : a ^ e % p = 1 % p) (k : Nat) : a ^ (e * k) % p = 1 % p := by
  rw [Nat.pow_mul, Nat.pow_mod, h, ← Nat.pow_mod, Nat.one_pow]

/-- If a to e and a to f are 1 modulo p, a to gcd e f is. -/
theorem pow_gcd {a p : Nat} (e f : Nat) (h1 : a ^ e % p = 1 % p) (h2 : a ^ f % p = 1 % p) : a ^ Nat.gcd e f % p = 1 % p := by
  induction e, f using Nat.gcd.induction with
  | H0 f => rw [Nat.gcd_zero_left]; exact h2
  | H1 e f hpos ih =>
    rw [Nat.gcd_rec]
    refine ih ?_ h1
    have hd := Nat.div_add_mod f e
    have hk := pow_mod_one h1 (f / e)
    rw [← hd, Nat.pow_add, Nat.mul_mod, hk, ← Nat.mul_mod, Nat.one_mul] at h2
    exact h2

theorem mod_of_mod {a b m p : Nat} (hd : p ∣ m) (h : a % m = b % m) : a % p = b % p := by
  rw [← Nat.mod_mod_of_dvd a hd, h, Nat.mod_mod_of_dvd b hd]

/-- One step of Pocklington's: a prime q of n - 1 divides p - 1 for each prime p of n. -/
theorem pock_dvd {n q a r p : Nat} (hn : n = q * r + 1) (hq : IsPrime q) (h1 : a ^ (n - 1) % n = 1 % n) (h2 : Nat.gcd (a ^ r % n + n - 1) n = 1) (hp : IsPrime p) (hpn : p ∣ n) : q ∣ p - 1 := by
  refine Classical.byContradiction fun hnot => ?_
  have hp1 := hp.1
  have hn0 : 0 < n := by omega
  have e1 : a ^ (n - 1) % p = 1 % p := mod_of_mod hpn h1
  have hr0 : 0 < n - 1 := by
    rcases Nat.eq_zero_or_pos (n - 1) with h0 | h0
    · exfalso
      have hn1 : n = 1 := by omega
      subst hn1
      have := Nat.le_of_dvd (by omega) hpn
      omega
    · exact h0
  have hpa : ¬ p ∣ a := fun hd => by
    have : p ∣ a ^ (n - 1) := Nat.dvd_trans hd (by rw [show n - 1 = (n - 2) + 1 by omega, Nat.pow_succ]; exact Nat.dvd_mul_left a _)
    rw [Nat.mod_eq_zero_of_dvd this, Nat.mod_eq_of_lt hp1] at e1
    omega
  have e2 : a ^ (p - 1) % p = 1 % p := by rw [fermat_one hp a hpa, Nat.mod_eq_of_lt hp1]
  have e3 := pow_gcd (n - 1) (p - 1) e1 e2
  -- the gcd of n - 1 = q r and p - 1 divides r
  have hg : Nat.gcd (n - 1) (p - 1) ∣ r := by
    have hco : Nat.Coprime (Nat.gcd (n - 1) (p - 1)) q := by
      have hc := hq.coprime (p - 1) hnot
      exact Nat.Coprime.coprime_dvd_left (Nat.gcd_dvd_right _ _) hc
    have hd : Nat.gcd (n - 1) (p - 1) ∣ q * r := by
      have := Nat.gcd_dvd_left (n - 1) (p - 1)
      rwa [show n - 1 = q * r by omega] at this ⊢
    exact hco.dvd_of_dvd_mul_left hd
  obtain ⟨c, hc⟩ := hg
  have e4 : a ^ r % p = 1 % p := by rw [hc]; exact pow_mod_one e3 c
  have hd : p ∣ a ^ r % n + n - 1 := by
    obtain ⟨k, hk⟩ := hpn
    have e5 : (a ^ r % n) % p = 1 % p := by rw [Nat.mod_mod_of_dvd _ ⟨k, hk⟩]; exact e4
    have hkpos : 0 < k := Nat.pos_of_ne_zero fun h0 => by rw [h0, Nat.mul_zero] at hk; omega
    have e6 : (a ^ r % n + n) % p = 1 % p := by rw [Nat.add_mod, e5, hk, Nat.mul_mod_right]; simp
    have := Nat.sub_mod_eq_zero_of_mod_eq e6
    exact Nat.dvd_of_mod_eq_zero this
  have := Nat.dvd_gcd hd hpn
  rw [h2] at this
  have := Nat.le_of_dvd (by omega) this
  omega
/-- If each prime of n is greater than its root, n is prime. -/
theorem prime_of_large {n : Nat} (h1 : 1 < n) (h : ∀ p, IsPrime p → p ∣ n → n < p * p) : IsPrime n := by
  refine ⟨h1, fun m hm => ?_⟩
  by_cases hm1 : m = 1
  · exact .inl hm1
  · right
    have hmpos : 0 < m := Nat.pos_of_dvd_of_pos hm (by omega)
    obtain ⟨c, hc⟩ := hm
    by_cases hc1 : c = 1
    · rw [hc, hc1, Nat.mul_one]
    · exfalso
      have hcpos : 0 < c := Nat.pos_of_ne_zero fun h0 => by rw [h0, Nat.mul_zero] at hc; omega
      obtain ⟨p, hp, hpm⟩ := exists_prime m (by omega)
      obtain ⟨p', hp', hpc⟩ := exists_prime c (by omega)
      have a1 := h p hp (Nat.dvd_trans hpm ⟨c, hc⟩)
      have a2 := h p' hp' (Nat.dvd_trans hpc ⟨m, by rw [Nat.mul_comm]; exact hc⟩)
      have b1 := Nat.le_of_dvd hmpos hpm
      have b2 := Nat.le_of_dvd hcpos hpc
      have hle : p * p' ≤ n := by rw [hc]; exact Nat.mul_le_mul b1 b2
      rcases Nat.le_total p p' with hpp | hpp
      · have := Nat.mul_le_mul_left p hpp; omega
      · have := Nat.mul_le_mul_right p' hpp; omega
theorem pock_one {n q a r : Nat} (h0 : 1 < n) (hn : n = q * r + 1) (hq : IsPrime q) (hbig : n < (q + 1) * (q + 1)) (h1 : a ^ (n - 1) % n = 1 % n) (h2 : Nat.gcd (a ^ r % n + n - 1) n = 1) : IsPrime n := by
  refine prime_of_large h0 (fun p hp hpn => ?_)
  have hd := pock_dvd hn hq h1 h2 hp hpn
  have hp1 := hp.1
  have hle := Nat.le_of_dvd (by omega) hd
  exact Nat.lt_of_lt_of_le hbig (Nat.mul_le_mul (by omega) (by omega))
theorem pock_two {n q r q' r' a : Nat} (h0 : 1 < n) (hn : n = q * r + 1) (hn' : n = q' * r' + 1) (hq : IsPrime q) (hq' : IsPrime q') (hne : Nat.gcd q q' = 1) (hbig : n < (q * q' + 1) * (q * q' + 1))
    (h1 : a ^ (n - 1) % n = 1 % n) (h2 : Nat.gcd (a ^ r % n + n - 1) n = 1) (h2' : Nat.gcd (a ^ r' % n + n - 1) n = 1) : IsPrime n := by
  refine prime_of_large h0 (fun p hp hpn => ?_)
  have hd := pock_dvd hn hq h1 h2 hp hpn
  have hd' := pock_dvd hn' hq' h1 h2' hp hpn
  have hp1 := hp.1
  have hle := Nat.le_of_dvd (by omega) (Nat.Coprime.mul_dvd_of_dvd_of_dvd hne hd hd')
  exact Nat.lt_of_lt_of_le hbig (Nat.mul_le_mul (by omega) (by omega))

/-- A number modulo m, to a power, by squarings (fuel bits). -/
def powMod (m : Nat) : Nat → Nat → Nat → Nat
  | 0, _, _ => 1 % m
  | f + 1, a, e => if e % 2 = 1 then a * powMod m f (a * a % m) (e / 2) % m else powMod m f (a * a % m) (e / 2)
theorem powMod_eq (m : Nat) (f a e : Nat) (h : e < 2 ^ f) : powMod m f a e = a ^ e % m := by
  induction f generalizing a e with
  | zero => obtain rfl : e = 0 := by simpa using h
            rfl
  | succ f ih =>
    rw [Nat.pow_succ] at h
    have hd := Nat.div_add_mod e 2
    simp only [powMod]
    rw [ih _ _ (by omega)]
    have e1 : (a * a % m) ^ (e / 2) % m = a ^ (2 * (e / 2)) % m := by rw [← Nat.pow_mod, Nat.pow_mul, Nat.pow_two]
    by_cases ho : e % 2 = 1
    · rw [if_pos ho, e1, Nat.mul_mod_mod]
      conv => rhs; rw [← hd, ho, Nat.pow_succ, Nat.mul_comm]
    · rw [if_neg ho, e1]
      conv => rhs; rw [← hd, show e % 2 = 0 by omega, Nat.add_zero]
theorem r_lt {n q r : Nat} (hn : n = q * r + 1) (hq : IsPrime q) : r < n := by
  have := Nat.le_mul_of_pos_left r hq.pos
  omega
theorem cert_one {n q a r : Nat} (f : Nat) (h0 : 1 < n) (hf : n ≤ 2 ^ f) (hn : n = q * r + 1) (hq : IsPrime q) (hbig : n < (q + 1) * (q + 1)) (h1 : powMod n f a (n - 1) = 1 % n) (h2 : Nat.gcd (powMod n f a r + n - 1) n = 1) : IsPrime n := by
  have hr := r_lt hn hq
  rw [powMod_eq n f a _ (by omega)] at h1 h2
  exact pock_one h0 hn hq hbig h1 h2
theorem cert_two {n q r q' r' a : Nat} (f : Nat) (h0 : 1 < n) (hf : n ≤ 2 ^ f) (hn : n = q * r + 1) (hn' : n = q' * r' + 1) (hq : IsPrime q) (hq' : IsPrime q') (hne : Nat.gcd q q' = 1) (hbig : n < (q * q' + 1) * (q * q' + 1))
    (h1 : powMod n f a (n - 1) = 1 % n) (h2 : Nat.gcd (powMod n f a r + n - 1) n = 1) (h2' : Nat.gcd (powMod n f a r' + n - 1) n = 1) : IsPrime n := by
  have hr := r_lt hn hq
  have hr' := r_lt hn' hq'
  rw [powMod_eq n f a _ (by omega)] at h1 h2 h2'
  exact pock_two h0 hn hn' hq hq' hne hbig h1 h2 h2'
/-- Trial division from d on (fuel f): no divisor up to the root. -/
def noDiv (n : Nat) : Nat → Nat → Bool
  | 0, _ => false
  | f + 1, d => if n < d * d then true else if n % d = 0 then false else noDiv n f (d + 1)
theorem noDiv_spec (n f d : Nat) (h : noDiv n f d = true) (m : Nat) (hm : d ≤ m) (hmm : m * m ≤ n) : ¬ m ∣ n := by
  induction f generalizing d with
  | zero => simp [noDiv] at h
  | succ f ih =>
    simp only [noDiv] at h
    by_cases h1 : n < d * d
    · have := Nat.mul_le_mul hm hm; omega
    · rw [if_neg h1] at h
      by_cases h2 : n % d = 0
      · rw [if_pos h2] at h; cases h
      · rw [if_neg h2] at h
        by_cases e : d = m
        · subst e; exact fun hd => h2 (Nat.mod_eq_zero_of_dvd hd)
        · exact ih (d + 1) h (by omega)
theorem prime_of_trial {n : Nat} (f : Nat) (h1 : 1 < n) (h : noDiv n f 2 = true) : IsPrime n := by
  refine prime_of_large h1 (fun p hp hpn => ?_)
  have hp1 := hp.1
  rcases Nat.lt_or_ge n (p * p) with hl | hl
  · exact hl
  · exact absurd hpn (noDiv_spec n f 2 h p (by omega) hl)
end Nt
end Go.Proofs.YtbojijefenfbgaaGreatDoor
namespace Go.Proofs.YtbojijefenfbgaaGreatDoor
namespace Dc
/-- The sum of the first k parts to a base. -/
def vi (B : Int) (f : Nat → Int) : Nat → Int
  | 0 => 0
  | k + 1 => vi B f k + f k * B ^ k
theorem vi_congr {B : Int} {f g : Nat → Int} {k : Nat} (h : ∀ j, j < k → f j = g j) : vi B f k = vi B g k := by
  induction k with
  | zero => rfl
  | succ k ih => simp only [vi, ih fun j hj => h j (by omega), h k (by omega)]
theorem vi_add (B : Int) (f g : Nat → Int) (k : Nat) : vi B (fun j => f j + g j) k = vi B f k + vi B g k := by
  induction k with
  | zero => rfl
  | succ k ih =>
    simp only [vi, ih, Int.add_mul]
    generalize f k * B ^ k = x
    generalize g k * B ^ k = y
    omega
theorem vi_sub (B : Int) (f g : Nat → Int) (k : Nat) : vi B (fun j => f j - g j) k = vi B f k - vi B g k := by
  induction k with
  | zero => rfl
  | succ k ih =>
    simp only [vi, ih, Int.sub_mul]
    generalize f k * B ^ k = x
    generalize g k * B ^ k = y
    omega
theorem vi_mul (B c : Int) (f : Nat → Int) (k : Nat) : vi B (fun j => c * f j) k = c * vi B f k := by
  induction k with
  | zero => simp [vi]
  | succ k ih => simp only [vi, ih, Int.mul_add, Int.mul_assoc]
/-- One part changed. -/
theorem vi_set (B : Int) (f : Nat → Int) (i k : Nat) (v : Int) (hi : i < k) : vi B (fun j => if j = i then v else f j) k = vi B f k + (v - f i) * B ^ i := by
  induction k with
  | zero => omega
  | succ k ih =>
    by_cases e : i = k
    · subst e
      simp only [vi, if_true]
      rw [vi_congr (g := f) fun j hj => if_neg (by omega), Int.sub_mul]
      generalize v * B ^ i = x
      generalize f i * B ^ i = y
      omega
    · simp only [vi, ih (by omega)]
      rw [if_neg (fun h => e h.symm)]
      generalize (v - f i) * B ^ i = x
      omega
theorem vi_more (B : Int) (f : Nat → Int) (i k : Nat) : vi B f (i + k) = vi B f i + B ^ i * vi B (fun j => f (i + j)) k := by
  induction k with
  | zero => simp [vi]
  | succ k ih =>
    rw [← Nat.add_assoc, vi, ih, vi, Int.mul_add, Int.pow_add, Int.mul_comm (f (i + k)), Int.mul_comm (f (i + k)), Int.add_assoc, Int.mul_assoc]
theorem vi_nonneg {B : Int} (hB : 0 ≤ B) {f : Nat → Int} {k : Nat} (h : ∀ j, j < k → 0 ≤ f j) : 0 ≤ vi B f k := by
  induction k with
  | zero => exact Int.le_refl _
  | succ k ih =>
    have h1 := ih fun j hj => h j (by omega)
    have h2 := Int.mul_nonneg (h k (by omega)) (Int.pow_nonneg (n := B) (m := k) hB)
    simp only [vi]
    omega
/-- The carry ahead of part i. -/
def cF (B c0 : Int) (f : Nat → Int) : Nat → Int
  | 0 => c0
  | i + 1 => (f i + cF B c0 f i) / B
theorem pow_pos' {B : Int} (hB : 0 < B) (i : Nat) : 0 < B ^ i := Int.pow_pos hB
theorem cF_eq {B : Int} (hB : 0 < B) (c0 : Int) (f : Nat → Int) (i : Nat) : cF B c0 f i = (c0 + vi B f i) / B ^ i := by
  induction i with
  | zero => simp [cF, vi]
  | succ i ih =>
    have hp := pow_pos' hB i
    rw [cF, ih, vi, Int.pow_succ, ← Int.ediv_ediv_of_nonneg (Int.le_of_lt hp), ← Int.add_assoc, Int.add_mul_ediv_right _ _ (by omega), Int.add_comm]
/-- The part i, carried. -/
theorem dig_eq {B : Int} (hB : 0 < B) (c0 : Int) (f : Nat → Int) {i k : Nat} (hi : i < k) : (f i + cF B c0 f i) % B = (c0 + vi B f k) / B ^ i % B := by
  have hp := pow_pos' hB i
  obtain ⟨m, rfl⟩ : ∃ m, k = i + 1 + m := ⟨k - (i + 1), by omega⟩
  rw [vi_more, cF_eq hB, vi, Int.pow_succ, Int.mul_assoc]
  generalize vi B (fun j => f (i + 1 + j)) m = t
  rw [show c0 + (vi B f i + f i * B ^ i + B ^ i * (B * t)) = (c0 + vi B f i) + (f i + B * t) * B ^ i by rw [Int.add_mul, Int.mul_comm (B ^ i)]; omega]
  rw [Int.add_mul_ediv_right _ _ (by omega)]
  generalize (c0 + vi B f i) / B ^ i = x
  rw [show x + (f i + B * t) = (f i + x) + B * t by omega, Int.add_mul_emod_self_left]
theorem emod_mul' (V a b : Int) (ha : 0 ≤ a) : V % (a * b) = V % a + a * (V / a % b) := by
  rw [Int.emod_def, Int.emod_def, Int.emod_def, Int.mul_sub, Int.ediv_ediv_of_nonneg ha, ← Int.mul_assoc]
  generalize a * b * (V / (a * b)) = x
  generalize a * (V / a) = y
  omega
/-- Numbers are their parts. -/
theorem vi_dig {B : Int} (hB : 0 < B) (V : Int) (k : Nat) : vi B (fun j => V / B ^ j % B) k = V % B ^ k := by
  induction k with
  | zero => simp [vi, Int.emod_one]
  | succ k ih =>
    rw [vi, ih, Int.pow_succ, Int.mul_comm _ (B ^ k), emod_mul' V (B ^ k) B (Int.le_of_lt (pow_pos' hB k))]
theorem cF_bound {c0 : Int} {f : Nat → Int} {n : Nat} (h : ∀ j, j < n → -1125899906842624 ≤ f j ∧ f j ≤ 1125899906842624) (h0 : -34359738368 ≤ c0 ∧ c0 ≤ 34359738368) (i : Nat) (hi : i ≤ n) : -34359738368 ≤ cF 65536 c0 f i ∧ cF 65536 c0 f i ≤ 34359738368 := by
  induction i with
  | zero => exact h0
  | succ i ih =>
    have h1 := h i (by omega)
    have h2 := ih (by omega)
    simp only [cF]
    generalize cF 65536 c0 f i = c at *
    generalize f i = x at *
    omega
/-- A round of the document's 'settled'. -/
def rd (V : Int) : Int := V % 57896044618658097711785492504343953926634992332820282019728792003956564819968 + 19 * (V / 57896044618658097711785492504343953926634992332820282019728792003956564819968)
theorem rd_mod (V : Int) : rd V % 57896044618658097711785492504343953926634992332820282019728792003956564819949 = V % 57896044618658097711785492504343953926634992332820282019728792003956564819949 := by
  unfold rd
  have h := Int.emod_add_mul_ediv V 57896044618658097711785492504343953926634992332820282019728792003956564819968
  generalize V % 57896044618658097711785492504343953926634992332820282019728792003956564819968 = r at *
  generalize V / 57896044618658097711785492504343953926634992332820282019728792003956564819968 = q at *
  subst h
  rw [show r + 57896044618658097711785492504343953926634992332820282019728792003956564819968 * q = (r + 19 * q) + 57896044618658097711785492504343953926634992332820282019728792003956564819949 * q by omega, Int.add_mul_emod_self_left]
theorem rd_one {V : Int} (h1 : -2037035976334486086268445688409378161051468393665936250636140449354381299763336706183397376 ≤ V) (h2 : V ≤ 2037035976334486086268445688409378161051468393665936250636140449354381299763336706183397376) : -1125899906842624 ≤ rd V ∧ rd V ≤ 57896044618658097711785492504343953926634992332820282019728793129856471662592 := by
  unfold rd
  omega
theorem rd_two {V : Int} (h1 : -1125899906842624 ≤ V) (h2 : V ≤ 57896044618658097711785492504343953926634992332820282019728793129856471662592) : 0 ≤ rd V ∧ rd V < 57896044618658097711785492504343953926634992332820282019728792003956564819968 := by
  unfold rd
  omega
theorem rd_three {V : Int} (h1 : 0 ≤ V) (h2 : V < 57896044618658097711785492504343953926634992332820282019728792003956564819968) : rd V = V := by
  unfold rd
  omega
theorem rd_all {V : Int} (h1 : -2037035976334486086268445688409378161051468393665936250636140449354381299763336706183397376 ≤ V) (h2 : V ≤ 2037035976334486086268445688409378161051468393665936250636140449354381299763336706183397376) : 0 ≤ rd (rd (rd V)) ∧ rd (rd (rd V)) < 57896044618658097711785492504343953926634992332820282019728792003956564819968 ∧ rd (rd (rd V)) % 57896044618658097711785492504343953926634992332820282019728792003956564819949 = V % 57896044618658097711785492504343953926634992332820282019728792003956564819949 := by
  have a := rd_one h1 h2
  have b := rd_two a.1 a.2
  rw [rd_three b.1 b.2]
  exact ⟨b.1, b.2, by rw [rd_mod, rd_mod]⟩
/-- What stands above 255 bits. -/
theorem top_eq (V : Int) : 2 * (V / 65536 ^ 16) + V / 65536 ^ 15 % 65536 / 32768 = V / 57896044618658097711785492504343953926634992332820282019728792003956564819968 := by
  rw [show (65536 : Int) ^ 16 = 65536 ^ 15 * 65536 by decide, ← Int.ediv_ediv_of_nonneg (by decide), show (57896044618658097711785492504343953926634992332820282019728792003956564819968 : Int) = 65536 ^ 15 * 32768 by decide, ← Int.ediv_ediv_of_nonneg (by decide)]
  generalize V / 65536 ^ 15 = x
  omega
theorem low_eq (V : Int) : V % 65536 ^ 15 + V / 65536 ^ 15 % 65536 % 32768 * 65536 ^ 15 = V % 57896044618658097711785492504343953926634992332820282019728792003956564819968 := by
  rw [show (57896044618658097711785492504343953926634992332820282019728792003956564819968 : Int) = 65536 ^ 15 * 32768 by decide, emod_mul' V (65536 ^ 15) 32768 (by decide), show V / 65536 ^ 15 % 65536 % 32768 = V / 65536 ^ 15 % 32768 by omega, Int.mul_comm]
/-- The parts behind a round. -/
def rF (V : Int) (j : Nat) : Int := if j = 0 then V % 65536 + 19 * (V / 57896044618658097711785492504343953926634992332820282019728792003956564819968) else if j = 15 then V / 65536 ^ 15 % 65536 % 32768 else V / 65536 ^ j % 65536
theorem rF_vi (V : Int) : vi 65536 (rF V) 16 = rd V := by
  have e : vi 65536 (rF V) 15 = V % 65536 ^ 15 + 19 * (V / 57896044618658097711785492504343953926634992332820282019728792003956564819968) := by
    have h := vi_set 65536 (fun j => V / 65536 ^ j % 65536) 0 15 (V % 65536 + 19 * (V / 57896044618658097711785492504343953926634992332820282019728792003956564819968)) (by decide)
    rw [vi_dig (by decide)] at h
    rw [vi_congr (g := fun j => if j = 0 then V % 65536 + 19 * (V / 57896044618658097711785492504343953926634992332820282019728792003956564819968) else V / 65536 ^ j % 65536) fun j hj => by unfold rF; rw [if_neg (show ¬ j = 15 by omega)], h, Int.pow_zero, Int.ediv_one]
    omega
  have e2 : rF V 15 = V / 65536 ^ 15 % 65536 % 32768 := by unfold rF; rw [if_neg (by decide), if_pos rfl]
  show vi 65536 (rF V) 15 + rF V 15 * 65536 ^ 15 = _
  rw [e, e2, rd, ← low_eq V]
  generalize V / 65536 ^ 15 % 65536 % 32768 * 65536 ^ 15 = x
  omega
end Dc
end Go.Proofs.YtbojijefenfbgaaGreatDoor
