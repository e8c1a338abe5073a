/- What the program's wide product is worth; bits of a number of eight words. Walks of the program's scalars: Order, reduce. Walks of the program's scalars: Join, FromHash, AddMul. What the program's Sum of terms stands for. Walks of the program's signing: timesBase. Plain mathematics: SHA-512 as the document tells it, on lists of bytes and words of 64 bits. It imports nothing of the program. -/
import Derived.Test.YtbojijefenfbgaaGreatDoorTtQStore
import Derived.Great.BuildSlice
set_option maxRecDepth 100000
namespace Go.Proofs.YtbojijefenfbgaaGreatDoor
open Go.RowKit
namespace Ww
open Fw Bt
def z4w (B : Nat) (W : Nat → BitVec 64) : Nat → Nat
 | 0 => 0
 | n + 1 => z4w B W n + (W n).toNat * B ^ n
theorem x2n (B : Nat) (W : Nat → BitVec 64) (k : Nat) (v : BitVec 64) (n : Nat) : (k < n → z4w B (y5c W k v) n + (W k).toNat * B ^ k = z4w B W n + v.toNat * B ^ k) ∧ (n ≤ k → z4w B (y5c W k v) n = z4w B W n) := by
 induction n with
 | zero => exact ⟨fun h => absurd h (by omega), fun _ => rfl⟩
 | succ n ih =>
  refine ⟨fun h => ?_, fun h => ?_⟩
  ·show z4w B (y5c W k v) n + (y5c W k v n).toNat * B ^ n + _ = z4w B W n + (W n).toNat * B ^ n + _
   by_cases e : n = k
   ·subst e
    rw [ih.2 (Nat.le_refl _), show y5c W n v n = v from if_pos rfl]
    omega
   ·rw [show y5c W k v n = W n from if_neg e]
    have := ih.1 (by omega)
    omega
  ·show z4w B (y5c W k v) n + (y5c W k v n).toNat * B ^ n = z4w B W n + (W n).toNat * B ^ n
   rw [ih.2 (by omega), show y5c W k v n = W n from if_neg (by omega)]
theorem j2n (B lo hi xb wk c P : Nat) (h : lo + B * hi = xb + wk + c) : lo * P + hi * (P * B) = xb * P + wk * P + c * P := by
 have h1 : (lo + B * hi) * P = (xb + wk + c) * P := by rw [h]
 rw [Nat.add_mul, Nat.add_mul, Nat.add_mul] at h1
 rw [← h1, Nat.mul_comm P B, ← Nat.mul_assoc, Nat.mul_comm hi B]
theorem j2o (x s y Pj Pi : Nat) : x * (s + y * Pj) * Pi = x * s * Pi + x * y * (Pi * Pj) := by
 rw [Nat.mul_add, Nat.add_mul, Nat.mul_assoc x (y * Pj), Nat.mul_assoc y, Nat.mul_comm Pj, ← Nat.mul_assoc x y]
theorem j2p (S' Hh Ll Wk Cc Xb Xs S T : Nat) (h1 : S' + Wk = S + Ll) (h4 : Ll + Hh = Xb + Wk + Cc) (h3 : S + Cc = T + Xs) : S' + Hh = T + (Xs + Xb) := by omega
section
variable (B : Nat) (hB : ∀ x y p q : BitVec 64, (y4c x y p q).toNat + B * (q0g x y p q).toNat = x.toNat * y.toNat + p.toNat + q.toNat)
include hB
theorem k5n (x : BitVec 64) (b : Q) (i : Nat) (W : Nat → BitVec 64) (n j : Nat) (h : i + j ≤ n) : z4w B (mj x b i W j).1 n + (mj x b i W j).2.toNat * B ^ (i + j) = z4w B W n + x.toNat * z4w B (Cw.qw b) j * B ^ i := by
 induction j with
 | zero =>
  rw [show (mj x b i W 0).1 = W from rfl, show (mj x b i W 0).2 = 0#64 from rfl, show (0#64).toNat = 0 from rfl, show z4w B (Cw.qw b) 0 = 0 from rfl, Nat.zero_mul, Nat.mul_zero, Nat.zero_mul]
 | succ j ih =>
  have h3 := ih (by omega)
  have h1 := (x2n B (mj x b i W j).1 (i + j) (y4c x (Cw.qw b j) ((mj x b i W j).1 (i + j)) (mj x b i W j).2) n).1 (by omega)
  have h2 := hB x (Cw.qw b j) ((mj x b i W j).1 (i + j)) (mj x b i W j).2
  rw [show (mj x b i W (j + 1)).1 = y5c (mj x b i W j).1 (i + j) (y4c x (Cw.qw b j) ((mj x b i W j).1 (i + j)) (mj x b i W j).2) from rfl, show (mj x b i W (j + 1)).2 = q0g x (Cw.qw b j) ((mj x b i W j).1 (i + j)) (mj x b i W j).2 from rfl,
   show z4w B (Cw.qw b) (j + 1) = z4w B (Cw.qw b) j + (Cw.qw b j).toNat * B ^ j from rfl, ← Nat.add_assoc i j 1, Nat.pow_succ, j2o, ← Nat.pow_add]
  exact j2p _ _ _ _ _ _ _ _ _ h1 (j2n _ _ _ _ _ _ _ h2) h3
omit hB in
theorem x7l (x : BitVec 64) (b : Q) (i : Nat) (W : Nat → BitVec 64) (j k : Nat) (h : i + j ≤ k) : (mj x b i W j).1 k = W k := by
 induction j with
 | zero => rfl
 | succ j ih =>
  show y5c (mj x b i W j).1 (i + j) _ k = W k
  rw [show y5c (mj x b i W j).1 (i + j) _ k = (mj x b i W j).1 k from if_neg (by omega), ih (by omega)]
omit hB in
theorem q9r (a b : Q) (i k : Nat) (h : i + 4 ≤ k) : mi a b i k = 0#64 := by
 induction i with
 | zero => rfl
 | succ i ih =>
  show y5c (mj (Cw.qw a i) b i (mi a b i) 4).1 (i + 4) _ k = 0#64
  rw [show y5c (mj (Cw.qw a i) b i (mi a b i) 4).1 (i + 4) _ k = (mj (Cw.qw a i) b i (mi a b i) 4).1 k from if_neg (by omega), x7l _ _ _ _ _ _ (by omega), ih (by omega)]
omit hB in
theorem x9o (n : Nat) : z4w B (fun _ => 0#64) n = 0 := by
 induction n with
 | zero => rfl
 | succ n ih => show z4w B (fun _ => 0#64) n + (0#64).toNat * B ^ n = 0; rw [ih, show (0#64).toNat = 0 from rfl, Nat.zero_mul]
theorem k5m (a b : Q) (n i : Nat) (hn : 8 ≤ n) (h : i ≤ 4) : z4w B (mi a b i) n = z4w B (Cw.qw a) i * z4w B (Cw.qw b) 4 := by
 induction i with
 | zero => rw [show mi a b 0 = fun _ => 0#64 from rfl, x9o, show z4w B (Cw.qw a) 0 = 0 from rfl, Nat.zero_mul]
 | succ i ih =>
  have h1 := (x2n B (mj (Cw.qw a i) b i (mi a b i) 4).1 (i + 4) (mj (Cw.qw a i) b i (mi a b i) 4).2 n).1 (by omega)
  have h2 := k5n B hB (Cw.qw a i) b i (mi a b i) n 4 (by omega)
  rw [x7l _ _ _ _ _ _ (Nat.le_refl _), q9r _ _ _ _ (Nat.le_refl _), show (0#64).toNat = 0 from rfl, Nat.zero_mul, Nat.add_zero] at h1
  rw [ih (by omega)] at h2
  rw [show mi a b (i + 1) = y5c (mj (Cw.qw a i) b i (mi a b i) 4).1 (i + 4) (mj (Cw.qw a i) b i (mi a b i) 4).2 from rfl, show z4w B (Cw.qw a) (i + 1) = z4w B (Cw.qw a) i + (Cw.qw a i).toNat * B ^ i from rfl, h1, h2, Nat.add_mul, Nat.mul_right_comm]
end
theorem x9n (B : Nat) (hB : 0 < B) (W : Nat → BitVec 64) (hW : ∀ k, (W k).toNat < B) (k n : Nat) (hk : k < n) : ∃ r, z4w B W n / B ^ k = (W k).toNat + B * r := by
 have hP : ∀ m, 0 < B ^ m := fun m => Nat.pow_pos hB
 have hlow : ∀ m, z4w B W m < B ^ m := fun m => by
  induction m with
  | zero => exact Nat.one_pos
  | succ m ih =>
   show z4w B W m + (W m).toNat * B ^ m < B ^ (m + 1)
   have h2 : ((W m).toNat + 1) * B ^ m ≤ B * B ^ m := Nat.mul_le_mul_right _ (hW m)
   rw [Nat.pow_succ, Nat.mul_comm (B ^ m) B]
   rw [Nat.add_mul, Nat.one_mul] at h2
   omega
 induction n with
 | zero => omega
 | succ n ih =>
  by_cases e : k = n
  ·subst e
   refine ⟨0, ?_⟩
   show (z4w B W k + (W k).toNat * B ^ k) / B ^ k = _
   rw [Nat.add_mul_div_right _ _ (hP k), Nat.div_eq_of_lt (hlow k)]
   omega
  ·obtain ⟨r, hr⟩ := ih (by omega)
   refine ⟨r + (W n).toNat * B ^ (n - 1 - k), ?_⟩
   show (z4w B W n + (W n).toNat * B ^ n) / B ^ k = _
   have e0 : B ^ n = B * B ^ (n - 1 - k) * B ^ k := by
    rw [Nat.mul_comm B, ← Nat.pow_succ, ← Nat.pow_add]
    congr 1
    omega
   have e1 : (W n).toNat * B ^ n = (B * ((W n).toNat * B ^ (n - 1 - k))) * B ^ k := by
    rw [e0]
    simp only [Nat.mul_assoc, Nat.mul_left_comm]
   rw [e1, Nat.add_mul_div_right _ _ (hP k), hr, Nat.mul_add, Nat.add_assoc]
def BB : Nat := 18446744073709551616
theorem x2z : BB = 18446744073709551616 := rfl
theorem x2o (q : Q) : z4w BB (Cw.qw q) 4 = q.num := by
 have e : ∀ B, z4w B (Cw.qw q) 4 = 0 + q.a0.toNat * B ^ 0 + q.a1.toNat * B ^ 1 + q.a2.toNat * B ^ 2 + q.a3.toNat * B ^ 3 := fun B => rfl
 rw [e, x2z]
 unfold Q.num
 omega
theorem q9u (a b : Q) : z4w BB (mi a b 4) 8 = a.num * b.num := by
 rw [k5m BB (fun x y p q => by rw [x2z]; exact k5k x y p q) a b 8 4 (Nat.le_refl _) (Nat.le_refl _), x2o, x2o]
theorem q7n (x r s : Nat) (hs : s < 64) : (x + BB * r) / 2 ^ s % 2 = x / 2 ^ s % 2 := by
 have e : BB * r = (2 * (2 ^ (63 - s) * r)) * 2 ^ s := by
  have h : BB = 2 * 2 ^ (63 - s) * 2 ^ s := by
   rw [Nat.mul_assoc, ← Nat.pow_add, show 63 - s + s = 63 by omega, x2z]
  rw [h]
  generalize 2 ^ (63 - s) = u
  generalize 2 ^ s = v
  simp only [Nat.mul_assoc, Nat.mul_left_comm, Nat.mul_comm]
 rw [e, Nat.add_mul_div_right _ _ (Nat.two_pow_pos s)]
 omega
theorem k8o (W : Nat → BitVec 64) (i : Nat) (hi : i < 512) : z4w BB W 8 / 2 ^ i % 2 = (W (i / 64)).toNat / 2 ^ (i % 64) % 2 := by
 obtain ⟨r, hr⟩ := x9n BB (by decide) W (fun k => by rw [x2z]; exact (W k).isLt) (i / 64) 8 (by omega)
 have e : (2 : Nat) ^ i = BB ^ (i / 64) * 2 ^ (i % 64) := by
  rw [show BB = 2 ^ 64 from rfl, ← Nat.pow_mul, ← Nat.pow_add]
  congr 1
  omega
 rw [e, ← Nat.div_div_eq_div_mul, hr, q7n _ _ _ (by omega)]
end Ww
open Go.RowKit
namespace Sw
open Fw Bt Ww
abbrev LL : Nat := 7237005577332262213973186563042994240857116359379907606001950938285454250989
theorem q6y : LL = 7237005577332262213973186563042994240857116359379907606001950938285454250989 := rfl
theorem y1c (w : World) : Calls Tryz.prog 107 #[] w fun e w' => e = .returned (.agg (nq LL).cells) ∧ Below w.heap.size w w' := by
 go_enter Tryz.func107, Tryz.ntmps107
 go_wp2_with fail
 exact Own.z1g Tryz.results107 rfl w.heap.size 184 _ (0, 0) _ rfl (heap_alloc_new _ _) Tryz.underlying184 rfl (by kernel_rfl) ⟨rfl, (Below.refl _ _).alloc (Nat.le_refl _) _⟩
theorem q5g : (nq LL).num = LL := z3c (by decide)
theorem j2m (r : Nat) (h : r < LL) : x5i (nq r) (nq r) = nq (2 * r) := by
 have h0 : r < 115792089237316195423570985008687907853269984665640564039457584007913129639936 := Nat.lt_trans h (by decide)
 have h1 := x0j (nq r) (nq r)
 rw [z3c h0] at h1
 have h2 := z5r (x5i (nq r) (nq r))
 refine y2j ?_
 rw [q6y] at h
 omega
theorem k5w (x b : BitVec 64) (hx : x.toNat % 2 = 0) (hb : b.toNat ≤ 1) : (x ||| b).toNat = x.toNat + b.toNat := by
 rw [BitVec.toNat_or]
 have h := Nat.shiftLeft_add_eq_or_of_lt (show b.toNat < 2 ^ 1 by omega) (x.toNat / 2)
 rw [Nat.shiftLeft_eq] at h
 have e : x.toNat = x.toNat / 2 * 2 ^ 1 := by omega
 rw [← e] at h
 exact h.symm
theorem or1 (n : Nat) (b : BitVec 64) (hn : n % 2 = 0) (h : n < 115792089237316195423570985008687907853269984665640564039457584007913129639936 - 1) (hb : b.toNat ≤ 1) : (⟨(nq n).a0 ||| b, (nq n).a1, (nq n).a2, (nq n).a3⟩ : Q) = nq (n + b.toNat) := by
 refine y2j ?_
 have h1 := z3c (n := n) (by omega)
 generalize nq n = q at h1 ⊢
 unfold Q.num at *
 simp only
 rw [k5w q.a0 b (by omega) hb]
 omega
theorem k5f (n : Nat) (h : n < 2 * LL) : x3y (nq n) (nq LL) = nq (n % LL) := by
 refine y2j ?_
 have h0 : n < 115792089237316195423570985008687907853269984665640564039457584007913129639936 := Nat.lt_trans h (by decide)
 rw [x7g _ _ (by rw [z3c h0, q5g]; exact h), z3c h0, q5g]
def q5l (W : Nat → BitVec 64) (i : Nat) : BitVec 64 := W (i / 64) >>> (i % 64) &&& 1#64
theorem q0w (W : Nat → BitVec 64) (i : Nat) (hi : i < 512) : (q5l W i).toNat = z4w BB W 8 / 2 ^ i % 2 := by
 rw [k8o W i hi]
 unfold q5l
 rw [BitVec.toNat_and, BitVec.toNat_ushiftRight, Nat.shiftRight_eq_div_pow, show (1#64).toNat = 1 from rfl, Nat.and_one_is_mod]
theorem j0d (N i : Nat) : (2 * (N / 2 ^ (i + 1) % LL) + N / 2 ^ i % 2) % LL = N / 2 ^ i % LL := by
 have e : N / 2 ^ i = 2 * (N / 2 ^ (i + 1)) + N / 2 ^ i % 2 := by
  rw [Nat.pow_succ, ← Nat.div_div_eq_div_mul]
  omega
 have h2 : (2 * (N / 2 ^ (i + 1) % LL) + N / 2 ^ i % 2) % LL = (2 * (N / 2 ^ (i + 1)) + N / 2 ^ i % 2) % LL := by
  rw [Nat.add_mod, Nat.mul_mod_mod, ← Nat.add_mod]
 rw [h2, ← e]
theorem k1t (W : Nat → BitVec 64) (n : Nat) (hn : n = 64 * 8) : z4w BB W 8 / 2 ^ n = 0 := by
 have hlow : ∀ m, z4w BB W m < BB ^ m := fun m => by
  induction m with
  | zero => exact Nat.one_pos
  | succ m ih =>
   have hB : ∀ B, (∀ k, (W k).toNat < B) → z4w B W m < B ^ m → z4w B W (m + 1) < B ^ (m + 1) := fun B hW ih => by
    show z4w B W m + (W m).toNat * B ^ m < B ^ (m + 1)
    have h2 : ((W m).toNat + 1) * B ^ m ≤ B * B ^ m := Nat.mul_le_mul_right _ (hW m)
    rw [Nat.pow_succ, Nat.mul_comm (B ^ m) B]
    rw [Nat.add_mul, Nat.one_mul] at h2
    omega
   exact hB BB (fun k => by rw [x2z]; exact (W k).isLt) ih
 have h := hlow 8
 have e : BB ^ 8 = 2 ^ (64 * 8) := (congrArg (· ^ 8) (show BB = 2 ^ 64 from rfl)).trans (Nat.pow_mul 2 64 8).symm
 rw [e, ← hn] at h
 exact Nat.div_eq_of_lt h
theorem NAt.j0x {w : World} {b : Nat} {q : Q} (h : NAt w b q) (v : BitVec 64) : NAt (w.setCell ⟨b, 0, none⟩ (.int .u64 (un v))) b ⟨v, q.a1, q.a2, q.a3⟩ := heap_setCell_same w b 0 q.cells 184 (.int .u64 (un v)) h
theorem DAt.other {w : World} {b c : Nat} {W : Nat → BitVec 64} (h : DAt w b W) (hne : b ≠ c) (cs : Array Value) : DAt (w.setRow c cs) b W := by
 unfold DAt at *
 rw [← h, setRow_other _ _ _ _ hne]
theorem NAt.other {w : World} {b c : Nat} {q : Q} (h : NAt w b q) (hne : b ≠ c) (cs : Array Value) : NAt (w.setRow c cs) b q := by
 unfold NAt at *
 rw [← h, setRow_other _ _ _ _ hne]
theorem lt2 {r : Nat} (h : r < LL) (b : Nat) (hb : b ≤ 1) : 2 * r + b < 2 * LL := by omega
theorem k8k (x : BitVec 64) : bits .and .u64 (un x) 1 = un (x &&& 1#64) := UV.z4x x 1#64
abbrev E3 (w : World) (W : Nat → BitVec 64) : World := ((w.alloc (.cells (Own.z0f 8 (dF W)) 265)).alloc (.cells zQ.cells 184)).alloc (.cells zQ.cells 184)
theorem j1d (w : World) (W : Nat → BitVec 64) : DAt (E3 w W) w.heap.size W := DAt.below (z0d w _ _ rfl) (((Below.refl (w.heap.size + 1) _).alloc (by simp) _).alloc (by simp) _) (by omega)
theorem j1e (w : World) (W : Nat → BitVec 64) : NAt (E3 w W) (w.heap.size + 1) zQ := NAt.below (z0d _ _ _ (by simp)) ((Below.refl (w.heap.size + 2) _).alloc (by simp) _) (by omega)
theorem j1f (w : World) (W : Nat → BitVec 64) : NAt (E3 w W) (w.heap.size + 1 + 1) zQ := z0d _ _ _ (by simp)
theorem j1c (w : World) (W : Nat → BitVec 64) : Below w.heap.size w (E3 w W) := (((Below.refl _ _).alloc (Nat.le_refl _) _).alloc (by simp) _).alloc (by simp; omega) _
set_option maxHeartbeats 1000000 in
theorem x2b (W : Nat → BitVec 64) (w : World) : Calls Tryz.prog 167 #[.agg (Own.z0f 8 (dF W))] w fun e w' => e = .returned (.agg (nq (z4w BB W 8 % LL)).cells) ∧ Below w.heap.size w w' := by
 obtain ⟨N, hN⟩ : ∃ N, N = z4w BB W 8 := ⟨_, rfl⟩
 have HN0 : Hid (N / 2 ^ 512 = 0) := by rw [hN]; exact k1t W 512 rfl
 have Hbit : Hid (∀ i, i < 512 → (q5l W i).toNat = N / 2 ^ i % 2) := by rw [hN]; exact q0w W
 rw [← hN]
 clear hN
 obtain ⟨lc, hlc⟩ : ∃ lc, lc = (nq LL).cells := ⟨_, rfl⟩
 have Hord : Hid (∀ w, Calls Tryz.prog 107 #[] w fun e w' => e = .returned (.agg lc) ∧ Below w.heap.size w w') := by rw [hlc]; exact y1c
 have Hless : Hid (∀ n, n < 2 * LL → ∀ w, Calls Tryz.prog 202 #[.agg (nq n).cells, .agg lc] w fun e w' => e = .returned (.agg (nq (n % LL)).cells) ∧ Below w.heap.size w w') := by
  intro n hn w
  rw [hlc, ← k5f n hn]
  exact x1i _ _ w
 clear hlc
 have HD : Hid (DAt (E3 w W) w.heap.size W) := j1d w W
 have HR : Hid (NAt (E3 w W) (w.heap.size + 1) zQ) := j1e w W
 have HT : Hid (NAt (E3 w W) (w.heap.size + 1 + 1) zQ) := j1f w W
 have HB : Hid (Below w.heap.size w (E3 w W)) := j1c w W
 go_enter Tryz.func167, Tryz.ntmps167
 go_wp2_with fail
 go_loopw [4] (fun iv wq => ∃ k : Nat, k ≤ 512 ∧ iv = .int .i64 ((k : Int) - 1) ∧ NAt wq (w.heap.size + 1 + 1) (nq (N / 2 ^ k % LL)) ∧ DAt wq w.heap.size W ∧ NAt wq (w.heap.size + 1) zQ ∧ Below w.heap.size w wq) (fun iv _ => (intOf iv + 1).toNat)
 case atStart => exact ⟨512, by omega, rfl, by rw [HN0.out]; exact HT.out, HD.out, HR.out, HB.out⟩
 case round =>
  clear HD HR HT HB
  rename World => wa
  obtain ⟨k, hk, rfl, ht, hd, hr, hb⟩ := hrel
  have HT : Hid (NAt wa (w.heap.size + 1 + 1) (nq (N / 2 ^ k % LL))) := ht
  have HD : Hid (DAt wa w.heap.size W) := hd
  have HR : Hid (NAt wa (w.heap.size + 1) zQ) := hr
  have HB : Hid (Below w.heap.size w wa) := hb
  clear ht hd hr hb
  rcases k with _ | i
  ·rw [show N / 2 ^ 0 % LL = N % LL by rw [Nat.pow_zero, Nat.div_one]] at HT
   go_wp2_with (first | refine z2d rfl _ rfl (w.heap.size + 1 + 1) (nq (N % LL)) rfl HT.out ?_ | refine z2o rfl _ _ rfl (w.heap.size + 1) (nq (N % LL)) zQ rfl rfl HR.out ?_)
   exact y9j Tryz.results167 rfl (w.heap.size + 1) (nq (N % LL)) rfl (HR.out.setRow _) ⟨rfl, HB.out.trans ((z0a _ _ _).mono (by omega))⟩
  ·have ei : (((i + 1 : Nat) : Int) - 1) = (i : Int) := by omega
   rw [ei]
   clear ei
   have hi : i < 512 := by omega
   obtain ⟨r, hr⟩ : ∃ r, r = N / 2 ^ (i + 1) % LL := ⟨_, rfl⟩
   have hrl : r < LL := by rw [hr]; exact Nat.mod_lt _ (by decide)
   have Hstep : Hid ((2 * r + N / 2 ^ i % 2) % LL = N / 2 ^ i % LL) := by rw [hr]; exact j0d N i
   rw [← hr] at HT
   clear hr
   go_wp2_with (refine z2d rfl _ rfl (w.heap.size + 1 + 1) (nq r) rfl HT.out ?_)
   refine (q6q (nq r) (nq r) _).mono ?_
   rintro e w1 ⟨rfl, hb1⟩
   rw [j2m r hrl]
   have HX1 : Hid (Below wa.heap.size wa w1) := hb1
   have HT1 : Hid (NAt w1 (w.heap.size + 1 + 1) (nq r)) := HT.out.below HX1.out HT.out.lt
   clear hb1
   obtain ⟨w2, hw2⟩ : ∃ w2, w2 = w1.setRow (w.heap.size + 1 + 1) (nq (2 * r)).cells := ⟨_, rfl⟩
   have HT2 : Hid (NAt w2 (w.heap.size + 1 + 1) (nq (2 * r))) := by rw [hw2]; exact HT1.out.setRow _
   have HD2 : Hid (DAt w2 w.heap.size W) := by rw [hw2]; exact DAt.other (HD.out.below HX1.out HD.out.lt) (by omega) _
   have HR2 : Hid (NAt w2 (w.heap.size + 1) zQ) := by rw [hw2]; exact NAt.other (HR.out.below HX1.out HR.out.lt) (by omega) _
   have HB2 : Hid (Below w.heap.size w w2) := by rw [hw2]; exact (HB.out.trans (HX1.out.mono HB.out.size)).trans ((z0a _ _ _).mono (by omega))
   have HW2 : Hid _ := hw2
   clear hw2
   go_wp2_with (refine z2o rfl _ _ rfl (w.heap.size + 1 + 1) (nq (2 * r)) (nq r) rfl rfl HT1.out ?_; rw [← HW2.out])
   clear HW2 HT1 HX1 HT HD HR HB
   obtain ⟨q2, hq2⟩ : ∃ q, q = nq (2 * r) := ⟨_, rfl⟩
   have Hor : Hid ((⟨q2.a0 ||| q5l W i, q2.a1, q2.a2, q2.a3⟩ : Q) = nq (2 * r + N / 2 ^ i % 2)) := by
    show _ = _
    rw [hq2, or1 (2 * r) (q5l W i) (by omega) (by rw [q6y] at hrl; omega) (by rw [Hbit.out i hi]; omega), Hbit.out i hi]
   rw [← hq2] at HT2
   clear hq2
   refine Qt.z0q 12 (by kernel_rfl) (by kernel_rfl) ?_
   refine Qt.z0b rfl (.pointer (some ⟨w.heap.size + 1 + 1, 0, none⟩)) (fun _ _ => by kernel_rfl) ?_
   refine Cw.x0f rfl _ rfl (w.heap.size + 1 + 1) 0 (.int .u64 (un q2.a0)) rfl HT2.out.lt (z7i HT2.out 0 (by omega)) ?_
   simp only [zD]
   refine Qt.z0b rfl (.int .i64 (i : Int)) (fun _ _ => by kernel_rfl) ?_
   simp only [zD]
   refine Qt.z0b rfl (.int .i64 ((i / 64 : Nat) : Int)) (fun w' _ => by go_simp; rw [IntKind.wrap_i64]; omega) ?_
   simp only [zD]
   refine Qt.z9y rfl 265 _ _ rfl 159 8 1 Tryz.underlying265 (by kernel_rfl) (by kernel_rfl) w.heap.size 0 (i / 64) .i64 rfl rfl (by omega) ?_
   rw [show 0 + i / 64 * 1 = i / 64 by omega]
   refine Cw.x0f rfl _ rfl w.heap.size (i / 64) (.int .u64 (un (W (i / 64)))) rfl HD2.out.lt (HD2.out.cell (i / 64) (by omega)) ?_
   simp only [zD]
   refine Qt.z0b rfl (.int .i64 (i : Int)) (fun _ _ => by kernel_rfl) ?_
   simp only [zD]
   refine Qt.z0b rfl (.int .i64 ((i % 64 : Nat) : Int)) (fun w' _ => by go_simp; exact Int.tmod_eq_emod_of_nonneg (by omega)) ?_
   simp only [zD]
   refine Qt.z0b rfl (.int .u64 (un (W (i / 64) >>> (i % 64)))) (fun w' _ => ?_) ?_
   ·go_simp
    rw [show ((i : Int) % 64).toNat = i % 64 by omega]
    exact UV.z3z _ _
   simp only [zD]
   refine Qt.z0b rfl (.int .u64 (un (q5l W i))) (fun w' _ => by go_simp; exact k8k _) ?_
   simp only [zD]
   refine Qt.z0b rfl (.int .u64 (un (q2.a0 ||| q5l W i))) (fun w' _ => by go_simp; exact UV.y1w _ _) ?_
   simp only [zD]
   refine Qt.z0b rfl (.pointer (some ⟨w.heap.size + 1 + 1, 0, none⟩)) (fun _ _ => by kernel_rfl) ?_
   simp only [zD]
   refine Qt.z1a ?_
   intro w3 hb3
   have HX3 : Hid (Below w2.heap.size w2 w3) := hb3
   clear hb3
   have HT3 : Hid (NAt w3 (w.heap.size + 1 + 1) q2) := HT2.out.below HX3.out HT2.out.lt
   have hc3 : w3.cell? ⟨w.heap.size + 1 + 1, 0, none⟩ = some (.int .u64 (un q2.a0)) := z7i HT3.out 0 (by omega)
   have hf3 : w3.frozen? ⟨w.heap.size + 1 + 1, 0, none⟩ = false := Cw.NAt.frozen HT3.out 0
   obtain ⟨w4, hw4⟩ : ∃ w4, w4 = w3.setCell ⟨w.heap.size + 1 + 1, 0, none⟩ (.int .u64 (un (q2.a0 ||| q5l W i))) := ⟨_, rfl⟩
   have HT4 : Hid (NAt w4 (w.heap.size + 1 + 1) (nq (2 * r + N / 2 ^ i % 2))) := by rw [hw4, ← Hor.out]; exact NAt.j0x HT3.out _
   have HD4 : Hid (DAt w4 w.heap.size W) := by rw [hw4]; exact (HD2.out.below HX3.out HD2.out.lt).z3y (by omega) _
   have HR4 : Hid (NAt w4 (w.heap.size + 1) zQ) := by rw [hw4]; exact (HR2.out.below HX3.out HR2.out.lt).z3y (by omega) _
   have HB4 : Hid (Below w.heap.size w w4) := by rw [hw4]; exact (HB2.out.trans (HX3.out.mono HB2.out.size)).setCell (by show w.heap.size ≤ w.heap.size + 1 + 1; omega) _
   have HW4 : Hid _ := hw4
   clear hw4 HX3 HT3 HT2 HD2 HR2 HB2
   go_wp2_with fail
   rw [← HW4.out]
   clear HW4
   have Hl : Hid (2 * r + N / 2 ^ i % 2 < 2 * LL) := lt2 hrl _ (by omega)
   refine Qt.z0q 3 (by kernel_rfl) (by kernel_rfl) ?_
   refine y_n rfl _ rfl (w.heap.size + 1 + 1) (nq (2 * r + N / 2 ^ i % 2)) rfl HT4.out ?_
   refine Qt.z0e rfl 107 #[] (.agg lc) (fun _ => by kernel_rfl) (fun w' _ => Hord.out w') ?_
   refine Qt.z0e rfl 202 #[.agg (nq (2 * r + N / 2 ^ i % 2)).cells, .agg lc] (.agg (nq ((2 * r + N / 2 ^ i % 2) % LL)).cells) (fun _ => by kernel_rfl) (fun w' _ => Hless.out _ Hl.out w') ?_
   rw [Hstep.out]
   simp only [zD]
   refine Qt.z1a ?_
   intro w5 hb5
   have HX5 : Hid (Below w4.heap.size w4 w5) := hb5
   clear hb5
   have HT5 : Hid (NAt w5 (w.heap.size + 1 + 1) (nq (2 * r + N / 2 ^ i % 2))) := HT4.out.below HX5.out HT4.out.lt
   refine z2o rfl _ _ rfl (w.heap.size + 1 + 1) (nq (N / 2 ^ i % LL)) (nq (2 * r + N / 2 ^ i % 2)) rfl rfl HT5.out ?_
   simp only [Act.put]
   go_wp2_with fail
   exact ⟨⟨i, by omega, rfl, HT5.out.setRow _, DAt.other (HD4.out.below HX5.out HD4.out.lt) (by omega) _, NAt.other (HR4.out.below HX5.out HR4.out.lt) (by omega) _, (HB4.out.trans (HX5.out.mono HB4.out.size)).trans ((z0a _ _ _).mono (by omega))⟩, by simp [intOf]⟩
end Sw
open Go.RowKit
namespace Sw
open Fw Bt Ww
def jW (a b : Q) (k : Nat) : BitVec 64 := if k < 4 then Cw.qw a k else Cw.qw b (k - 4)
theorem k4y (a b : Q) : z4w BB (jW a b) 8 = a.num + 115792089237316195423570985008687907853269984665640564039457584007913129639936 * b.num := by
 have e : ∀ B, z4w B (jW a b) 8 = 0 + a.a0.toNat * B ^ 0 + a.a1.toNat * B ^ 1 + a.a2.toNat * B ^ 2 + a.a3.toNat * B ^ 3 + b.a0.toNat * B ^ 4 + b.a1.toNat * B ^ 5 + b.a2.toNat * B ^ 6 + b.a3.toNat * B ^ 7 := fun B => rfl
 rw [e, x2z]
 unfold Q.num
 omega
set_option maxHeartbeats 400000 in
theorem k4z (a b : Q) (w : World) : Calls Tryz.prog 168 #[.agg a.cells, .agg b.cells] w fun e w' => e = .returned (.agg (Own.z0f 8 (dF (jW a b)))) ∧ Below w.heap.size w w' := by
 unfold Q.cells
 go_enter Tryz.func168, Tryz.ntmps168
 go_wp2_with fail
 exact Own.z1g Tryz.results168 rfl (w.heap.size + 1 + 1) 265 (Own.z0f 8 (dF (jW a b))) (0, 0) _ rfl (z0d _ _ _ (by simp)) Tryz.underlying265 rfl (by rw [Own.z0p]; kernel_rfl) ⟨rfl, (((Below.refl _ _).alloc (Nat.le_refl _) _).alloc (by simp) _).alloc (by simp; omega) _⟩
abbrev H4 (w : World) (r k n : Q) : World := (((w.alloc (.cells r.cells 184)).alloc (.cells k.cells 184)).alloc (.cells n.cells 184)).alloc (.cells zQ.cells 184)
theorem j1p (w : World) (r k n : Q) : NAt (H4 w r k n) w.heap.size r := NAt.below (z0d w _ _ rfl) ((((Below.refl (w.heap.size + 1) _).alloc (by simp) _).alloc (by simp) _).alloc (by simp) _) (by omega)
theorem j1m (w : World) (r k n : Q) : NAt (H4 w r k n) (w.heap.size + 1) k := NAt.below (z0d _ _ _ (by simp)) (((Below.refl (w.heap.size + 2) _).alloc (by simp) _).alloc (by simp) _) (by omega)
theorem j1n (w : World) (r k n : Q) : NAt (H4 w r k n) (w.heap.size + 1 + 1) n := NAt.below (z0d _ _ _ (by simp)) ((Below.refl (w.heap.size + 3) _).alloc (by simp) _) (by omega)
theorem j1o (w : World) (r k n : Q) : NAt (H4 w r k n) (w.heap.size + 1 + 1 + 1) zQ := z0d _ _ _ (by simp)
theorem j1l (w : World) (r k n : Q) : Below w.heap.size w (H4 w r k n) := ((((Below.refl _ _).alloc (Nat.le_refl _) _).alloc (by simp) _).alloc (by simp; omega) _).alloc (by simp; omega) _
theorem addN (r : Q) (m : Nat) (hr : r.num < LL) (hm : m < LL) : x5i r (nq m) = nq (r.num + m) := by
 have h1 := x0j r (nq m)
 rw [z3c (Nat.lt_trans hm (by decide))] at h1
 have h2 := z5r (x5i r (nq m))
 refine y2j ?_
 rw [q6y] at hr hm
 omega
set_option maxHeartbeats 1000000 in
theorem q0m (r k n : Q) (hr : r.num < LL) (w : World) : Calls Tryz.prog 121 #[.agg r.cells, .agg k.cells, .agg n.cells] w fun e w' => e = .returned (.agg (nq ((r.num + k.num * n.num) % LL)).cells) ∧ Below w.heap.size w w' := by
 obtain ⟨m, hm⟩ : ∃ m, m = k.num * n.num % LL := ⟨_, rfl⟩
 have hml : m < LL := by rw [hm]; exact Nat.mod_lt _ (by decide)
 have Hfin : Hid ((r.num + m) % LL = (r.num + k.num * n.num) % LL) := by
  show _ = _
  rw [hm, Nat.add_mod_mod]
 have Hred : Hid (∀ w, Calls Tryz.prog 167 #[.agg (Own.z0f 8 (dF (mi k n 4)))] w fun e w' => e = .returned (.agg (nq m).cells) ∧ Below w.heap.size w w') := by
  rw [hm, ← q9u]; exact x2b _
 obtain ⟨dc, hdc⟩ : ∃ dc, dc = Own.z0f 8 (dF (mi k n 4)) := ⟨_, rfl⟩
 have Hmul : Hid (∀ w, Calls Tryz.prog 201 #[.agg k.cells, .agg n.cells] w fun e w' => e = .returned (.agg dc) ∧ Below w.heap.size w w') := by rw [hdc]; exact k7h k n
 rw [← hdc] at Hred
 obtain ⟨cc, hcc⟩ : ∃ cc, cc = Value.int .u64 (un (bv (k4 r (nq m)))) := ⟨_, rfl⟩
 have Hadd : Hid (∀ w, Calls Tryz.prog 200 #[.agg r.cells, .agg (nq m).cells] w fun e w' => e = .returned (.tuple #[.agg (nq (r.num + m)).cells, cc]) ∧ Below w.heap.size w w') := by
  intro w
  rw [hcc, ← addN r m hr hml]
  exact q6q r (nq m) w
 obtain ⟨lc, hlc⟩ : ∃ lc, lc = (nq LL).cells := ⟨_, rfl⟩
 have Hord : Hid (∀ w, Calls Tryz.prog 107 #[] w fun e w' => e = .returned (.agg lc) ∧ Below w.heap.size w w') := by rw [hlc]; exact y1c
 have Hless : Hid (∀ w, Calls Tryz.prog 202 #[.agg (nq (r.num + m)).cells, .agg lc] w fun e w' => e = .returned (.agg (nq ((r.num + m) % LL)).cells) ∧ Below w.heap.size w w') := by
  intro w
  rw [hlc, ← k5f (r.num + m) (by omega)]
  exact x1i _ _ w
 rw [← Hfin.out]
 clear hlc hdc hm hml hr hcc Hfin
 have HA : Hid (NAt (H4 w r k n) w.heap.size r) := j1p w r k n
 have HK : Hid (NAt (H4 w r k n) (w.heap.size + 1) k) := j1m w r k n
 have HN : Hid (NAt (H4 w r k n) (w.heap.size + 1 + 1) n) := j1n w r k n
 have HO : Hid (NAt (H4 w r k n) (w.heap.size + 1 + 1 + 1) zQ) := j1o w r k n
 have HB : Hid (Below w.heap.size w (H4 w r k n)) := j1l w r k n
 go_enter Tryz.func121, Tryz.ntmps121
 go_wp2_with fail
 rename_i Kq hKq
 refine Qt.z9a 9 (by kernel_rfl) (by kernel_rfl) _ _ rfl rfl 184 rfl zQ.cells (by kernel_rfl) _ _ rfl (nq (r.num + m)).cells (by kernel_rfl) rfl (nq (r.num + m)).cells_one ?_
 refine y_n rfl _ rfl w.heap.size r rfl HA.out ?_
 refine y_n rfl _ rfl (w.heap.size + 1) k rfl HK.out ?_
 refine y_n rfl _ rfl (w.heap.size + 1 + 1) n rfl HN.out ?_
 simp only [zD]
 refine Qt.z0e rfl 201 #[.agg k.cells, .agg n.cells] (.agg dc) (fun _ => by kernel_rfl) (fun w' _ => Hmul.out w') ?_
 refine Qt.z0e rfl 167 #[.agg dc] (.agg (nq m).cells) (fun _ => by kernel_rfl) (fun w' _ => Hred.out w') ?_
 simp only [zD]
 refine Qt.z0e rfl 200 #[.agg r.cells, .agg (nq m).cells] (.tuple #[.agg (nq (r.num + m)).cells, cc]) (fun _ => by kernel_rfl) (fun w' _ => Hadd.out w') ?_
 simp only [zD]
 refine Qt.z0b rfl (.tuple #[.agg (nq (r.num + m)).cells, cc]) (fun _ _ => by kernel_rfl) ?_
 refine Qt.z0b rfl (.agg (nq (r.num + m)).cells) (fun _ _ => by kernel_rfl) ?_
 refine Qt.z0b rfl (cc) (fun _ _ => by kernel_rfl) ?_
 simp only [zD]
 refine Qt.z1a ?_
 refine ⟨fun _ => rfl, fun _ => rfl, ?_⟩
 intro bs w2 hle hW hb2
 have HX : Hid (Below (H4 w r k n).heap.size (H4 w r k n) w2) := hb2
 have HS2 : Hid (NAt w2 bs (nq (r.num + m))) := hW
 have HO2 : Hid (NAt w2 (w.heap.size + 1 + 1 + 1) zQ) := HO.out.below HX.out HO.out.lt
 have HB2 : Hid (Below w.heap.size w w2) := HB.out.trans (HX.out.mono HB.out.size)
 clear hle hW hb2 HX HA HK HN HO HB
 simp only [List.setIfInBounds_toArray, List.set_cons_zero, List.set_cons_succ]
 go_wp2_with fail
 refine Qt.z0q 3 (by kernel_rfl) (by kernel_rfl) ?_
 refine y_n rfl _ rfl bs (nq (r.num + m)) rfl HS2.out ?_
 refine Qt.z0e rfl 107 #[] (.agg lc) (fun _ => by kernel_rfl) (fun w' _ => Hord.out w') ?_
 refine Qt.z0e rfl 202 #[.agg (nq (r.num + m)).cells, .agg lc] (.agg (nq ((r.num + m) % LL)).cells) (fun _ => by kernel_rfl) (fun w' _ => Hless.out w') ?_
 simp only [zD]
 refine Qt.z1a ?_
 intro w3 hb3
 have HX : Hid (Below w2.heap.size w2 w3) := hb3
 have HO3 : Hid (NAt w3 (w.heap.size + 1 + 1 + 1) zQ) := HO2.out.below HX.out HO2.out.lt
 refine z2o rfl _ _ rfl (w.heap.size + 1 + 1 + 1) (nq ((r.num + m) % LL)) zQ rfl rfl HO3.out ?_
 simp only [Act.put]
 go_wp2_with fail
 exact y9j Tryz.results121 rfl (w.heap.size + 1 + 1 + 1) (nq ((r.num + m) % LL)) rfl (HO3.out.setRow _) ⟨rfl, z0r HB2.out HX.out _ (by omega) _⟩
theorem z7l (l : List UInt8) (s e : Nat) : (⟨l.toArray⟩ : ByteArray).extract s e = ⟨((l.drop s).take (e - s)).toArray⟩ := by
 apply ByteArray.ext
 rw [ByteArray.data_extract]
 simp
theorem k1v (l : List UInt8) (hl : l.length = 64) : (bq (l.take 32)).num + 115792089237316195423570985008687907853269984665640564039457584007913129639936 * (bq ((l.drop 32).take 32)).num = le l := by
 rw [z9d _ (by simp; omega), z9d _ (by simp; omega)]
 have h := y1a (l.take 32) (l.drop 32)
 rw [List.take_append_drop, show (l.take 32).length = 32 by simp; omega] at h
 rw [List.take_of_length_le (l := l.drop 32) (by simp; omega), h]
set_option maxHeartbeats 1000000 in
theorem z8q (l : List UInt8) (hl : l.length = 64) (w : World) : Calls Tryz.prog 108 #[.string ⟨l.toArray⟩] w fun e w' => e = .returned (.agg (nq (le l % LL)).cells) ∧ Below w.heap.size w w' := by
 have hli : (l.length : Int) = 64 := by omega
 go_enter Tryz.func108, Tryz.ntmps108
 go_wp2_with fail
 refine (z4e l (by omega) _).mono ?_
 rintro e w1 ⟨rfl, hb1⟩
 have HX1 : Hid (Below (w.alloc (.cells zQ.cells 184)).heap.size (w.alloc (.cells zQ.cells 184)) w1) := hb1
 have HO1 : Hid (NAt w1 w.heap.size zQ) := (z5j w).below HX1.out (z5j w).lt
 have HB1 : Hid (Below w.heap.size w w1) := ((Below.refl _ _).alloc (Nat.le_refl _) _).trans (HX1.out.mono (by simp))
 clear hb1 HX1
 go_wp2_with (refine Cw.z5m rfl rfl rfl rfl (bq (l.take 32)) (fun _ => rfl) (fun _ => rfl) ?_)
 intro w2 b1 hle hW hb2
 have HX2 : Hid (Below w1.heap.size w1 w2) := hb2
 have HN2 : Hid (NAt w2 b1 (bq (l.take 32))) := hW
 have HO2 : Hid (NAt w2 w.heap.size zQ) := HO1.out.below HX2.out HO1.out.lt
 have HB2 : Hid (Below w.heap.size w w2) := HB1.out.trans (HX2.out.mono HB1.out.size)
 clear hle hW hb2 HX2 HO1 HB1
 go_wp2_with fail
 rw [z7l, List.take_of_length_le (l := l.drop 32) (by simp; omega)]
 refine (z4e (l.drop 32) (by simp; omega) _).mono ?_
 rintro e w3 ⟨rfl, hb3⟩
 have HX3 : Hid (Below w2.heap.size w2 w3) := hb3
 have HN3 : Hid (NAt w3 b1 (bq (l.take 32))) := HN2.out.below HX3.out HN2.out.lt
 have HO3 : Hid (NAt w3 w.heap.size zQ) := HO2.out.below HX3.out HO2.out.lt
 have HB3 : Hid (Below w.heap.size w w3) := HB2.out.trans (HX3.out.mono HB2.out.size)
 clear hb3 HX3 HN2 HO2 HB2
 go_wp2_with (refine Cw.z5m rfl rfl rfl rfl (bq ((l.drop 32).take 32)) (fun _ => rfl) (fun _ => rfl) ?_)
 intro w4 b2 hle hW hb4
 have HX4 : Hid (Below w3.heap.size w3 w4) := hb4
 have HM4 : Hid (NAt w4 b2 (bq ((l.drop 32).take 32))) := hW
 have HN4 : Hid (NAt w4 b1 (bq (l.take 32))) := HN3.out.below HX4.out HN3.out.lt
 have HO4 : Hid (NAt w4 w.heap.size zQ) := HO3.out.below HX4.out HO3.out.lt
 have HB4 : Hid (Below w.heap.size w w4) := HB3.out.trans (HX4.out.mono HB3.out.size)
 have Hval : Hid (z4w BB (jW (bq (l.take 32)) (bq ((l.drop 32).take 32))) 8 = le l) := by
  show _ = _
  rw [k4y]; exact k1v l hl
 clear hle hW hb4 HX4 HN3 HO3 HB3
 obtain ⟨qa, hqa⟩ : ∃ q, q = bq (l.take 32) := ⟨_, rfl⟩
 obtain ⟨qb, hqb⟩ : ∃ q, q = bq ((l.drop 32).take 32) := ⟨_, rfl⟩
 rw [← hqa, ← hqb] at Hval
 rw [← hqa] at HN4
 rw [← hqb] at HM4
 clear hqa hqb
 go_wp2_with (first | refine z2d rfl _ rfl b1 qa rfl HN4.out ?_ | refine z2d rfl _ rfl b2 qb rfl HM4.out ?_)
 refine (k4z qa qb _).mono ?_
 rintro e w5 ⟨rfl, hb5⟩
 have HX5 : Hid (Below w4.heap.size w4 w5) := hb5
 clear hb5
 go_wp2_with fail
 refine (x2b (jW qa qb) _).mono ?_
 rintro e w6 ⟨rfl, hb6⟩
 rw [Hval.out]
 have HX6 : Hid (Below w4.heap.size w4 w6) := HX5.out.trans (hb6.mono HX5.out.size)
 have HO6 : Hid (NAt w6 w.heap.size zQ) := HO4.out.below HX6.out HO4.out.lt
 clear hb6 HX5
 go_wp2_with (refine z2o rfl _ _ rfl w.heap.size (nq (le l % LL)) zQ rfl rfl HO6.out ?_)
 exact y9j Tryz.results108 rfl w.heap.size (nq (le l % LL)) rfl (HO6.out.setRow _) ⟨rfl, z0r HB4.out HX6.out _ (Nat.le_refl _) _⟩
end Sw
open Go.RowKit
namespace Ed
def pS (p : Nat → Pt) (c : Nat → Nat) : Nat → Pt
 | 0 => zero
 | m + 1 => z2a (pS p c m) (z1x (p m) (c m))
theorem y4k {p : Nat → Pt} (hp : ∀ j, OnP (p j)) (c : Nat → Nat) (m : Nat) : OnP (pS p c m) := by
 induction m with
 | zero => exact x0g
 | succ m ih => exact z5o ih (z1i (hp m) _)
theorem j0f {a b c d : Pt} (ha : OnP a) (hb : OnP b) (hc : OnP c) (hd : OnP d) : z2a (z2a a b) (z2a c d) = z2a (z2a a c) (z2a b d) := by
 rw [z2b ha hb (z5o hc hd), ← z2b hb hc hd, z6h b c, z2b hc hb hd, ← z2b ha hc (z5o hb hd)]
theorem y6y {p : Nat → Pt} (hp : ∀ j, OnP (p j)) (a b : Nat → Nat) (m : Nat) : z2a (pS p a m) (pS p b m) = pS p (fun j => a j + b j) m := by
 induction m with
 | zero => exact z2w zero
 | succ m ih =>
  show z2a (z2a (pS p a m) (z1x (p m) (a m))) (z2a (pS p b m) (z1x (p m) (b m))) = z2a (pS p (fun j => a j + b j) m) (z1x (p m) (a m + b m))
  rw [j0f (y4k hp a m) (z1i (hp m) _) (y4k hp b m) (z1i (hp m) _), ih, z6x (hp m)]
theorem y4j {p : Nat → Pt} {a b : Nat → Nat} (h : ∀ j, a j = b j) (m : Nat) : pS p a m = pS p b m := by
 rw [show a = b from funext h]
end Ed
namespace Cw
open Fw Ww Bt Ed
theorem q7x {T : Nat → Q × E} {p : Nat → Pt} (hp : ∀ j, OnP (p j)) (hT : ∀ j, Rep (T j).2 (p j)) (i : Nat) {acc : E} {P0 : Pt} (h0 : OnP P0) (ha : Rep acc P0) (j : Nat) : Rep (ein T i acc j) (z2a P0 (pS p (fun k => (dgW (T k).1 i).toNat) j)) := by
 induction j with
 | zero => rw [show pS p _ 0 = zero from rfl, z2w]; exact ha
 | succ j ih =>
  have h1 := y3u (z5o h0 (y4k hp _ j)) (z1i (hp j) (dgW (T j).1 i).toNat) ih (q1n (hp j) (hT j) (dgW (T j).1 i).toNat)
  rw [z2b h0 (y4k hp _ j) (z1i (hp j) _)] at h1
  exact h1
theorem q1h {p : Nat → Pt} (hp : ∀ j, OnP (p j)) {e : E} {c : Nat → Nat} {m : Nat} (h : Rep e (pS p c m)) : Rep (y2f e) (pS p (fun j => 16 * c j) m) := by
 have d1 := z7y (y4k hp c m) h
 rw [y6y hp] at d1
 have d2 := z7y (y4k hp _ m) d1
 rw [y6y hp] at d2
 have d3 := z7y (y4k hp _ m) d2
 rw [y6y hp] at d3
 have d4 := z7y (y4k hp _ m) d3
 rw [y6y hp] at d4
 rw [y4j (b := fun j => 16 * c j) (fun j => by omega)] at d4
 exact d4
theorem k3m (x r b : Nat) (hb : b < 16) : (x + 18446744073709551616 * r) / 16 ^ b % 16 = x / 16 ^ b % 16 := by
 have h : (18446744073709551616 : Nat) = 16 * 16 ^ (15 - b) * 16 ^ b := by
  rw [Nat.mul_assoc, ← Nat.pow_add, show 15 - b + b = 15 by omega]
 have e : 18446744073709551616 * r = (16 * (16 ^ (15 - b) * r)) * 16 ^ b := by
  rw [h]
  generalize 16 ^ (15 - b) = u
  generalize 16 ^ b = v
  simp only [Nat.mul_assoc, Nat.mul_left_comm, Nat.mul_comm]
 rw [e, Nat.add_mul_div_right _ _ (Nat.pow_pos (by decide))]
 omega
theorem k3o (q : Q) (i : Nat) (hi : i < 64) : (dgW q i).toNat = q.num / 16 ^ i % 16 := by
 obtain ⟨r, hr⟩ := y7x q (i / 16) (by omega)
 have e : (16 : Nat) ^ i = 18446744073709551616 ^ (i / 16) * 16 ^ (i % 16) := by
  rw [show (18446744073709551616 : Nat) = 16 ^ 16 from by decide, ← Nat.pow_mul, ← Nat.pow_add]
  congr 1
  omega
 rw [e, ← Nat.div_div_eq_div_mul, hr, k3m _ _ _ (by omega)]
 unfold dgW
 rw [BitVec.toNat_and, BitVec.toNat_ushiftRight, Nat.shiftRight_eq_div_pow, show (16 : Nat) ^ (i % 16) = 2 ^ (4 * (i % 16)) by rw [Nat.pow_mul]]
 exact Nat.and_two_pow_sub_one_eq_mod _ 4
theorem q7u (N d : Nat) (hd : d < 64) : 16 * (N / 16 ^ (64 - d)) + N / 16 ^ (63 - d) % 16 = N / 16 ^ (64 - (d + 1)) := by
 have e : (16 : Nat) ^ (64 - d) = 16 ^ (63 - d) * 16 := by rw [← Nat.pow_succ]; congr 1; omega
 rw [e, ← Nat.div_div_eq_div_mul, show 64 - (d + 1) = 63 - d by omega]
 omega
theorem q1q {T : Nat → Q × E} {p : Nat → Pt} (hp : ∀ j, OnP (p j)) (hT : ∀ j, Rep (T j).2 (p j)) (m d : Nat) (hd : d ≤ 64) : Rep (y8q T m d) (pS p (fun j => (T j).1.num / 16 ^ (64 - d)) m) := by
 induction d with
 | zero =>
  have hz : ∀ j, (T j).1.num / 16 ^ 64 = 0 := fun j => Nat.div_eq_of_lt (Nat.lt_of_lt_of_le (z5r _) (by decide))
  have : ∀ m, pS p (fun j => (T j).1.num / 16 ^ (64 - 0)) m = zero := fun m => by
   induction m with
   | zero => rfl
   | succ m ih =>
    show z2a (pS p (fun j => (T j).1.num / 16 ^ (64 - 0)) m) (z1x (p m) ((T m).1.num / 16 ^ (64 - 0))) = zero
    rw [ih, show (T m).1.num / 16 ^ (64 - 0) = 0 from hz m]
    exact z2w zero
  rw [this]
  exact y0r
 | succ d ih =>
  have h1 := q7x hp hT (63 - d) (y4k hp _ m) (q1h hp (ih (by omega))) m
  rw [y6y hp] at h1
  rw [y4j (b := fun j => (T j).1.num / 16 ^ (64 - (d + 1))) (fun j => by
   show 16 * ((T j).1.num / 16 ^ (64 - d)) + (dgW (T j).1 (63 - d)).toNat = _
   rw [k3o _ _ (by omega), q7u _ _ (by omega)])] at h1
  exact h1
theorem x0u {T : Nat → Q × E} {p : Nat → Pt} (hp : ∀ j, OnP (p j)) (hT : ∀ j, Rep (T j).2 (p j)) (m : Nat) : Rep (y8q T m 64) (pS p (fun j => (T j).1.num) m) := by
 have h := q1q hp hT m 64 (Nat.le_refl _)
 rw [y4j (b := fun j => (T j).1.num) (fun j => by rw [Nat.sub_self, Nat.pow_zero, Nat.div_one])] at h
 exact h
def y3v (p : Pt) : List UInt8 := leB (enc p.1 p.2) 32
theorem y7k {e : E} {p : Pt} (h : Rep e p) : leB (enc (e.x * inv e.z) (e.y * inv e.z)) 32 = y3v p := by
 rw [k9w h, k9x h]; rfl
end Cw
open Go.RowKit
namespace Gw
open Fw Bt Ww Sw Cw Ed
theorem z6y (e : E) : ∃ v0 v1 v2 v3 v4 v5 v6 v7 v8 v9 v10 v11 v12 v13 v14 v15 : Value, pw e = #[v0, v1, v2, v3, v4, v5, v6, v7, v8, v9, v10, v11, v12, v13, v14, v15] := by
 obtain ⟨a0, a1, a2, a3, ha, _⟩ := z6c e.x
 obtain ⟨b0, b1, b2, b3, hb, _⟩ := z6c e.y
 obtain ⟨c0, c1, c2, c3, hc, _⟩ := z6c e.z
 obtain ⟨d0, d1, d2, d3, hd, _⟩ := z6c e.t
 refine ⟨a0, a1, a2, a3, b0, b1, b2, b3, c0, c1, c2, c3, d0, d1, d2, d3, ?_⟩
 rw [z8f, ha, hb, hc, hd]
 rfl
theorem q0y (q : Q) (e : E) : Tryz.prog.built 192 [(0, .agg q.cells), (1, .agg (pw e))] = some (tw (q, e)) := by
 unfold tw
 obtain ⟨v0, v1, v2, v3, v4, v5, v6, v7, v8, v9, v10, v11, v12, v13, v14, v15, h⟩ := z6y e
 simp only [h]
 kernel_rfl
theorem j0h {W : World} {K : Act → Prop} {l : List Oper} {o : Oper} {a : Act} (hg : o.guard = none) (parts : Array (Nat × Operand)) (ho : o.op = .build 192 parts) (q : Q) (e : E) (hf : (parts.map fun (i, x) => (i, a.eval x)).toList = [(0, .agg q.cells), (1, .agg (pw e))])
  (h : Qt.Lex Tryz.prog W K l (a.put o.dst (.agg (tw (q, e))))) : Qt.Lex Tryz.prog W K (o :: l) a := by
 refine Qt.z0b hg (.agg (tw (q, e))) (fun w' _ => ?_) h
 have hr := run_build (P := Tryz.prog) w' 192 (parts.map fun (i, x) => (i, a.eval x)) (tw (q, e)) (by rw [hf]; exact q0y q e)
 unfold execOp
 simp only [ho, Sem.run_bind, Sem.run_pure, Result.andThen_ok, hr]
theorem q9d {P : Program} {ops : Array Oper} {rest : List Oper} {o : Oper} {a : Act} {w : World} {Q : Exit → Act → World → Prop} (hg : o.guard = none) (t e : TypeId) (len : Nat) (parts : Array (Nat × Operand)) (ho : o.op = .buildSlice t len parts) (cells : Array Value) (z : Value) (sz by1 : Nat)
  (hu : P.underlying t = some (.slice e)) (h2 : (P.info? e).map (fun i => (i.zero, i.size, i.bytes)) = some (some z, sz, by1)) (hsmall : ¬ len * sz > 2 ^ 24) (hpos : ¬ len * sz = 0)
  (vs : List (Nat × Value)) (hv : (parts.map fun (i, x) => (i, a.eval x)).toList = vs) (hf : Instr.fill (fun i => some (i * sz, sz)) ((Array.range (len * sz)).map (z.cells[· % z.cells.size]!)) vs = some cells)
  (h : ∀ w2 b, w.heap.size ≤ b → w2.heap[b]? = some (.cells cells e (0, 0)) → Below w.heap.size w w2 → wpList P ops Q rest (a.put o.dst (.slice (some ⟨b, 0, none⟩) len len)) w2) : wpList P ops Q (o :: rest) a w := by
 obtain ⟨i, hi, hz0, hz1, hz2⟩ := info_parts h2
 subst hz1
 exact wpList_buildSlice hg t e len parts ho cells i z hu hi hz0 hsmall hpos (by rw [hv]; exact hf) (h _ _ (Nat.le_refl _) (heap_alloc_new _ _) ((Below.refl _ _).alloc (Nat.le_refl _) _))
theorem q1s (t : Q × E) : Instr.fill (fun i => some (i * 20, 20)) ((Array.range (1 * 20)).map ((Value.agg z3b).cells[· % (Value.agg z3b).cells.size]!)) [(0, .agg (tw t))] = some (tw t) := by
 unfold tw
 obtain ⟨v0, v1, v2, v3, v4, v5, v6, v7, v8, v9, v10, v11, v12, v13, v14, v15, h⟩ := z6y t.2
 simp only [h]
 kernel_rfl
theorem q1t (t u : Q × E) : Instr.fill (fun i => some (i * 20, 20)) ((Array.range (2 * 20)).map ((Value.agg z3b).cells[· % (Value.agg z3b).cells.size]!)) [(0, .agg (tw t)), (1, .agg (tw u))] = some (tw t ++ tw u) := by
 unfold tw
 obtain ⟨v0, v1, v2, v3, v4, v5, v6, v7, v8, v9, v10, v11, v12, v13, v14, v15, h⟩ := z6y t.2
 obtain ⟨u0, u1, u2, u3, u4, u5, u6, u7, u8, u9, u10, u11, u12, u13, u14, u15, h'⟩ := z6y u.2
 simp only [h, h']
 kernel_rfl
theorem range_one {w : World} {b : Nat} {t : Q × E} (h : w.heap[b]? = some (.cells (tw t) 192 (0, 0))) : ∀ j, j < 1 → w.rangeAt b (j * 20) (tw t).toList := fun j hj n v hv => by
 obtain rfl : j = 0 := by omega
 rw [cell_of_row w b _ _ _ _ h]
 simpa using hv
set_option maxHeartbeats 1000000 in
theorem x0b (n : Q) (w : World) : Calls Tryz.prog 120 #[.agg n.cells] w fun e w' => e = .returned (.string ⟨(y3v (z1x bP n.num)).toArray⟩) ∧ Below w.heap.size w w' := by
 obtain ⟨e, he⟩ : ∃ e, e = y8q (fun _ => (n, aff bX bY)) 1 64 := ⟨_, rfl⟩
 have Hsum : Hid (∀ tb w, tb < w.heap.size → (∀ j, j < 1 → w.rangeAt tb (j * 20) (tw (n, aff bX bY)).toList) → Calls Tryz.prog 110 #[.slice (some ⟨tb, 0, none⟩) 1 1] w fun e' w' => e' = .returned (.agg (pw e)) ∧ Below w.heap.size w w') := by
  intro tb w h1 h2
  rw [he]
  exact k6t tb 1 (by decide) (fun _ => (n, aff bX bY)) w h1 h2
 have Hb : Hid (leB (enc (e.x * inv e.z) (e.y * inv e.z)) 32 = y3v (z1x bP n.num)) := by
  have h := x0u (T := fun _ => (n, aff bX bY)) (p := fun _ => bP) (fun _ => z7b) (fun _ => z5y bX bY) 1
  rw [← he] at h
  have h2 : pS (fun _ => bP) (fun _ => n.num) 1 = z1x bP n.num := z6t _
  rw [show (fun j => ((fun _ => (n, aff bX bY)) j : Q × E).1.num) = fun _ => n.num from rfl, h2] at h
  exact y7k h
 have Hby : Hid (∀ w, Calls Tryz.prog 113 #[.agg (pw e)] w fun e' w' => e' = .returned (.string ⟨(y3v (z1x bP n.num)).toArray⟩) ∧ Below w.heap.size w w') := by
  intro w
  have h := y7c e w
  rw [Hb.out] at h
  exact h
 clear he Hb
 obtain ⟨ss, hss⟩ : ∃ ss, ss = (y3v (z1x bP n.num)).toArray := ⟨_, rfl⟩
 rw [← hss] at Hby ⊢
 clear hss
 have HN : Hid (NAt (w.alloc (.cells n.cells 184)) w.heap.size n) := z0d _ _ _ rfl
 have HB : Hid (Below w.heap.size w (w.alloc (.cells n.cells 184))) := (Below.refl _ _).alloc (Nat.le_refl _) _
 go_enter Tryz.func120, Tryz.ntmps120
 go_wp2_with fail
 refine Qt.z0q 3 (by kernel_rfl) (by kernel_rfl) ?_
 refine y_n rfl _ rfl w.heap.size n rfl HN.out ?_
 refine Qt.z0e rfl 111 #[] (.agg (pw (aff bX bY))) (fun _ => by kernel_rfl) (fun w' _ => q5j w') ?_
 simp only [zD]
 refine j0h rfl _ rfl n (aff bX bY) (by kernel_rfl) ?_
 simp only [zD]
 refine Qt.z1a ?_
 intro w1 hb1
 have HX1 : Hid (Below (w.alloc (.cells n.cells 184)).heap.size (w.alloc (.cells n.cells 184)) w1) := hb1
 have HB1 : Hid (Below w.heap.size w w1) := HB.out.trans (HX1.out.mono HB.out.size)
 clear hb1 HX1
 refine q9d rfl 274 192 1 _ rfl (tw (n, aff bX bY)) (.agg z3b) 20 160 Tryz.underlying274 (by kernel_rfl) (by decide) (by decide) [(0, .agg (tw (n, aff bX bY)))] (by kernel_rfl) (q1s _) ?_
 intro w2 b2 hle hW hb2
 have HX2 : Hid (Below w1.heap.size w1 w2) := hb2
 have HR2 : Hid (∀ j, j < 1 → w2.rangeAt b2 (j * 20) (tw (n, aff bX bY)).toList) := range_one hW
 have HL2 : Hid (b2 < w2.heap.size) := (aL hW)
 have HB2 : Hid (Below w.heap.size w w2) := HB1.out.trans (HX2.out.mono HB1.out.size)
 clear hle hW hb2 HX2 HB1
 simp only [zD]
 refine x1f rfl 110 #[.slice (some ⟨b2, 0, none⟩) 1 1] (.agg (pw e)) (fun _ => by kernel_rfl) (Hsum.out b2 w2 HL2.out HR2.out) ?_
 intro w3 hb3
 refine x1f rfl 113 #[.agg (pw e)] (.string ⟨ss⟩) (fun _ => by kernel_rfl) (Hby.out w3) ?_
 intro w4 hb4
 have HB4 : Hid (Below w.heap.size w w4) := (HB2.out.trans (hb3.mono HB2.out.size)).trans (hb4.mono (Nat.le_trans HB2.out.size hb3.size))
 clear hb3 hb4
 simp only [zD]
 go_wp2_with fail
 exact bodyPost_ret (v := .string ⟨ss⟩) (by simp [results, Tryz.results120, go_sem]) rfl ⟨rfl, HB4.out⟩
end Gw
end Go.Proofs.YtbojijefenfbgaaGreatDoor
namespace Go.Proofs.YtbojijefenfbgaaGreatDoor
namespace Sha
def y8a (x : BitVec 64) (n : Nat) : BitVec 64 := x >>> n ||| x <<< (64 - n)
def k9l (x : BitVec 64) : BitVec 64 := y8a x 1 ^^^ y8a x 8 ^^^ x >>> 7
def q8y (x : BitVec 64) : BitVec 64 := y8a x 19 ^^^ y8a x 61 ^^^ x >>> 6
def j2s (x : BitVec 64) : BitVec 64 := y8a x 14 ^^^ y8a x 18 ^^^ y8a x 41
def j2r (x : BitVec 64) : BitVec 64 := y8a x 28 ^^^ y8a x 34 ^^^ y8a x 39
def ch (e f g : BitVec 64) : BitVec 64 := (e &&& f) ^^^ (~~~ e &&& g)
def maj (a b c : BitVec 64) : BitVec 64 := (a &&& b) ^^^ (a &&& c) ^^^ (b &&& c)
def more (x : BitVec 64) (c : UInt8) : BitVec 64 := 256#64 * x + BitVec.ofNat 64 c.toNat
def z9p (l : List UInt8) : BitVec 64 := l.foldl more 0#64
def y3c (l : List UInt8) (p : Nat) : BitVec 64 := z9p ((l.drop p).take 8)
def byteOf (x : BitVec 64) (i : Nat) : UInt8 := UInt8.ofNat (x >>> (56 - 8 * i)).toNat
def bytesOf (x : BitVec 64) : List UInt8 := [byteOf x 0, byteOf x 1, byteOf x 2, byteOf x 3, byteOf x 4, byteOf x 5, byteOf x 6, byteOf x 7]
def x4g (b : Nat → BitVec 64) (l : List (BitVec 64)) (n : Nat) : BitVec 64 :=
 if n < 16 then b n else q8y (l.getD (n - 2) 0#64) + l.getD (n - 7) 0#64 + k9l (l.getD (n - 15) 0#64) + l.getD (n - 16) 0#64
def wl (b : Nat → BitVec 64) : Nat → List (BitVec 64)
 | 0 => []
 | n + 1 => wl b n ++ [x4g b (wl b n) n]
def W (b : Nat → BitVec 64) (n : Nat) : BitVec 64 := x4g b (wl b n) n
structure St where
 a : BitVec 64
 b : BitVec 64
 c : BitVec 64
 d : BitVec 64
 e : BitVec 64
 f : BitVec 64
 g : BitVec 64
 h : BitVec 64
def St.list (s : St) : List (BitVec 64) := [s.a, s.b, s.c, s.d, s.e, s.f, s.g, s.h]
def St.add (s t : St) : St := ⟨s.a + t.a, s.b + t.b, s.c + t.c, s.d + t.d, s.e + t.e, s.f + t.f, s.g + t.g, s.h + t.h⟩
def tOf (s : St) (k w : BitVec 64) : BitVec 64 := s.h + j2s s.e + ch s.e s.f s.g + k + w
def uOf (s : St) : BitVec 64 := j2r s.a + maj s.a s.b s.c
def round (s : St) (k w : BitVec 64) : St := ⟨tOf s k w + uOf s, s.a, s.b, s.c, s.d + tOf s k w, s.e, s.f, s.g⟩
def start : St := ⟨0x6a09e667f3bcc908#64, 0xbb67ae8584caa73b#64, 0x3c6ef372fe94f82b#64, 0xa54ff53a5f1d36f1#64, 0x510e527fade682d1#64, 0x9b05688c2b3e6c1f#64, 0x1f83d9abfb41bd6b#64, 0x5be0cd19137e2179#64⟩
def K : List (BitVec 64) := [
 0x428a2f98d728ae22#64, 0x7137449123ef65cd#64, 0xb5c0fbcfec4d3b2f#64, 0xe9b5dba58189dbbc#64,
 0x3956c25bf348b538#64, 0x59f111f1b605d019#64, 0x923f82a4af194f9b#64, 0xab1c5ed5da6d8118#64,
 0xd807aa98a3030242#64, 0x12835b0145706fbe#64, 0x243185be4ee4b28c#64, 0x550c7dc3d5ffb4e2#64,
 0x72be5d74f27b896f#64, 0x80deb1fe3b1696b1#64, 0x9bdc06a725c71235#64, 0xc19bf174cf692694#64,
 0xe49b69c19ef14ad2#64, 0xefbe4786384f25e3#64, 0x0fc19dc68b8cd5b5#64, 0x240ca1cc77ac9c65#64,
 0x2de92c6f592b0275#64, 0x4a7484aa6ea6e483#64, 0x5cb0a9dcbd41fbd4#64, 0x76f988da831153b5#64,
 0x983e5152ee66dfab#64, 0xa831c66d2db43210#64, 0xb00327c898fb213f#64, 0xbf597fc7beef0ee4#64,
 0xc6e00bf33da88fc2#64, 0xd5a79147930aa725#64, 0x06ca6351e003826f#64, 0x142929670a0e6e70#64,
 0x27b70a8546d22ffc#64, 0x2e1b21385c26c926#64, 0x4d2c6dfc5ac42aed#64, 0x53380d139d95b3df#64,
 0x650a73548baf63de#64, 0x766a0abb3c77b2a8#64, 0x81c2c92e47edaee6#64, 0x92722c851482353b#64,
 0xa2bfe8a14cf10364#64, 0xa81a664bbc423001#64, 0xc24b8b70d0f89791#64, 0xc76c51a30654be30#64,
 0xd192e819d6ef5218#64, 0xd69906245565a910#64, 0xf40e35855771202a#64, 0x106aa07032bbd1b8#64,
 0x19a4c116b8d2d0c8#64, 0x1e376c085141ab53#64, 0x2748774cdf8eeb99#64, 0x34b0bcb5e19b48a8#64,
 0x391c0cb3c5c95a63#64, 0x4ed8aa4ae3418acb#64, 0x5b9cca4f7763e373#64, 0x682e6ff3d6b2b8a3#64,
 0x748f82ee5defb2fc#64, 0x78a5636f43172f60#64, 0x84c87814a1f0ab72#64, 0x8cc702081a6439ec#64,
 0x90befffa23631e28#64, 0xa4506cebde82bde9#64, 0xbef9a3f7b2c67915#64, 0xc67178f2e372532b#64,
 0xca273eceea26619c#64, 0xd186b8c721c0c207#64, 0xeada7dd6cde0eb1e#64, 0xf57d4f7fee6ed178#64,
 0x06f067aa72176fba#64, 0x0a637dc5a2c898a6#64, 0x113f9804bef90dae#64, 0x1b710b35131c471b#64,
 0x28db77f523047d84#64, 0x32caab7b40c72493#64, 0x3c9ebe0a15c9bebc#64, 0x431d67c49c100d4c#64,
 0x4cc5d4becb3e42b6#64, 0x597f299cfc657e2a#64, 0x5fcb6fab3ad6faec#64, 0x6c44198c4a475817#64]
def kAt (n : Nat) : BitVec 64 := K.getD n 0#64
def rounds (b : Nat → BitVec 64) (s : St) : Nat → St
 | 0 => s
 | n + 1 => round (rounds b s n) (kAt n) (W b n)
def compress (s : St) (b : Nat → BitVec 64) : St := s.add (rounds b s 80)
def x5p (l : List UInt8) (n : Nat) : Nat → BitVec 64 := fun j => y3c l (128 * n + 8 * j)
def chain (l : List UInt8) : Nat → St
 | 0 => start
 | n + 1 => compress (chain l n) (x5p l n)
def out (s : St) : List UInt8 := bytesOf s.a ++ bytesOf s.b ++ bytesOf s.c ++ bytesOf s.d ++ bytesOf s.e ++ bytesOf s.f ++ bytesOf s.g ++ bytesOf s.h
def gap (n : Nat) : Nat := (128 - (n + 17) % 128) % 128 + 8
def y2w (l : List UInt8) : List UInt8 := l ++ [128] ++ List.replicate (gap l.length) 0 ++ bytesOf (BitVec.ofNat 64 (8 * l.length))
def sha (l : List UInt8) : List UInt8 := out (chain (y2w l) ((y2w l).length / 128))
theorem y1x (b : Nat → BitVec 64) (n : Nat) : (wl b n).length = n := by
 induction n with
 | zero => rfl
 | succ n ih => simp [wl, ih]
theorem x2x (b : Nat → BitVec 64) (n j : Nat) (h : j < n) : (wl b n).getD j 0#64 = W b j := by
 induction n with
 | zero => omega
 | succ n ih =>
  by_cases e : j < n
  ·rw [← ih e]
   simp only [wl, List.getD_eq_getElem?_getD]
   rw [List.getElem?_append_left (by rw [y1x]; exact e)]
  ·obtain rfl : j = n := by omega
   simp only [wl, List.getD_eq_getElem?_getD]
   rw [List.getElem?_append_right (by rw [y1x]; omega), y1x]
   simp [W]
theorem k8i (b : Nat → BitVec 64) (n : Nat) (h : n < 16) : W b n = b n := by simp [W, x4g, h]
theorem q5i (b : Nat → BitVec 64) (n : Nat) (h : 16 ≤ n) : W b n = q8y (W b (n - 2)) + W b (n - 7) + k9l (W b (n - 15)) + W b (n - 16) := by
 have : ¬ n < 16 := by omega
 simp only [W, x4g, this, if_false]
 rw [x2x b n _ (by omega), x2x b n _ (by omega), x2x b n _ (by omega), x2x b n _ (by omega)]
 rfl
theorem q0i : K.length = 80 := rfl
theorem z1r (x : BitVec 64) : (bytesOf x).length = 8 := rfl
theorem z8y (s : St) : (out s).length = 64 := by simp [out, z1r]
theorem x4s (l : List UInt8) : (sha l).length = 64 := z8y _
end Sha
end Go.Proofs.YtbojijefenfbgaaGreatDoor
