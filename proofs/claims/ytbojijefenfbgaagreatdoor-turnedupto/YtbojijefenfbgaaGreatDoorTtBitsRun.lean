/- math/bits' Add64, Sub64 (the model's own entries) and Mul64 (its Go text), over words of 64 bits. Walks of the program's field: settle, Add, Sub, Neg, addRow, Mul. Walks of the program's field: Add, Sub, Neg. Walks of the program's field: addRow, Mul. The arithmetic of the program's Mul: rows of words, what stands beyond bit 255 brought back 19 times. Plain number theory: primes, the little theorem of Fermat, a certificate of primality after Pocklington. It imports nothing of the program. -/
import Derived.Test.YtbojijefenfbgaaGreatDoorProg
import Derived.Test.YtbojijefenfbgaaGreatDoorTtOwn
import Derived.Laws.Externs
import Derived.Laws.MathBits
import Derived.Shelf.Spec.BitsCarry
import Derived.Shelf.Bits.Mul64
import Derived.KernelRfl
import Derived.BigQuiet
namespace Go.Proofs.YtbojijefenfbgaaGreatDoor
open Go.RowKit
namespace Bt
def bv (b : Bool) : BitVec 64 := if b then 1#64 else 0#64
theorem y3r (b : Bool) : (bv b).toNat = if b then 1 else 0 := by cases b <;> rfl
theorem z9r (b : Bool) : (bv b).toNat ≤ 1 := by cases b <;> decide
def carry (x y : BitVec 64) (b : Bool) : Bool := decide (18446744073709551616 ≤ x.toNat + y.toNat + (bv b).toNat)
def borrow (x y : BitVec 64) (b : Bool) : Bool := decide (x.toNat < y.toNat + (bv b).toNat)
theorem z0x (x y : BitVec 64) (b : Bool) : (x + y + bv b).toNat + 18446744073709551616 * (bv (carry x y b)).toNat = x.toNat + y.toNat + (bv b).toNat := by
 have h1 := x.isLt
 have h2 := y.isLt
 have h3 := z9r b
 rw [y3r (carry x y b), BitVec.toNat_add, BitVec.toNat_add]
 unfold carry
 by_cases h : 18446744073709551616 ≤ x.toNat + y.toNat + (bv b).toNat
 ·rw [decide_eq_true h]; simp only [if_true]; omega
 ·rw [decide_eq_false h]; simp only [Bool.false_eq_true, if_false]; omega
theorem z3e (x y : BitVec 64) (b : Bool) : (x - y - bv b).toNat + y.toNat + (bv b).toNat = x.toNat + 18446744073709551616 * (bv (borrow x y b)).toNat := by
 have h1 := x.isLt
 have h2 := y.isLt
 have h3 := z9r b
 rw [y3r (borrow x y b), BitVec.toNat_sub, BitVec.toNat_sub]
 unfold borrow
 by_cases h : x.toNat < y.toNat + (bv b).toNat
 ·rw [decide_eq_true h]; simp only [if_true]; omega
 ·rw [decide_eq_false h]; simp only [Bool.false_eq_true, if_false]; omega
theorem z2x (x y : BitVec 64) (b : Bool) (w : World) :
  Sem.run Tryz.prog (callFunc 243 #[.int .u64 (un x), .int .u64 (un y), .int .u64 (un (bv b))]) w =
   .ok (.value (.tuple #[.int .u64 (un (x + y + bv b)), .int .u64 (un (bv (carry x y b)))])) w := by
 have h1 := UV.k2a x
 have h2 := UV.k2a y
 have h3 := UV.k2a (bv b)
 have h4 : un (bv b) ≤ 1 := by unfold un; have := z9r b; omega
 rw [run_callFunc_extern Tryz.func243 (by kernel_rfl) (by kernel_rfl) (by kernel_rfl) (e := add64Entry) (by kernel_rfl), run_add64 _ _ _ h1 h2 h3 h4]
 have hv := z0x x y b
 have hlt := (x + y + bv b).isLt
 have hb := z9r (carry x y b)
 have e1 : (un x + un y + un (bv b)) % 18446744073709551616 = un (x + y + bv b) := by unfold un; omega
 have e2 : (un x + un y + un (bv b)) / 18446744073709551616 = un (bv (carry x y b)) := by unfold un; omega
 rw [e1, e2]
 rfl
theorem z3l (x y : BitVec 64) (b : Bool) (w : World) :
  Sem.run Tryz.prog (callFunc 235 #[.int .u64 (un x), .int .u64 (un y), .int .u64 (un (bv b))]) w =
   .ok (.value (.tuple #[.int .u64 (un (x - y - bv b)), .int .u64 (un (bv (borrow x y b)))])) w := by
 have hb1 := z9r b
 have hr := run_sub64 (P := Tryz.prog) x.toNat y.toNat (bv b).toNat hb1 w
 have e0 : (#[Value.int .u64 (un x), .int .u64 (un y), .int .u64 (un (bv b))] : Array Value) = #[.int .u64 ((x.toNat : Nat) : Int), .int .u64 ((y.toNat : Nat) : Int), .int .u64 (((bv b).toNat : Nat) : Int)] := rfl
 rw [run_callFunc_extern Tryz.func235 (by kernel_rfl) (by kernel_rfl) (by kernel_rfl) (e := sub64Entry) (by kernel_rfl), e0, hr]
 have hv := z3e x y b
 have hlt := (x - y - bv b).isLt
 have hx := x.isLt
 have hy := y.isLt
 have hb := z9r (borrow x y b)
 have e1 : (x.toNat + 18446744073709551616 - y.toNat - (bv b).toNat) % 18446744073709551616 = (x - y - bv b).toNat := by omega
 have e2 : (if x.toNat < y.toNat + (bv b).toNat then 1 else 0 : Nat) = (bv (borrow x y b)).toNat := by
  rw [y3r (borrow x y b)]
  unfold borrow
  by_cases h : x.toNat < y.toNat + (bv b).toNat
  ·rw [decide_eq_true h, if_pos h]; rfl
  ·rw [decide_eq_false h, if_neg h]; rfl
 rw [e1, e2]
 rfl
def z9u (x y : BitVec 64) : BitVec 64 := BitVec.ofNat 64 (x.toNat * y.toNat / 18446744073709551616)
theorem z8w (x y : BitVec 64) : (x * y).toNat + 18446744073709551616 * (z9u x y).toNat = x.toNat * y.toNat := by
 have h1 := x.isLt
 have h2 := y.isLt
 have hlt : x.toNat * y.toNat < 18446744073709551616 * 18446744073709551616 := Nat.mul_lt_mul'' h1 h2
 have hq : x.toNat * y.toNat / 18446744073709551616 < 18446744073709551616 := Nat.div_lt_of_lt_mul hlt
 unfold z9u
 rw [BitVec.toNat_mul, BitVec.toNat_ofNat, Nat.mod_eq_of_lt (show x.toNat * y.toNat / 18446744073709551616 < 2 ^ 64 from hq)]
 omega
set_option maxHeartbeats 1000000 in
theorem x7n (x y : Nat) (hx : x < 18446744073709551616) (hy : y < 18446744073709551616) (w : World) :
  Calls Tryz.prog 274 #[.int .u64 (x : Int), .int .u64 (y : Int)] w fun e w' => e = .returned (.tuple #[.int .u64 ((x * y / 18446744073709551616 : Nat) : Int), .int .u64 ((x * y % 18446744073709551616 : Nat) : Int)]) ∧ w' = w := by
 obtain ⟨d1, d2, d3, hhi⟩ := Lib.mul64_hi x y hx hy
 have g1 := Lib.half_mul_le (a := x / 4294967296) (b := y / 4294967296) (by omega) (by omega)
 have g2 := Lib.half_mul_le (a := x / 4294967296) (b := y % 4294967296) (by omega) (by omega)
 have g3 := Lib.half_mul_le (a := x % 4294967296) (b := y / 4294967296) (by omega) (by omega)
 have l1 : x / 4294967296 * (y / 4294967296) < 18446744073709551616 := by omega
 have l2 : x / 4294967296 * (y % 4294967296) < 18446744073709551616 := by omega
 have l3 : x % 4294967296 * (y / 4294967296) < 18446744073709551616 := by omega
 have l4 : x / 4294967296 * (y / 4294967296) + (x / 4294967296 * (y % 4294967296) + x % 4294967296 * (y % 4294967296) / 4294967296) / 4294967296 < 18446744073709551616 := by omega
 have l5 : x / 4294967296 * (y / 4294967296) + (x / 4294967296 * (y % 4294967296) + x % 4294967296 * (y % 4294967296) / 4294967296) / 4294967296 + ((x / 4294967296 * (y % 4294967296) + x % 4294967296 * (y % 4294967296) / 4294967296) % 4294967296 + x % 4294967296 * (y / 4294967296)) / 4294967296 < 18446744073709551616 := by omega
 go_enter Tryz.func274, Tryz.ntmps274
 go_wp2
 simp only [Mul64.maskN x hx, Mul64.maskN y hy, Mul64.divN, Mul64.mulN, Mul64.addN, Mul64.wrapN _ d1, Mul64.wrapN _ l2, Mul64.wrapN _ d2, Mul64.maskN _ d2, Mul64.wrapN _ l3, Mul64.wrapN _ d3, Mul64.wrapN _ l1, Mul64.wrapN _ l4, Mul64.wrapN _ l5, Mul64.wrapM (x * y)]
 rw [hhi]
 go_ret2
 exact ⟨rfl, rfl⟩
theorem y6r (x y : BitVec 64) (w : World) :
  Calls Tryz.prog 274 #[.int .u64 (un x), .int .u64 (un y)] w fun e w' => e = .returned (.tuple #[.int .u64 (un (z9u x y)), .int .u64 (un (x * y))]) ∧ w' = w := by
 have h := x7n x.toNat y.toNat x.isLt y.isLt w
 have hv := z8w x y
 have h1 := (x * y).isLt
 have e1 : x.toNat * y.toNat / 18446744073709551616 = (z9u x y).toNat := by omega
 have e2 : x.toNat * y.toNat % 18446744073709551616 = (x * y).toNat := by omega
 rw [e1, e2] at h
 exact h
end Bt
open Go.RowKit
namespace Fw
open Bt
theorem z2c (x y : BitVec 64) (w : World) : Sem.run Tryz.prog (callFunc 243 #[.int .u64 (un x), .int .u64 (un y), .int .u64 0]) w = .ok (.value (.tuple #[.int .u64 (un (x + y + bv false)), .int .u64 (un (bv (carry x y false)))])) w := z2x x y false w
theorem z3k (x : BitVec 64) (w : World) : Sem.run Tryz.prog (callFunc 243 #[.int .u64 (un x), .int .u64 19, .int .u64 0]) w = .ok (.value (.tuple #[.int .u64 (un (x + 19#64 + bv false)), .int .u64 (un (bv (carry x 19#64 false)))])) w := z2x x 19#64 false w
theorem z3j (x : BitVec 64) (b : Bool) (w : World) : Sem.run Tryz.prog (callFunc 243 #[.int .u64 (un x), .int .u64 0, .int .u64 (un (bv b))]) w = .ok (.value (.tuple #[.int .u64 (un (x + 0#64 + bv b)), .int .u64 (un (bv (carry x 0#64 b)))])) w := z2x x 0#64 b w
theorem z2y (x y : BitVec 64) (w : World) : Sem.run Tryz.prog (callFunc 235 #[.int .u64 (un x), .int .u64 (un y), .int .u64 0]) w = .ok (.value (.tuple #[.int .u64 (un (x - y - bv false)), .int .u64 (un (bv (borrow x y false)))])) w := z3l x y false w
theorem z3m (x : BitVec 64) (b : Bool) (w : World) : Sem.run Tryz.prog (callFunc 235 #[.int .u64 (un x), .int .u64 0, .int .u64 (un (bv b))]) w = .ok (.value (.tuple #[.int .u64 (un (x - 0#64 - bv b)), .int .u64 (un (bv (borrow x 0#64 b)))])) w := z3l x 0#64 b w
attribute [local go_sem] z2c z3k z3j z2y z3m
attribute [local go_sem] UV.z6q UV.z5u UV.z6r UV.z6s UV.z4x UV.y1w UV.z3z UV.z4m UV.z5v UV.z3n UV.z1c z2x z3l
structure Q where
 a0 : BitVec 64
 a1 : BitVec 64
 a2 : BitVec 64
 a3 : BitVec 64
def Q.cells (q : Q) : Array Value := #[.int .u64 (un q.a0), .int .u64 (un q.a1), .int .u64 (un q.a2), .int .u64 (un q.a3)]
def Q.num (q : Q) : Nat := q.a0.toNat + 18446744073709551616 * q.a1.toNat + 340282366920938463463374607431768211456 * q.a2.toNat + 6277101735386680763835789423207666416102355444464034512896 * q.a3.toNat
abbrev PP : Nat := 57896044618658097711785492504343953926634992332820282019728792003956564819949
theorem y3e : PP = 57896044618658097711785492504343953926634992332820282019728792003956564819949 := rfl
theorem Q.cells_one (q : Q) : q.cells.all (·.oneCell') = true := by simp [Q.cells, Value.oneCell']
def s1 (q : Q) : Bool := carry q.a0 19#64 false
def s2 (q : Q) : Bool := carry q.a1 0#64 (s1 q)
def s3 (q : Q) : Bool := carry q.a2 0#64 (s2 q)
theorem x4r (q : Q) (h : q.num < 2 * PP) (ht : un (q.a3 + bv (s3 q)) / 9223372036854775808 = 0) : q.num % PP = q.num := by
 have v0 := z0x q.a0 19#64 false
 have v1 := z0x q.a1 0#64 (s1 q)
 have v2 := z0x q.a2 0#64 (s2 q)
 have v3 := z0x q.a3 0#64 (s3 q)
 simp only [BitVec.add_zero] at v1 v2 v3
 have b3 := z9r (carry q.a3 0#64 (s3 q))
 have l0 := (q.a0 + 19#64 + bv false).isLt
 have l1 := (q.a1 + bv (s1 q)).isLt
 have l2 := (q.a2 + bv (s2 q)).isLt
 unfold un at ht
 rw [show carry q.a0 19#64 false = s1 q from rfl] at v0
 rw [show carry q.a1 0#64 (s1 q) = s2 q from rfl] at v1
 rw [show carry q.a2 0#64 (s2 q) = s3 q from rfl] at v2
 rw [show (19#64).toNat = 19 from rfl, show (bv false).toNat = 0 from rfl] at v0
 rw [show (0#64).toNat = 0 from rfl] at v1 v2 v3
 unfold Q.num at *
 generalize (q.a0 + 19#64 + bv false).toNat = t0 at *
 generalize (q.a1 + bv (s1 q)).toNat = t1 at *
 generalize (q.a2 + bv (s2 q)).toNat = t2 at *
 generalize (q.a3 + bv (s3 q)).toNat = t3 at *
 generalize (bv (s1 q)).toNat = c1 at *
 generalize (bv (s2 q)).toNat = c2 at *
 generalize (bv (s3 q)).toNat = c3 at *
 generalize (bv (carry q.a3 0#64 (s3 q))).toNat = c4 at *
 apply Nat.mod_eq_of_lt
 rw [y3e] at *
 omega
theorem y9p (q : Q) (h : q.num < 2 * PP) (ht : un (q.a3 + bv (s3 q)) / 9223372036854775808 ≠ 0) :
  (Q.mk (q.a0 + 19#64 + bv false) (q.a1 + bv (s1 q)) (q.a2 + bv (s2 q)) ((q.a3 + bv (s3 q)) &&& 9223372036854775807#64)).num = q.num % PP := by
 have v0 := z0x q.a0 19#64 false
 have v1 := z0x q.a1 0#64 (s1 q)
 have v2 := z0x q.a2 0#64 (s2 q)
 have v3 := z0x q.a3 0#64 (s3 q)
 simp only [BitVec.add_zero] at v1 v2 v3
 have b3 := z9r (carry q.a3 0#64 (s3 q))
 have l0 := (q.a0 + 19#64 + bv false).isLt
 have l1 := (q.a1 + bv (s1 q)).isLt
 have l2 := (q.a2 + bv (s2 q)).isLt
 have l3 := (q.a3 + bv (s3 q)).isLt
 have hm : ((q.a3 + bv (s3 q)) &&& 9223372036854775807#64).toNat = (q.a3 + bv (s3 q)).toNat % 9223372036854775808 := by
  rw [BitVec.toNat_and]
  exact Nat.and_two_pow_sub_one_eq_mod _ 63
 unfold un at ht
 rw [show carry q.a0 19#64 false = s1 q from rfl] at v0
 rw [show carry q.a1 0#64 (s1 q) = s2 q from rfl] at v1
 rw [show carry q.a2 0#64 (s2 q) = s3 q from rfl] at v2
 rw [show (19#64).toNat = 19 from rfl, show (bv false).toNat = 0 from rfl] at v0
 rw [show (0#64).toNat = 0 from rfl] at v1 v2 v3
 unfold Q.num at *
 simp only [hm]
 generalize (q.a0 + 19#64 + bv false).toNat = t0 at *
 generalize (q.a1 + bv (s1 q)).toNat = t1 at *
 generalize (q.a2 + bv (s2 q)).toNat = t2 at *
 generalize (q.a3 + bv (s3 q)).toNat = t3 at *
 generalize (bv (s1 q)).toNat = c1 at *
 generalize (bv (s2 q)).toNat = c2 at *
 generalize (bv (s3 q)).toNat = c3 at *
 generalize (bv (carry q.a3 0#64 (s3 q))).toNat = c4 at *
 generalize hN : q.a0.toNat + 18446744073709551616 * q.a1.toNat + 340282366920938463463374607431768211456 * q.a2.toNat + 6277101735386680763835789423207666416102355444464034512896 * q.a3.toNat = N at *
 have hmod : N % PP = N - PP := by
  rw [Nat.mod_eq_sub_mod (by rw [y3e] at *; omega)]
  exact Nat.mod_eq_of_lt (by rw [y3e] at *; omega)
 rw [hmod]
 rw [y3e] at *
 omega
theorem y3k (x : BitVec 64) : bits .and .u64 (un x) 9223372036854775807 = un (x &&& 9223372036854775807#64) := UV.z4x x 9223372036854775807#64
theorem q0e (x : BitVec 64) (h : (un x / 9223372036854775808 == 0) = true) : un x / 9223372036854775808 = 0 := by simpa using h
theorem x5a (x : BitVec 64) (h : (un x / 9223372036854775808 == 0) = false) : un x / 9223372036854775808 ≠ 0 := by simpa using h
set_option maxHeartbeats 400000 in
theorem y3a (q : Q) (h : q.num < 2 * PP) (w : World) :
  Calls Tryz.prog 244 #[.int .u64 (un q.a0), .int .u64 (un q.a1), .int .u64 (un q.a2), .int .u64 (un q.a3)] w fun e w' => ∃ r : Q, e = .returned (.agg r.cells) ∧ r.num = q.num % PP ∧ Below w.heap.size w w' := by
 have HH : Hid _ := h
 clear h
 cases ht : (un (q.a3 + bv (s3 q)) / 9223372036854775808 == 0) with
 | true =>
  have HT : Hid _ := q0e _ ht
  unfold s3 s2 s1 at ht
  go_enter Tryz.func244, Tryz.ntmps244
  go_wp2_with fail
  refine Own.z1g Tryz.results244 rfl w.heap.size 161 q.cells (0, 0) _ rfl (heap_alloc_new _ _) Tryz.underlying161 rfl (by kernel_rfl) ⟨q, rfl, (x4r q HH.out HT.out).symm, (Below.refl _ _).alloc (Nat.le_refl _) _⟩
 | false =>
  have HT : Hid _ := x5a _ ht
  have ha := y3k (q.a3 + bv (s3 q))
  unfold s3 s2 s1 at ht ha
  go_enter Tryz.func244, Tryz.ntmps244
  go_wp2_with fail
  refine Own.z1g Tryz.results244 rfl w.heap.size 161 (Q.mk (q.a0 + 19#64 + bv false) (q.a1 + bv (s1 q)) (q.a2 + bv (s2 q)) ((q.a3 + bv (s3 q)) &&& 9223372036854775807#64)).cells (0, 0) _ rfl (heap_alloc_new _ _) Tryz.underlying161 rfl (by kernel_rfl) ⟨_, rfl, y9p q HH.out HT.out, (Below.refl _ _).alloc (Nat.le_refl _) _⟩
end Fw
open Go.RowKit
namespace Fw
open Bt
attribute [local go_sem] z2c z3k z3j z2y z3m
attribute [local go_sem] UV.z6q UV.z5u UV.z6r UV.z6s UV.z4x UV.y1w UV.z3z UV.z4m UV.z5v UV.z3n UV.z1c z2x z3l
def z0l : Array Value := #[.int .u64 0, .int .u64 0, .int .u64 0, .int .u64 0]
theorem z0a (w : World) (g : Nat) (cs : Array Value) : Below g w (w.setRow g cs) :=
 ⟨rfl, rfl, rfl, by simp [World.setRow], fun k hk => by show (Array.modify _ _ _)[k]? = _; rw [Array.getElem?_modify, if_neg (by omega)]⟩
def k1 (a b : Q) : Bool := carry a.a0 b.a0 false
def k2 (a b : Q) : Bool := carry a.a1 b.a1 (k1 a b)
def k3 (a b : Q) : Bool := carry a.a2 b.a2 (k2 a b)
def x5i (a b : Q) : Q := ⟨a.a0 + b.a0 + bv false, a.a1 + b.a1 + bv (k1 a b), a.a2 + b.a2 + bv (k2 a b), a.a3 + b.a3 + bv (k3 a b)⟩
theorem q0n (a b : Q) (ha : a.num < PP) (hb : b.num < PP) : (x5i a b).num = a.num + b.num := by
 have v0 := z0x a.a0 b.a0 false
 have v1 := z0x a.a1 b.a1 (k1 a b)
 have v2 := z0x a.a2 b.a2 (k2 a b)
 have v3 := z0x a.a3 b.a3 (k3 a b)
 rw [show carry a.a0 b.a0 false = k1 a b from rfl, show (bv false).toNat = 0 from rfl] at v0
 rw [show carry a.a1 b.a1 (k1 a b) = k2 a b from rfl] at v1
 rw [show carry a.a2 b.a2 (k2 a b) = k3 a b from rfl] at v2
 unfold Q.num x5i at *
 simp only at *
 generalize (a.a0 + b.a0 + bv false).toNat = t0 at *
 generalize (a.a1 + b.a1 + bv (k1 a b)).toNat = t1 at *
 generalize (a.a2 + b.a2 + bv (k2 a b)).toNat = t2 at *
 generalize (a.a3 + b.a3 + bv (k3 a b)).toNat = t3 at *
 generalize (bv (k1 a b)).toNat = c1 at *
 generalize (bv (k2 a b)).toNat = c2 at *
 generalize (bv (k3 a b)).toNat = c3 at *
 generalize (bv (carry a.a3 b.a3 (k3 a b))).toNat = c4 at *
 rw [y3e] at *
 omega
set_option maxHeartbeats 400000 in
theorem q7b (a b : Q) (ha : a.num < PP) (hb : b.num < PP) (w : World) :
  Calls Tryz.prog 229 #[.agg a.cells, .agg b.cells] w fun e w' => ∃ r : Q, e = .returned (.agg r.cells) ∧ r.num = (a.num + b.num) % PP ∧ Below w.heap.size w w' := by
 have HN : Hid _ := q0n a b ha hb
 have HS : Hid ((x5i a b).num < 2 * PP) := by show _ < _; rw [HN.out]; omega
 clear ha hb
 unfold Q.cells
 go_enter Tryz.func229, Tryz.ntmps229
 go_wp2_with fail
 refine (y3a (x5i a b) HS.out _).mono ?_
 rintro e w1 ⟨r, rfl, hr, hb⟩
 have HR : Hid _ := hr
 have HB : Hid _ := hb
 clear hr hb
 have HG : Hid (w1.heap[w.heap.size + 1 + 1]? = some (.cells z0l 161 (0, 0))) := (HB.out.block _ (by simp)).trans (by
  have := heap_alloc_new ((w.alloc (.cells a.cells 161)).alloc (.cells b.cells 161)) (.cells z0l 161)
  simp only [World.size_alloc] at this
  exact this)
 go_wp2_with (refine wpList_store_row rfl 161 _ _ rfl (w.heap.size + 1 + 1) r.cells rfl rfl 161 z0l HG.out (by kernel_rfl) rfl r.cells_one ?_)
 refine Own.z1g Tryz.results229 rfl (w.heap.size + 1 + 1) 161 r.cells (0, 0) _ rfl (setRow_heap _ _ _ _ _ _ HG.out) Tryz.underlying161 rfl (by kernel_rfl) ⟨r, rfl, by rw [HR.out, HN.out], ?_⟩
 have h3 : Below w.heap.size w (((w.alloc (.cells a.cells 161)).alloc (.cells b.cells 161)).alloc (.cells z0l 161)) := (((Below.refl _ _).alloc (Nat.le_refl _) _).alloc (by simp) _).alloc (by simp; omega) _
 exact (h3.trans (HB.out.mono h3.size)).trans ((z0a _ _ _).mono (by omega))
def m1 (a b : Q) : Bool := borrow a.a0 b.a0 false
def m2 (a b : Q) : Bool := borrow a.a1 b.a1 (m1 a b)
def m3 (a b : Q) : Bool := borrow a.a2 b.a2 (m2 a b)
def m4 (a b : Q) : Bool := borrow a.a3 b.a3 (m3 a b)
def d0 (a b : Q) : BitVec 64 := a.a0 - b.a0 - bv false
def d1 (a b : Q) : BitVec 64 := a.a1 - b.a1 - bv (m1 a b)
def d2 (a b : Q) : BitVec 64 := a.a2 - b.a2 - bv (m2 a b)
def d3 (a b : Q) : BitVec 64 := a.a3 - b.a3 - bv (m3 a b)
def n1 (a b : Q) : Bool := borrow (d0 a b) (19#64 * bv (m4 a b)) false
def n2 (a b : Q) : Bool := borrow (d1 a b) 0#64 (n1 a b)
def n3 (a b : Q) : Bool := borrow (d2 a b) 0#64 (n2 a b)
def k6r (a b : Q) : Q := ⟨d0 a b - 19#64 * bv (m4 a b) - bv false, d1 a b - bv (n1 a b), d2 a b - bv (n2 a b), (d3 a b - bv (n3 a b)) &&& 9223372036854775807#64⟩
theorem k9o (b : Bool) : (19#64 * bv b).toNat = 19 * (bv b).toNat := by cases b <;> rfl
theorem y1t (t0 t1 t2 t3 b0 b1 b2 b3 a0 a1 a2 a3 c0 c1 c2 c3 c4 : Nat) (v0 : t0 + b0 + c0 = a0 + 18446744073709551616 * c1) (v1 : t1 + b1 + c1 = a1 + 18446744073709551616 * c2) (v2 : t2 + b2 + c2 = a2 + 18446744073709551616 * c3) (v3 : t3 + b3 + c3 = a3 + 18446744073709551616 * c4) :
  (t0 + 18446744073709551616 * t1 + 340282366920938463463374607431768211456 * t2 + 6277101735386680763835789423207666416102355444464034512896 * t3) + (b0 + 18446744073709551616 * b1 + 340282366920938463463374607431768211456 * b2 + 6277101735386680763835789423207666416102355444464034512896 * b3) + c0
  = (a0 + 18446744073709551616 * a1 + 340282366920938463463374607431768211456 * a2 + 6277101735386680763835789423207666416102355444464034512896 * a3) + 115792089237316195423570985008687907853269984665640564039457584007913129639936 * c4 := by omega
theorem k1s (A B T E e3 c4 f4 low : Nat) (hA : A < PP) (hB : B < PP) (hT : T + B + 0 = A + 115792089237316195423570985008687907853269984665640564039457584007913129639936 * c4) (hT2 : T < 115792089237316195423570985008687907853269984665640564039457584007913129639936) (hc : c4 ≤ 1)
  (hE : E + 19 * c4 + 0 = T + 115792089237316195423570985008687907853269984665640564039457584007913129639936 * f4) (hE2 : E = low + 6277101735386680763835789423207666416102355444464034512896 * e3) (hl : low < 6277101735386680763835789423207666416102355444464034512896) (he : e3 < 18446744073709551616) :
  low + 6277101735386680763835789423207666416102355444464034512896 * (e3 % 9223372036854775808) = (A + PP - B) % PP := by
 rcases Nat.lt_or_ge A B with hlt | hge
 ·have hmod : (A + PP - B) % PP = A + PP - B := Nat.mod_eq_of_lt (by omega)
  rw [hmod]
  rw [y3e] at *
  have h1 : c4 = 1 := by omega
  subst h1
  have hf : f4 = 0 := by omega
  subst hf
  omega
 ·have hmod : (A + PP - B) % PP = A - B := by
   rw [show A + PP - B = (A - B) + PP by omega, Nat.add_mod_right]
   exact Nat.mod_eq_of_lt (by omega)
  rw [hmod]
  rw [y3e] at *
  have h1 : c4 = 0 := by omega
  subst h1
  have hf : f4 = 0 := by omega
  subst hf
  omega
theorem q4s (a b : Q) (ha : a.num < PP) (hb : b.num < PP) : (k6r a b).num = (a.num + PP - b.num) % PP := by
 have v0 : (d0 a b).toNat + b.a0.toNat + 0 = a.a0.toNat + 18446744073709551616 * (bv (m1 a b)).toNat := z3e a.a0 b.a0 false
 have v1 : (d1 a b).toNat + b.a1.toNat + (bv (m1 a b)).toNat = a.a1.toNat + 18446744073709551616 * (bv (m2 a b)).toNat := z3e a.a1 b.a1 (m1 a b)
 have v2 : (d2 a b).toNat + b.a2.toNat + (bv (m2 a b)).toNat = a.a2.toNat + 18446744073709551616 * (bv (m3 a b)).toNat := z3e a.a2 b.a2 (m2 a b)
 have v3 : (d3 a b).toNat + b.a3.toNat + (bv (m3 a b)).toNat = a.a3.toNat + 18446744073709551616 * (bv (m4 a b)).toNat := z3e a.a3 b.a3 (m3 a b)
 have w0 : (d0 a b - 19#64 * bv (m4 a b) - bv false).toNat + (19#64 * bv (m4 a b)).toNat + 0 = (d0 a b).toNat + 18446744073709551616 * (bv (n1 a b)).toNat := z3e (d0 a b) _ false
 have w1 := z3e (d1 a b) 0#64 (n1 a b)
 have w2 := z3e (d2 a b) 0#64 (n2 a b)
 have w3 := z3e (d3 a b) 0#64 (n3 a b)
 rw [k9o] at w0
 simp only [BitVec.sub_zero] at w1 w2 w3
 rw [show borrow (d1 a b) 0#64 (n1 a b) = n2 a b from rfl, show (0#64).toNat = 0 from rfl] at w1
 rw [show borrow (d2 a b) 0#64 (n2 a b) = n3 a b from rfl, show (0#64).toNat = 0 from rfl] at w2
 rw [show (0#64).toNat = 0 from rfl] at w3
 have hm : ((d3 a b - bv (n3 a b)) &&& 9223372036854775807#64).toNat = (d3 a b - bv (n3 a b)).toNat % 9223372036854775808 := by
  rw [BitVec.toNat_and]
  exact Nat.and_two_pow_sub_one_eq_mod _ 63
 have b4 := z9r (m4 a b)
 have hT := y1t _ _ _ _ _ _ _ _ _ _ _ _ _ _ _ _ _ v0 v1 v2 v3
 have hE := y1t _ _ _ _ _ _ _ _ _ _ _ _ _ _ _ _ _ w0 w1 w2 w3
 have l0 := (d0 a b).isLt
 have l1 := (d1 a b).isLt
 have l2 := (d2 a b).isLt
 have l3 := (d3 a b).isLt
 have g0 := (d0 a b - 19#64 * bv (m4 a b) - bv false).isLt
 have g1 := (d1 a b - bv (n1 a b)).isLt
 have g2 := (d2 a b - bv (n2 a b)).isLt
 have g3 := (d3 a b - bv (n3 a b)).isLt
 clear v0 v1 v2 v3 w0 w1 w2 w3
 unfold k6r
 show _ + _ + _ + _ * ((d3 a b - bv (n3 a b)) &&& 9223372036854775807#64).toNat = _
 rw [hm]
 refine k1s a.num b.num _ _ (d3 a b - bv (n3 a b)).toNat _ _ _ ha hb hT ?_ b4 (by simpa using hE) rfl ?_ g3
 ·clear hT hE hm ha hb
  omega
 ·clear hT hE hm ha hb
  omega
theorem x0c (x : BitVec 64) : IntKind.u64.wrap (19 * un x) = un (19#64 * x) := UV.z5u 19#64 x
attribute [local go_sem] x0c
set_option maxHeartbeats 400000 in
theorem k1r (a b : Q) (ha : a.num < PP) (hb : b.num < PP) (w : World) :
  Calls Tryz.prog 226 #[.agg a.cells, .agg b.cells] w fun e w' => ∃ r : Q, e = .returned (.agg r.cells) ∧ r.num = (a.num + PP - b.num) % PP ∧ Below w.heap.size w w' := by
 have HN : Hid _ := q4s a b ha hb
 have hand := y3k (d3 a b - bv (n3 a b))
 unfold d3 n3 n2 n1 d2 d1 d0 m4 m3 m2 m1 at hand
 clear ha hb
 unfold Q.cells
 go_enter Tryz.func226, Tryz.ntmps226
 go_wp2_with fail
 refine Own.z1g Tryz.results226 rfl (w.heap.size + 1 + 1) 161 (k6r a b).cells (0, 0) _ rfl (by
  have := heap_alloc_new ((w.alloc (.cells a.cells 161)).alloc (.cells b.cells 161)) (.cells (k6r a b).cells 161)
  simp only [World.size_alloc] at this
  exact this) Tryz.underlying161 rfl (by kernel_rfl) ⟨k6r a b, rfl, HN.out, ?_⟩
 exact (((Below.refl _ _).alloc (Nat.le_refl _) _).alloc (by simp) _).alloc (by simp; omega) _
end Fw
open Go.RowKit
namespace Fw
open Bt
attribute [local go_sem] z2c z3k z3j z2y z3m
attribute [local go_sem] UV.z6q UV.z5u UV.z6r UV.z6s UV.z4x UV.y1w UV.z3z UV.z4m UV.z5v UV.z3n UV.z1c z2x z3l x0c
def g1 (p a : Q) (n : BitVec 64) : Bool := carry p.a0 (a.a0 * n) false
def g2 (p a : Q) (n : BitVec 64) : Bool := carry p.a1 (a.a1 * n) (g1 p a n)
def g3 (p a : Q) (n : BitVec 64) : Bool := carry p.a2 (a.a2 * n) (g2 p a n)
def g4 (p a : Q) (n : BitVec 64) : Bool := carry p.a3 (a.a3 * n) (g3 p a n)
def u1 (p a : Q) (n : BitVec 64) : BitVec 64 := p.a1 + a.a1 * n + bv (g1 p a n)
def u2 (p a : Q) (n : BitVec 64) : BitVec 64 := p.a2 + a.a2 * n + bv (g2 p a n)
def u3 (p a : Q) (n : BitVec 64) : BitVec 64 := p.a3 + a.a3 * n + bv (g3 p a n)
def h1 (p a : Q) (n : BitVec 64) : Bool := carry (u1 p a n) (z9u a.a0 n) false
def h2 (p a : Q) (n : BitVec 64) : Bool := carry (u2 p a n) (z9u a.a1 n) (h1 p a n)
def h3 (p a : Q) (n : BitVec 64) : Bool := carry (u3 p a n) (z9u a.a2 n) (h2 p a n)
def r0 (p a : Q) (n : BitVec 64) : BitVec 64 := p.a0 + a.a0 * n + bv false
def r1 (p a : Q) (n : BitVec 64) : BitVec 64 := u1 p a n + z9u a.a0 n + bv false
def r2 (p a : Q) (n : BitVec 64) : BitVec 64 := u2 p a n + z9u a.a1 n + bv (h1 p a n)
def r3 (p a : Q) (n : BitVec 64) : BitVec 64 := u3 p a n + z9u a.a2 n + bv (h2 p a n)
def r4 (p a : Q) (n : BitVec 64) : BitVec 64 := z9u a.a3 n + bv (g4 p a n) + bv (h3 p a n)
set_option maxHeartbeats 400000 in
theorem z5c (p a : Q) (n : BitVec 64) (w : World) :
  Calls Tryz.prog 242 #[.int .u64 (un p.a0), .int .u64 (un p.a1), .int .u64 (un p.a2), .int .u64 (un p.a3), .int .u64 (un a.a0), .int .u64 (un a.a1), .int .u64 (un a.a2), .int .u64 (un a.a3), .int .u64 (un n)] w
   fun e w' => e = .returned (.tuple #[.int .u64 (un (r0 p a n)), .int .u64 (un (r1 p a n)), .int .u64 (un (r2 p a n)), .int .u64 (un (r3 p a n)), .int .u64 (un (r4 p a n))]) ∧ w' = w := by
 go_enter Tryz.func242, Tryz.ntmps242
 go_wp2_with (go_at_call 274; refine (y6r _ _ _).mono ?_; rintro e w' ⟨rfl, rfl⟩)
 refine bodyPost_ret (v := .tuple #[.int .u64 (un (r0 p a n)), .int .u64 (un (r1 p a n)), .int .u64 (un (r2 p a n)), .int .u64 (un (r3 p a n)), .int .u64 (un (r4 p a n))]) (by simp [results, Tryz.results242, go_sem, r0, r1, r2, r3, r4, u1, u2, u3, g1, g2, g3, g4, h1, h2, h3]) rfl ⟨rfl, rfl⟩
theorem y5r (t0 t1 t2 t3 b0 b1 b2 b3 a0 a1 a2 a3 c0 c1 c2 c3 c4 : Nat) (v0 : t0 + 18446744073709551616 * c1 = a0 + b0 + c0) (v1 : t1 + 18446744073709551616 * c2 = a1 + b1 + c1) (v2 : t2 + 18446744073709551616 * c3 = a2 + b2 + c2) (v3 : t3 + 18446744073709551616 * c4 = a3 + b3 + c3) :
  (t0 + 18446744073709551616 * t1 + 340282366920938463463374607431768211456 * t2 + 6277101735386680763835789423207666416102355444464034512896 * t3) + 115792089237316195423570985008687907853269984665640564039457584007913129639936 * c4 = (a0 + 18446744073709551616 * a1 + 340282366920938463463374607431768211456 * a2 + 6277101735386680763835789423207666416102355444464034512896 * a3) + (b0 + 18446744073709551616 * b1 + 340282366920938463463374607431768211456 * b2 + 6277101735386680763835789423207666416102355444464034512896 * b3) + c0 := by omega
theorem x3c (t1 t2 t3 b1 b2 b3 a1 a2 a3 c0 c1 c2 c3 : Nat) (v1 : t1 + 18446744073709551616 * c1 = a1 + b1 + c0) (v2 : t2 + 18446744073709551616 * c2 = a2 + b2 + c1) (v3 : t3 + 18446744073709551616 * c3 = a3 + b3 + c2) :
  (18446744073709551616 * t1 + 340282366920938463463374607431768211456 * t2 + 6277101735386680763835789423207666416102355444464034512896 * t3) + 115792089237316195423570985008687907853269984665640564039457584007913129639936 * c3 = (18446744073709551616 * a1 + 340282366920938463463374607431768211456 * a2 + 6277101735386680763835789423207666416102355444464034512896 * a3) + (18446744073709551616 * b1 + 340282366920938463463374607431768211456 * b2 + 6277101735386680763835789423207666416102355444464034512896 * b3) + 18446744073709551616 * c0 := by omega
theorem num_mul (a : Q) (n : Nat) : a.num * n = a.a0.toNat * n + 18446744073709551616 * (a.a1.toNat * n) + 340282366920938463463374607431768211456 * (a.a2.toNat * n) + 6277101735386680763835789423207666416102355444464034512896 * (a.a3.toNat * n) := by
 unfold Q.num
 rw [Nat.add_mul, Nat.add_mul, Nat.add_mul, Nat.mul_assoc, Nat.mul_assoc, Nat.mul_assoc]
theorem z5r (a : Q) : a.num < 115792089237316195423570985008687907853269984665640564039457584007913129639936 := by
 have h0 := a.a0.isLt
 have h1 := a.a1.isLt
 have h2 := a.a2.isLt
 have h3 := a.a3.isLt
 unfold Q.num
 omega
def k2m (p a : Q) (n : BitVec 64) : Nat := (r0 p a n).toNat + 18446744073709551616 * (r1 p a n).toNat + 340282366920938463463374607431768211456 * (r2 p a n).toNat + 6277101735386680763835789423207666416102355444464034512896 * (r3 p a n).toNat + 115792089237316195423570985008687907853269984665640564039457584007913129639936 * (r4 p a n).toNat
theorem k1h (R U L H N T p an c4 d3 h3 r4 R3 : Nat) (e1 : U + 115792089237316195423570985008687907853269984665640564039457584007913129639936 * c4 = p + L + 0) (e2 : R3 + 115792089237316195423570985008687907853269984665640564039457584007913129639936 * d3 = T + H + 0) (e3 : L + H + 115792089237316195423570985008687907853269984665640564039457584007913129639936 * h3 = an) (e4 : U = N + T) (hR : R = N + R3) (hb : p + an < 115792089237316195423570985008687907853269984665640564039457584007913129639936 * 18446744073709551616) (hr : r4 = (h3 + c4 + d3) % 18446744073709551616) :
  R + 115792089237316195423570985008687907853269984665640564039457584007913129639936 * r4 = p + an := by
 have hs : R + 115792089237316195423570985008687907853269984665640564039457584007913129639936 * (h3 + c4 + d3) = p + an := by omega
 have hlt : h3 + c4 + d3 < 18446744073709551616 := by omega
 rw [hr, Nat.mod_eq_of_lt hlt]
 exact hs
theorem y4q (p a : Q) (n : BitVec 64) : k2m p a n = p.num + a.num * n.toNat := by
 have v0 : (r0 p a n).toNat + 18446744073709551616 * (bv (g1 p a n)).toNat = p.a0.toNat + (a.a0 * n).toNat + 0 := z0x p.a0 (a.a0 * n) false
 have v1 : (u1 p a n).toNat + 18446744073709551616 * (bv (g2 p a n)).toNat = p.a1.toNat + (a.a1 * n).toNat + (bv (g1 p a n)).toNat := z0x p.a1 (a.a1 * n) (g1 p a n)
 have v2 : (u2 p a n).toNat + 18446744073709551616 * (bv (g3 p a n)).toNat = p.a2.toNat + (a.a2 * n).toNat + (bv (g2 p a n)).toNat := z0x p.a2 (a.a2 * n) (g2 p a n)
 have v3 : (u3 p a n).toNat + 18446744073709551616 * (bv (g4 p a n)).toNat = p.a3.toNat + (a.a3 * n).toNat + (bv (g3 p a n)).toNat := z0x p.a3 (a.a3 * n) (g3 p a n)
 have w1 : (r1 p a n).toNat + 18446744073709551616 * (bv (h1 p a n)).toNat = (u1 p a n).toNat + (z9u a.a0 n).toNat + 0 := z0x (u1 p a n) (z9u a.a0 n) false
 have w2 : (r2 p a n).toNat + 18446744073709551616 * (bv (h2 p a n)).toNat = (u2 p a n).toNat + (z9u a.a1 n).toNat + (bv (h1 p a n)).toNat := z0x (u2 p a n) (z9u a.a1 n) (h1 p a n)
 have w3 : (r3 p a n).toNat + 18446744073709551616 * (bv (h3 p a n)).toNat = (u3 p a n).toNat + (z9u a.a2 n).toNat + (bv (h2 p a n)).toNat := z0x (u3 p a n) (z9u a.a2 n) (h2 p a n)
 have x0 := z8w a.a0 n
 have x1 := z8w a.a1 n
 have x2 := z8w a.a2 n
 have x3 := z8w a.a3 n
 have e1 := y5r _ _ _ _ _ _ _ _ _ _ _ _ _ _ _ _ _ v0 v1 v2 v3
 have e2 := x3c _ _ _ _ _ _ _ _ _ _ _ _ _ w1 w2 w3
 have hr4 : (r4 p a n).toNat = ((z9u a.a3 n).toNat + (bv (g4 p a n)).toNat + (bv (h3 p a n)).toNat) % 18446744073709551616 := by
  unfold r4
  rw [BitVec.toNat_add, BitVec.toNat_add]
  omega
 have hb : p.num + a.num * n.toNat < 115792089237316195423570985008687907853269984665640564039457584007913129639936 * 18446744073709551616 := by
  have hp := z5r p
  have ha := z5r a
  have hn := n.isLt
  have hm : a.num * n.toNat ≤ (115792089237316195423570985008687907853269984665640564039457584007913129639936 - 1) * (18446744073709551616 - 1) := Nat.mul_le_mul (by omega) (by omega)
  omega
 clear v0 v1 v2 v3 w1 w2 w3
 unfold k2m
 refine k1h ((r0 p a n).toNat + 18446744073709551616 * (r1 p a n).toNat + 340282366920938463463374607431768211456 * (r2 p a n).toNat + 6277101735386680763835789423207666416102355444464034512896 * (r3 p a n).toNat) _ _ (18446744073709551616 * (z9u a.a0 n).toNat + 340282366920938463463374607431768211456 * (z9u a.a1 n).toNat + 6277101735386680763835789423207666416102355444464034512896 * (z9u a.a2 n).toNat) (r0 p a n).toNat (18446744073709551616 * (u1 p a n).toNat + 340282366920938463463374607431768211456 * (u2 p a n).toNat + 6277101735386680763835789423207666416102355444464034512896 * (u3 p a n).toNat) p.num (a.num * n.toNat) _ _ (z9u a.a3 n).toNat _ (18446744073709551616 * (r1 p a n).toNat + 340282366920938463463374607431768211456 * (r2 p a n).toNat + 6277101735386680763835789423207666416102355444464034512896 * (r3 p a n).toNat) e1 (by simpa using e2) ?_ (by omega) (by omega) hb hr4
 clear e1 e2 hr4 hb
 rw [num_mul, ← x0, ← x1, ← x2, ← x3]
 omega
end Fw
open Go.RowKit
namespace Fw
open Bt
def hiQ (p a : Q) (n : BitVec 64) : Q := ⟨r1 p a n, r2 p a n, r3 p a n, r4 p a n⟩
def loQ (p a : Q) (n : BitVec 64) : Q := ⟨r0 p a n, r1 p a n, r2 p a n, r3 p a n⟩
def zQ : Q := ⟨0#64, 0#64, 0#64, 0#64⟩
theorem k7n : zQ.num = 0 := rfl
theorem k1f (p a : Q) (n : BitVec 64) : k2m p a n = (r0 p a n).toNat + 18446744073709551616 * (hiQ p a n).num := by
 unfold k2m Q.num hiQ
 simp only
 omega
theorem k1g (p a : Q) (n : BitVec 64) : k2m p a n = (loQ p a n).num + 115792089237316195423570985008687907853269984665640564039457584007913129639936 * (r4 p a n).toNat := by
 unfold k2m Q.num loQ
 simp only
theorem x1a (p a : Q) (n : BitVec 64) : (r0 p a n).toNat + 18446744073709551616 * (hiQ p a n).num = p.num + a.num * n.toNat := by
 rw [← k1f, y4q]
theorem k5g (p a : Q) (n : BitVec 64) : (loQ p a n).num + 115792089237316195423570985008687907853269984665640564039457584007913129639936 * (r4 p a n).toNat = p.num + a.num * n.toNat := by
 rw [← k1g, y4q]
def q1 (a b : Q) : Q := hiQ zQ a b.a0
def q2 (a b : Q) : Q := hiQ (q1 a b) a b.a1
def q3 (a b : Q) : Q := hiQ (q2 a b) a b.a2
def q4 (a b : Q) : Q := hiQ (q3 a b) a b.a3
def lw (a b : Q) : Q := ⟨r0 zQ a b.a0, r0 (q1 a b) a b.a1, r0 (q2 a b) a b.a2, r0 (q3 a b) a b.a3⟩
theorem four (A n0 n1 n2 n3 l0 l1 l2 l3 h1 h2 h3 h4 m0 m1 m2 m3 : Nat) (e0 : m0 = A * n0) (e1 : m1 = A * n1) (e2 : m2 = A * n2) (e3 : m3 = A * n3) (v0 : l0 + 18446744073709551616 * h1 = 0 + m0) (v1 : l1 + 18446744073709551616 * h2 = h1 + m1) (v2 : l2 + 18446744073709551616 * h3 = h2 + m2) (v3 : l3 + 18446744073709551616 * h4 = h3 + m3) :
  (l0 + 18446744073709551616 * l1 + 340282366920938463463374607431768211456 * l2 + 6277101735386680763835789423207666416102355444464034512896 * l3) + 115792089237316195423570985008687907853269984665640564039457584007913129639936 * h4 = A * (n0 + 18446744073709551616 * n1 + 340282366920938463463374607431768211456 * n2 + 6277101735386680763835789423207666416102355444464034512896 * n3) := by
 rw [Nat.mul_add, Nat.mul_add, Nat.mul_add, Nat.mul_left_comm A 18446744073709551616, Nat.mul_left_comm A 340282366920938463463374607431768211456, Nat.mul_left_comm A 6277101735386680763835789423207666416102355444464034512896, ← e0, ← e1, ← e2, ← e3]
 omega
theorem q5c (a b : Q) : (lw a b).num + 115792089237316195423570985008687907853269984665640564039457584007913129639936 * (q4 a b).num = a.num * b.num := by
 have v0 := x1a zQ a b.a0
 have v1 := x1a (q1 a b) a b.a1
 have v2 := x1a (q2 a b) a b.a2
 have v3 := x1a (q3 a b) a b.a3
 rw [k7n] at v0
 exact four a.num b.a0.toNat b.a1.toNat b.a2.toNat b.a3.toNat _ _ _ _ _ _ _ _ _ _ _ _ rfl rfl rfl rfl v0 v1 v2 v3
def t0 (a b : Q) : BitVec 64 := r0 (lw a b) (q4 a b) 38#64
def t1 (a b : Q) : BitVec 64 := r1 (lw a b) (q4 a b) 38#64
def t2 (a b : Q) : BitVec 64 := r2 (lw a b) (q4 a b) 38#64
def t3 (a b : Q) : BitVec 64 := r3 (lw a b) (q4 a b) 38#64
def t4 (a b : Q) : BitVec 64 := r4 (lw a b) (q4 a b) 38#64
def ov (a b : Q) : BitVec 64 := t4 a b <<< 1 ||| t3 a b >>> 63
def o1 (a b : Q) : Bool := carry (t0 a b) (19#64 * ov a b) false
def o2 (a b : Q) : Bool := carry (t1 a b) 0#64 (o1 a b)
def o3 (a b : Q) : Bool := carry (t2 a b) 0#64 (o2 a b)
def k5p (a b : Q) : Q := ⟨t0 a b + 19#64 * ov a b + bv false, t1 a b + bv (o1 a b), t2 a b + bv (o2 a b), (t3 a b &&& 9223372036854775807#64) + bv (o3 a b)⟩
theorem k5y (x y : BitVec 64) (h : x.toNat ≤ 38) : (x <<< 1 ||| y >>> 63).toNat = 2 * x.toNat + y.toNat / 9223372036854775808 := by
 have hy := y.isLt
 rw [BitVec.toNat_or, BitVec.toNat_shiftLeft, BitVec.toNat_ushiftRight, Nat.shiftRight_eq_div_pow]
 have h1 : x.toNat <<< 1 % 2 ^ 64 = x.toNat <<< 1 := Nat.mod_eq_of_lt (by rw [Nat.shiftLeft_eq]; omega)
 rw [h1, ← Nat.shiftLeft_add_eq_or_of_lt (by omega), Nat.shiftLeft_eq]
 omega
theorem k5o (x : BitVec 64) (h : x.toNat ≤ 77) : (19#64 * x).toNat = 19 * x.toNat := by
 rw [BitVec.toNat_mul, show (19#64).toNat = 19 from rfl]
 exact Nat.mod_eq_of_lt (by omega)
theorem x7j (x : BitVec 64) : (x &&& 9223372036854775807#64).toNat = x.toNat % 9223372036854775808 := by
 rw [BitVec.toNat_and]
 exact Nat.and_two_pow_sub_one_eq_mod _ 63
theorem q9t (T R x0 x1 x2 x3 c4 y0 y1 y2 y3 c1 c2 c3 o : Nat) (hT : x0 + 18446744073709551616 * x1 + 340282366920938463463374607431768211456 * x2 + 6277101735386680763835789423207666416102355444464034512896 * x3 + 115792089237316195423570985008687907853269984665640564039457584007913129639936 * c4 = T)
  (h0 : x0 < 18446744073709551616) (h1 : x1 < 18446744073709551616) (h2 : x2 < 18446744073709551616) (h3 : x3 < 18446744073709551616) (h4 : c4 ≤ 38) (ho : o = 2 * c4 + x3 / 9223372036854775808)
  (v0 : y0 + 18446744073709551616 * c1 = x0 + 19 * o + 0) (v1 : y1 + 18446744073709551616 * c2 = x1 + 0 + c1) (v2 : y2 + 18446744073709551616 * c3 = x2 + 0 + c2) (v3 : y3 = x3 % 9223372036854775808 + c3)
  (hR : R = y0 + 18446744073709551616 * y1 + 340282366920938463463374607431768211456 * y2 + 6277101735386680763835789423207666416102355444464034512896 * y3) :
  R < 2 * PP ∧ R + PP * o = T := by
 rw [y3e]
 omega
theorem j0g (a b : Q) : (t4 a b).toNat ≤ 38 := by
 have h := k5g (lw a b) (q4 a b) 38#64
 have h1 := z5r (lw a b)
 have h2 := z5r (q4 a b)
 rw [show (38#64).toNat = 38 from rfl] at h
 show (r4 (lw a b) (q4 a b) 38#64).toNat ≤ 38
 omega
theorem k1y (x : BitVec 64) (b : Bool) : ((x &&& 9223372036854775807#64) + bv b).toNat = x.toNat % 9223372036854775808 + (bv b).toNat := by
 have hb := z9r b
 rw [BitVec.toNat_add, x7j]
 exact Nat.mod_eq_of_lt (by omega)
theorem x1l (a b : Q) : (k5p a b).num < 2 * PP ∧ (k5p a b).num % PP = a.num * b.num % PP := by
 have hw := q5c a b
 have ht : (t0 a b).toNat + 18446744073709551616 * (t1 a b).toNat + 340282366920938463463374607431768211456 * (t2 a b).toNat + 6277101735386680763835789423207666416102355444464034512896 * (t3 a b).toNat + 115792089237316195423570985008687907853269984665640564039457584007913129639936 * (t4 a b).toNat = (lw a b).num + (q4 a b).num * 38 := y4q (lw a b) (q4 a b) 38#64
 have h4 := j0g a b
 have ho : (ov a b).toNat = 2 * (t4 a b).toNat + (t3 a b).toNat / 9223372036854775808 := k5y _ _ h4
 have l3 := (t3 a b).isLt
 have v0 := z0x (t0 a b) (19#64 * ov a b) false
 have v1 := z0x (t1 a b) 0#64 (o1 a b)
 have v2 := z0x (t2 a b) 0#64 (o2 a b)
 rw [k5o _ (by omega), show carry (t0 a b) (19#64 * ov a b) false = o1 a b from rfl, show (bv false).toNat = 0 from rfl] at v0
 rw [show carry (t1 a b) 0#64 (o1 a b) = o2 a b from rfl, show (0#64).toNat = 0 from rfl, BitVec.add_zero] at v1
 rw [show carry (t2 a b) 0#64 (o2 a b) = o3 a b from rfl, show (0#64).toNat = 0 from rfl, BitVec.add_zero] at v2
 have hm := q9t _ (k5p a b).num _ _ _ _ _ _ _ _ _ _ _ _ _ ht (t0 a b).isLt (t1 a b).isLt (t2 a b).isLt l3 h4 ho v0 v1 v2 (k1y (t3 a b) (o3 a b)) rfl
 refine ⟨hm.1, ?_⟩
 have e1 : (k5p a b).num % PP = ((lw a b).num + (q4 a b).num * 38) % PP := by rw [← hm.2, Nat.add_mul_mod_self_left]
 have e2 : a.num * b.num % PP = ((lw a b).num + (q4 a b).num * 38) % PP := by
  rw [← hw, show (lw a b).num + 115792089237316195423570985008687907853269984665640564039457584007913129639936 * (q4 a b).num = ((lw a b).num + (q4 a b).num * 38) + PP * (2 * (q4 a b).num) by rw [y3e]; omega, Nat.add_mul_mod_self_left]
 rw [e1, e2]
end Fw
end Go.Proofs.YtbojijefenfbgaaGreatDoor
namespace Go.Proofs.YtbojijefenfbgaaGreatDoor
namespace Nt
def z0i (p : Nat) : Prop := 1 < p ∧ ∀ m, m ∣ p → m = 1 ∨ m = p
theorem z0i.pos {p : Nat} (h : z0i p) : 0 < p := by have := h.1; omega
theorem z0i.coprime {p : Nat} (h : z0i p) (a : Nat) (ha : ¬ p ∣ a) : Nat.Coprime a p := by
 have hd : Nat.gcd a p ∣ p := Nat.gcd_dvd_right _ _
 rcases h.2 _ hd with e | e
 ·exact e
 ·exact absurd (e ▸ Nat.gcd_dvd_left a p) ha
theorem z0i.dvd_mul {p : Nat} (h : z0i p) {a b : Nat} (hab : p ∣ a * b) : p ∣ a ∨ p ∣ b := by
 by_cases ha : p ∣ a
 ·exact .inl ha
 ·exact .inr ((Nat.Coprime.symm (h.coprime a ha)).dvd_of_dvd_mul_left hab)
def bin : Nat → Nat → Nat
 | _, 0 => 1
 | 0, _ + 1 => 0
 | n + 1, k + 1 => bin n k + bin n (k + 1)
theorem z7u (n : Nat) : bin n 0 = 1 := by cases n <;> rfl
theorem q5k (n k : Nat) (h : n < k) : bin n k = 0 := by
 induction n generalizing k with
 | zero => cases k with
  | zero => omega
  | succ k => rfl
 | succ n ih => cases k with
  | zero => omega
  | succ k => simp only [bin]; rw [ih k (by omega), ih (k + 1) (by omega)]
theorem q0u (n : Nat) : bin n n = 1 := by
 induction n with
 | zero => rfl
 | succ n ih => simp only [bin]; rw [ih, q5k n (n + 1) (by omega)]
theorem q7m (n k : Nat) : (k + 1) * bin (n + 1) (k + 1) = (n + 1) * bin n k := by
 induction n generalizing k with
 | zero => cases k with
  | zero => rfl
  | succ k => simp [bin]
 | succ n ih => cases k with
  | zero =>
   have := ih 0
   simp only [z7u, Nat.mul_one, Nat.zero_add, Nat.one_mul] at this ⊢
   show bin (n + 1) 0 + bin (n + 1) 1 = n + 1 + 1
   rw [this, z7u]; omega
  | succ j =>
   have h1 := ih j
   have h2 := ih (j + 1)
   have e : bin (n + 1) (j + 1) = bin n j + bin n (j + 1) := rfl
   have e2 : bin (n + 1 + 1) (j + 1 + 1) = bin (n + 1) (j + 1) + bin (n + 1) (j + 1 + 1) := rfl
   rw [e2, Nat.mul_add, h2]
   rw [show j + 1 + 1 = (j + 1) + 1 from rfl, Nat.add_mul (j + 1) 1, h1, Nat.one_mul]
   rw [Nat.add_mul (n + 1) 1, Nat.one_mul]
   rw [show (n + 1) * bin (n + 1) (j + 1) = (n + 1) * bin n j + (n + 1) * bin n (j + 1) by rw [e, Nat.mul_add]]
   omega
def sumTo (n a : Nat) : Nat → Nat
 | 0 => 0
 | m + 1 => sumTo n a m + bin n m * a ^ m
theorem x4t (n a m : Nat) : sumTo (n + 1) a (m + 1) = sumTo n a (m + 1) + a * sumTo n a m := by
 induction m with
 | zero => simp [sumTo, z7u]
 | succ m ih =>
  rw [sumTo, ih]
  rw [show sumTo n a (m + 1 + 1) = sumTo n a (m + 1) + bin n (m + 1) * a ^ (m + 1) from rfl]
  rw [show bin (n + 1) (m + 1) = bin n m + bin n (m + 1) from rfl, Nat.add_mul]
  rw [show a * sumTo n a (m + 1) = a * sumTo n a m + a * (bin n m * a ^ m) by rw [sumTo, Nat.mul_add]]
  rw [show a * (bin n m * a ^ m) = bin n m * a ^ (m + 1) by rw [Nat.pow_succ, Nat.mul_left_comm, Nat.mul_comm a (a ^ m)]]
  omega
theorem q0v (n a : Nat) : (a + 1) ^ n = sumTo n a (n + 1) := by
 induction n with
 | zero => simp [sumTo, z7u]
 | succ n ih =>
  rw [Nat.pow_succ, ih, x4t]
  rw [show sumTo n a (n + 1 + 1) = sumTo n a (n + 1) + bin n (n + 1) * a ^ (n + 1) from rfl, q5k n (n + 1) (by omega)]
  rw [Nat.mul_add, Nat.mul_one, Nat.mul_comm]
  omega
theorem q7l {p : Nat} (h : z0i p) (k : Nat) (h1 : 0 < k) (h2 : k < p) : p ∣ bin p k := by
 obtain ⟨n, rfl⟩ : ∃ n, p = n + 1 := ⟨p - 1, by have := h.1; omega⟩
 obtain ⟨j, rfl⟩ : ∃ j, k = j + 1 := ⟨k - 1, by omega⟩
 have e := q7m n j
 have hd : n + 1 ∣ (j + 1) * bin (n + 1) (j + 1) := ⟨bin n j, e⟩
 rcases h.dvd_mul hd with hc | hc
 ·exact absurd (Nat.le_of_dvd (by omega) hc) (by omega)
 ·exact hc
theorem x9p {p : Nat} (h : z0i p) (a k : Nat) (hk : k < p) : sumTo p a (k + 1) % p = 1 % p := by
 induction k with
 | zero => simp [sumTo, z7u]
 | succ k ih =>
  rw [sumTo, Nat.add_mod, ih (by omega)]
  obtain ⟨c, hc⟩ := q7l h (k + 1) (by omega) hk
  rw [hc, Nat.mul_assoc, Nat.mul_mod_right]
  simp
theorem y6b {p : Nat} (h : z0i p) (a : Nat) : a ^ p % p = a % p := by
 induction a with
 | zero => rw [Nat.zero_pow h.pos]
 | succ a ih =>
  obtain ⟨n, hn⟩ : ∃ n, p = n + 1 := ⟨p - 1, by have := h.1; omega⟩
  rw [q0v, sumTo, q0u, Nat.one_mul, Nat.add_mod, ih]
  have e : sumTo p a p % p = 1 % p := by
   have := x9p h a n (by omega)
   rw [← hn] at this
   exact this
  rw [e, ← Nat.add_mod, Nat.add_comm]
theorem y2i {a b m : Nat} (h : a ≤ b) (hd : m ∣ b - a) : b % m = a % m := by
 obtain ⟨c, hc⟩ := hd
 rw [show b = a + m * c by omega, Nat.add_mul_mod_self_left]
theorem z8n {p : Nat} (h : z0i p) (a : Nat) (ha : ¬ p ∣ a) : a ^ (p - 1) % p = 1 := by
 have h1 := h.1
 have e := y6b h a
 have hpos : 0 < a ^ (p - 1) := Nat.pow_pos (Nat.pos_of_ne_zero (fun h0 => ha (h0 ▸ Nat.dvd_zero p)))
 have hp : a ^ p = a * a ^ (p - 1) := by
  conv => lhs; rw [show p = (p - 1) + 1 by omega, Nat.pow_succ, Nat.mul_comm]
 have hd : p ∣ a * (a ^ (p - 1) - 1) := by
  rw [Nat.mul_sub, Nat.mul_one, ← hp]
  exact Nat.dvd_of_mod_eq_zero (Nat.sub_mod_eq_zero_of_mod_eq e)
 rcases h.dvd_mul hd with hc | hc
 ·exact absurd hc ha
 ·rw [y2i hpos hc]; exact Nat.mod_eq_of_lt h1
theorem z9g (n : Nat) (h : 1 < n) : ∃ p, z0i p ∧ p ∣ n := by
 induction n using Nat.strongRecOn with
 | _ n ih =>
  by_cases hp : z0i n
  ·exact ⟨n, hp, Nat.dvd_refl n⟩
  ·have : ∃ m, m ∣ n ∧ m ≠ 1 ∧ m ≠ n := Classical.byContradiction fun hno => hp ⟨h, fun m hm => by
    by_cases h1 : m = 1
    ·exact .inl h1
    ·by_cases h2 : m = n
     ·exact .inr h2
     ·exact absurd ⟨m, hm, h1, h2⟩ hno⟩
   obtain ⟨m, hm, h1, h2⟩ := this
   have hle := Nat.le_of_dvd (by omega) hm
   have hpos : 0 < m := Nat.pos_of_dvd_of_pos hm (by omega)
   obtain ⟨p, hpp, hd⟩ := ih m (by omega) (by omega)
   exact ⟨p, hpp, Nat.dvd_trans hd hm⟩
theorem y1g {a p e : Nat} (h : a ^ e % p = 1 % p) (k : Nat) : a ^ (e * k) % p = 1 % p := by
 rw [Nat.pow_mul, Nat.pow_mod, h, ← Nat.pow_mod, Nat.one_pow]
theorem k0f {a p : Nat} (e f : Nat) (h1 : a ^ e % p = 1 % p) (h2 : a ^ f % p = 1 % p) : a ^ Nat.gcd e f % p = 1 % p := by
 induction e, f using Nat.gcd.induction with
 | H0 f => rw [Nat.gcd_zero_left]; exact h2
 | H1 e f hpos ih =>
  rw [Nat.gcd_rec]
  refine ih ?_ h1
  have hd := Nat.div_add_mod f e
  have hk := y1g h1 (f / e)
  rw [← hd, Nat.pow_add, Nat.mul_mod, hk, ← Nat.mul_mod, Nat.one_mul] at h2
  exact h2
theorem x4e {a b m p : Nat} (hd : p ∣ m) (h : a % m = b % m) : a % p = b % p := by
 rw [← Nat.mod_mod_of_dvd a hd, h, Nat.mod_mod_of_dvd b hd]
theorem y4m {n q a r p : Nat} (hn : n = q * r + 1) (hq : z0i q) (h1 : a ^ (n - 1) % n = 1 % n) (h2 : Nat.gcd (a ^ r % n + n - 1) n = 1) (hp : z0i p) (hpn : p ∣ n) : q ∣ p - 1 := by
 refine Classical.byContradiction fun hnot => ?_
 have hp1 := hp.1
 have hn0 : 0 < n := by omega
 have e1 : a ^ (n - 1) % p = 1 % p := x4e hpn h1
 have hr0 : 0 < n - 1 := by
  rcases Nat.eq_zero_or_pos (n - 1) with h0 | h0
  ·exfalso
   have hn1 : n = 1 := by omega
   subst hn1
   have := Nat.le_of_dvd (by omega) hpn
   omega
  ·exact h0
 have hpa : ¬ p ∣ a := fun hd => by
  have : p ∣ a ^ (n - 1) := Nat.dvd_trans hd (by rw [show n - 1 = (n - 2) + 1 by omega, Nat.pow_succ]; exact Nat.dvd_mul_left a _)
  rw [Nat.mod_eq_zero_of_dvd this, Nat.mod_eq_of_lt hp1] at e1
  omega
 have e2 : a ^ (p - 1) % p = 1 % p := by rw [z8n hp a hpa, Nat.mod_eq_of_lt hp1]
 have e3 := k0f (n - 1) (p - 1) e1 e2
 have hg : Nat.gcd (n - 1) (p - 1) ∣ r := by
  have hco : Nat.Coprime (Nat.gcd (n - 1) (p - 1)) q := by
   have hc := hq.coprime (p - 1) hnot
   exact Nat.Coprime.coprime_dvd_left (Nat.gcd_dvd_right _ _) hc
  have hd : Nat.gcd (n - 1) (p - 1) ∣ q * r := by
   have := Nat.gcd_dvd_left (n - 1) (p - 1)
   rwa [show n - 1 = q * r by omega] at this ⊢
  exact hco.dvd_of_dvd_mul_left hd
 obtain ⟨c, hc⟩ := hg
 have e4 : a ^ r % p = 1 % p := by rw [hc]; exact y1g e3 c
 have hd : p ∣ a ^ r % n + n - 1 := by
  obtain ⟨k, hk⟩ := hpn
  have e5 : (a ^ r % n) % p = 1 % p := by rw [Nat.mod_mod_of_dvd _ ⟨k, hk⟩]; exact e4
  have hkpos : 0 < k := Nat.pos_of_ne_zero fun h0 => by rw [h0, Nat.mul_zero] at hk; omega
  have e6 : (a ^ r % n + n) % p = 1 % p := by rw [Nat.add_mod, e5, hk, Nat.mul_mod_right]; simp
  have := Nat.sub_mod_eq_zero_of_mod_eq e6
  exact Nat.dvd_of_mod_eq_zero this
 have := Nat.dvd_gcd hd hpn
 rw [h2] at this
 have := Nat.le_of_dvd (by omega) this
 omega
theorem z4v {n : Nat} (h1 : 1 < n) (h : ∀ p, z0i p → p ∣ n → n < p * p) : z0i n := by
 refine ⟨h1, fun m hm => ?_⟩
 by_cases hm1 : m = 1
 ·exact .inl hm1
 ·right
  have hmpos : 0 < m := Nat.pos_of_dvd_of_pos hm (by omega)
  obtain ⟨c, hc⟩ := hm
  by_cases hc1 : c = 1
  ·rw [hc, hc1, Nat.mul_one]
  ·exfalso
   have hcpos : 0 < c := Nat.pos_of_ne_zero fun h0 => by rw [h0, Nat.mul_zero] at hc; omega
   obtain ⟨p, hp, hpm⟩ := z9g m (by omega)
   obtain ⟨p', hp', hpc⟩ := z9g c (by omega)
   have a1 := h p hp (Nat.dvd_trans hpm ⟨c, hc⟩)
   have a2 := h p' hp' (Nat.dvd_trans hpc ⟨m, by rw [Nat.mul_comm]; exact hc⟩)
   have b1 := Nat.le_of_dvd hmpos hpm
   have b2 := Nat.le_of_dvd hcpos hpc
   have hle : p * p' ≤ n := by rw [hc]; exact Nat.mul_le_mul b1 b2
   rcases Nat.le_total p p' with hpp | hpp
   ·have := Nat.mul_le_mul_left p hpp; omega
   ·have := Nat.mul_le_mul_right p' hpp; omega
theorem q3m {n q a r : Nat} (h0 : 1 < n) (hn : n = q * r + 1) (hq : z0i q) (hbig : n < (q + 1) * (q + 1)) (h1 : a ^ (n - 1) % n = 1 % n) (h2 : Nat.gcd (a ^ r % n + n - 1) n = 1) : z0i n := by
 refine z4v h0 (fun p hp hpn => ?_)
 have hd := y4m hn hq h1 h2 hp hpn
 have hp1 := hp.1
 have hle := Nat.le_of_dvd (by omega) hd
 exact Nat.lt_of_lt_of_le hbig (Nat.mul_le_mul (by omega) (by omega))
theorem q3n {n q r q' r' a : Nat} (h0 : 1 < n) (hn : n = q * r + 1) (hn' : n = q' * r' + 1) (hq : z0i q) (hq' : z0i q') (hne : Nat.gcd q q' = 1) (hbig : n < (q * q' + 1) * (q * q' + 1))
  (h1 : a ^ (n - 1) % n = 1 % n) (h2 : Nat.gcd (a ^ r % n + n - 1) n = 1) (h2' : Nat.gcd (a ^ r' % n + n - 1) n = 1) : z0i n := by
 refine z4v h0 (fun p hp hpn => ?_)
 have hd := y4m hn hq h1 h2 hp hpn
 have hd' := y4m hn' hq' h1 h2' hp hpn
 have hp1 := hp.1
 have hle := Nat.le_of_dvd (by omega) (Nat.Coprime.mul_dvd_of_dvd_of_dvd hne hd hd')
 exact Nat.lt_of_lt_of_le hbig (Nat.mul_le_mul (by omega) (by omega))
def powMod (m : Nat) : Nat → Nat → Nat → Nat
 | 0, _, _ => 1 % m
 | f + 1, a, e => if e % 2 = 1 then a * powMod m f (a * a % m) (e / 2) % m else powMod m f (a * a % m) (e / 2)
theorem y1f (m : Nat) (f a e : Nat) (h : e < 2 ^ f) : powMod m f a e = a ^ e % m := by
  induction f generalizing a e with
  | zero => obtain rfl : e = 0 := by simpa using h
            rfl
  | succ f ih =>
    rw [Nat.pow_succ] at h
    have hd := Nat.div_add_mod e 2
    simp only [powMod]
    rw [ih _ _ (by omega)]
    have e1 : (a * a % m) ^ (e / 2) % m = a ^ (2 * (e / 2)) % m := by rw [← Nat.pow_mod, Nat.pow_mul, Nat.pow_two]
    by_cases ho : e % 2 = 1
    · rw [if_pos ho, e1, Nat.mul_mod_mod]
      conv => rhs; rw [← hd, ho, Nat.pow_succ, Nat.mul_comm]
    · rw [if_neg ho, e1]
      conv => rhs; rw [← hd, show e % 2 = 0 by omega, Nat.add_zero]
theorem k9v {n q r : Nat} (hn : n = q * r + 1) (hq : z0i q) : r < n := by
 have := Nat.le_mul_of_pos_left r hq.pos
 omega
theorem z4n {n q a r : Nat} (f : Nat) (h0 : 1 < n) (hf : n ≤ 2 ^ f) (hn : n = q * r + 1) (hq : z0i q) (hbig : n < (q + 1) * (q + 1)) (h1 : powMod n f a (n - 1) = 1 % n) (h2 : Nat.gcd (powMod n f a r + n - 1) n = 1) : z0i n := by
 have hr := k9v hn hq
 rw [y1f n f a _ (by omega)] at h1 h2
 exact q3m h0 hn hq hbig h1 h2
theorem z7v {n q r q' r' a : Nat} (f : Nat) (h0 : 1 < n) (hf : n ≤ 2 ^ f) (hn : n = q * r + 1) (hn' : n = q' * r' + 1) (hq : z0i q) (hq' : z0i q') (hne : Nat.gcd q q' = 1) (hbig : n < (q * q' + 1) * (q * q' + 1))
  (h1 : powMod n f a (n - 1) = 1 % n) (h2 : Nat.gcd (powMod n f a r + n - 1) n = 1) (h2' : Nat.gcd (powMod n f a r' + n - 1) n = 1) : z0i n := by
 have hr := k9v hn hq
 have hr' := k9v hn' hq'
 rw [y1f n f a _ (by omega)] at h1 h2 h2'
 exact q3n h0 hn hn' hq hq' hne hbig h1 h2 h2'
def noDiv (n : Nat) : Nat → Nat → Bool
 | 0, _ => false
 | f + 1, d => if n < d * d then true else if n % d = 0 then false else noDiv n f (d + 1)
theorem x4h (n f d : Nat) (h : noDiv n f d = true) (m : Nat) (hm : d ≤ m) (hmm : m * m ≤ n) : ¬ m ∣ n := by
 induction f generalizing d with
 | zero => simp [noDiv] at h
 | succ f ih =>
  simp only [noDiv] at h
  by_cases h1 : n < d * d
  ·have := Nat.mul_le_mul hm hm; omega
  ·rw [if_neg h1] at h
   by_cases h2 : n % d = 0
   ·rw [if_pos h2] at h; cases h
   ·rw [if_neg h2] at h
    by_cases e : d = m
    ·subst e; exact fun hd => h2 (Nat.mod_eq_zero_of_dvd hd)
    ·exact ih (d + 1) h (by omega)
theorem z1t {n : Nat} (f : Nat) (h1 : 1 < n) (h : noDiv n f 2 = true) : z0i n := by
 refine z4v h1 (fun p hp hpn => ?_)
 have hp1 := hp.1
 rcases Nat.lt_or_ge n (p * p) with hl | hl
 ·exact hl
 ·exact absurd hpn (x4h n f 2 h p (by omega) hl)
end Nt
end Go.Proofs.YtbojijefenfbgaaGreatDoor
