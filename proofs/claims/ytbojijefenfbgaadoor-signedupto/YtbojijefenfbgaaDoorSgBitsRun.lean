/- math/bits' Add64, Sub64 (the model's own entries) and Mul64 (its Go text), over words of 64 bits. -/
/- Walks of the program's field: settle, Add, Sub, Neg, addRow, Mul. -/
import Derived.Test.YtbojijefenfbgaaDoorProg
import Derived.Test.YtbojijefenfbgaaDoorSgU
import Derived.WalkKit
import Derived.WalkSpells
import Derived.WalkLawsBesides
import Derived.Laws.Externs
import Derived.Laws.MathBits
import Derived.Shelf.Spec.BitsCarry
import Derived.Shelf.Bits.Mul64
import Derived.KernelRfl
import Derived.BigQuiet
namespace Go.Proofs.YtbojijefenfbgaaDoor
open Go.RowKit
namespace Bt

/-- A carry as a word. -/
def bv (b : Bool) : BitVec 64 := if b then 1#64 else 0#64
theorem bv_toNat (b : Bool) : (bv b).toNat = if b then 1 else 0 := by cases b <;> rfl
theorem bv_le (b : Bool) : (bv b).toNat ≤ 1 := by cases b <;> decide
theorem un_bv_false : un (bv false) = 0 := rfl
/-- What is carried out of x + y + b. -/
def carry (x y : BitVec 64) (b : Bool) : Bool := decide (18446744073709551616 ≤ x.toNat + y.toNat + (bv b).toNat)
/-- What is borrowed by x - y - b. -/
def borrow (x y : BitVec 64) (b : Bool) : Bool := decide (x.toNat < y.toNat + (bv b).toNat)
theorem add_val (x y : BitVec 64) (b : Bool) : (x + y + bv b).toNat + 18446744073709551616 * (bv (carry x y b)).toNat = x.toNat + y.toNat + (bv b).toNat := by
  have h1 := x.isLt
  have h2 := y.isLt
  have h3 := bv_le b
  rw [bv_toNat (carry x y b), BitVec.toNat_add, BitVec.toNat_add]
  unfold carry
  by_cases h : 18446744073709551616 ≤ x.toNat + y.toNat + (bv b).toNat
  · rw [decide_eq_true h]; simp only [if_true]; omega
  · rw [decide_eq_false h]; simp only [Bool.false_eq_true, if_false]; omega
theorem sub_val (x y : BitVec 64) (b : Bool) : (x - y - bv b).toNat + y.toNat + (bv b).toNat = x.toNat + 18446744073709551616 * (bv (borrow x y b)).toNat := by
  have h1 := x.isLt
  have h2 := y.isLt
  have h3 := bv_le b
  rw [bv_toNat (borrow x y b), BitVec.toNat_sub, BitVec.toNat_sub]
  unfold borrow
  by_cases h : x.toNat < y.toNat + (bv b).toNat
  · rw [decide_eq_true h]; simp only [if_true]; omega
  · rw [decide_eq_false h]; simp only [Bool.false_eq_true, if_false]; omega

theorem run_Add64 (x y : BitVec 64) (b : Bool) (w : World) :
    Sem.run Tryd.prog (callFunc 91 #[.int .u64 (un x), .int .u64 (un y), .int .u64 (un (bv b))]) w =
      .ok (.value (.tuple #[.int .u64 (un (x + y + bv b)), .int .u64 (un (bv (carry x y b)))])) w := by
  have h1 := UV.un_lo x
  have h2 := UV.un_lo y
  have h3 := UV.un_lo (bv b)
  have h4 : un (bv b) ≤ 1 := by unfold un; have := bv_le b; omega
  rw [run_callFunc_extern Tryd.func91 (by kernel_rfl) (by kernel_rfl) (by kernel_rfl) (e := add64Entry) (by kernel_rfl), run_add64 _ _ _ h1 h2 h3 h4]
  have hv := add_val x y b
  have hlt := (x + y + bv b).isLt
  have hb := bv_le (carry x y b)
  have e1 : (un x + un y + un (bv b)) % 18446744073709551616 = un (x + y + bv b) := by unfold un; omega
  have e2 : (un x + un y + un (bv b)) / 18446744073709551616 = un (bv (carry x y b)) := by unfold un; omega
  rw [e1, e2]
  rfl
theorem run_Sub64 (x y : BitVec 64) (b : Bool) (w : World) :
    Sem.run Tryd.prog (callFunc 93 #[.int .u64 (un x), .int .u64 (un y), .int .u64 (un (bv b))]) w =
      .ok (.value (.tuple #[.int .u64 (un (x - y - bv b)), .int .u64 (un (bv (borrow x y b)))])) w := by
  have hb1 := bv_le b
  have hr := run_sub64 (P := Tryd.prog) x.toNat y.toNat (bv b).toNat hb1 w
  have e0 : (#[Value.int .u64 (un x), .int .u64 (un y), .int .u64 (un (bv b))] : Array Value) = #[.int .u64 ((x.toNat : Nat) : Int), .int .u64 ((y.toNat : Nat) : Int), .int .u64 (((bv b).toNat : Nat) : Int)] := rfl
  rw [run_callFunc_extern Tryd.func93 (by kernel_rfl) (by kernel_rfl) (by kernel_rfl) (e := sub64Entry) (by kernel_rfl), e0, hr]
  have hv := sub_val x y b
  have hlt := (x - y - bv b).isLt
  have hx := x.isLt
  have hy := y.isLt
  have hb := bv_le (borrow x y b)
  have e1 : (x.toNat + 18446744073709551616 - y.toNat - (bv b).toNat) % 18446744073709551616 = (x - y - bv b).toNat := by omega
  have e2 : (if x.toNat < y.toNat + (bv b).toNat then 1 else 0 : Nat) = (bv (borrow x y b)).toNat := by
    rw [bv_toNat (borrow x y b)]
    unfold borrow
    by_cases h : x.toNat < y.toNat + (bv b).toNat
    · rw [decide_eq_true h, if_pos h]; rfl
    · rw [decide_eq_false h, if_neg h]; rfl
  rw [e1, e2]
  rfl
/-- The high half of a product. -/
def mulH (x y : BitVec 64) : BitVec 64 := BitVec.ofNat 64 (x.toNat * y.toNat / 18446744073709551616)
theorem mul_val (x y : BitVec 64) : (x * y).toNat + 18446744073709551616 * (mulH x y).toNat = x.toNat * y.toNat := by
  have h1 := x.isLt
  have h2 := y.isLt
  have hlt : x.toNat * y.toNat < 18446744073709551616 * 18446744073709551616 := Nat.mul_lt_mul'' h1 h2
  have hq : x.toNat * y.toNat / 18446744073709551616 < 18446744073709551616 := Nat.div_lt_of_lt_mul hlt
  unfold mulH
  rw [BitVec.toNat_mul, BitVec.toNat_ofNat, Nat.mod_eq_of_lt (show x.toNat * y.toNat / 18446744073709551616 < 2 ^ 64 from hq)]
  omega
set_option maxHeartbeats 1000000 in
theorem mul64_nat (x y : Nat) (hx : x < 18446744073709551616) (hy : y < 18446744073709551616) (w : World) :
    Calls Tryd.prog 111 #[.int .u64 (x : Int), .int .u64 (y : Int)] w fun e w' => e = .returned (.tuple #[.int .u64 ((x * y / 18446744073709551616 : Nat) : Int), .int .u64 ((x * y % 18446744073709551616 : Nat) : Int)]) ∧ w' = w := by
  obtain ⟨d1, d2, d3, hhi⟩ := Lib.mul64_hi x y hx hy
  have g1 := Lib.half_mul_le (a := x / 4294967296) (b := y / 4294967296) (by omega) (by omega)
  have g2 := Lib.half_mul_le (a := x / 4294967296) (b := y % 4294967296) (by omega) (by omega)
  have g3 := Lib.half_mul_le (a := x % 4294967296) (b := y / 4294967296) (by omega) (by omega)
  have l1 : x / 4294967296 * (y / 4294967296) < 18446744073709551616 := by omega
  have l2 : x / 4294967296 * (y % 4294967296) < 18446744073709551616 := by omega
  have l3 : x % 4294967296 * (y / 4294967296) < 18446744073709551616 := by omega
  have l4 : x / 4294967296 * (y / 4294967296) + (x / 4294967296 * (y % 4294967296) + x % 4294967296 * (y % 4294967296) / 4294967296) / 4294967296 < 18446744073709551616 := by omega
  have l5 : x / 4294967296 * (y / 4294967296) + (x / 4294967296 * (y % 4294967296) + x % 4294967296 * (y % 4294967296) / 4294967296) / 4294967296 + ((x / 4294967296 * (y % 4294967296) + x % 4294967296 * (y % 4294967296) / 4294967296) % 4294967296 + x % 4294967296 * (y / 4294967296)) / 4294967296 < 18446744073709551616 := by omega
  go_enter Tryd.func111, Tryd.ntmps111
  go_wp2
  simp only [Mul64.maskN x hx, Mul64.maskN y hy, Mul64.divN, Mul64.mulN, Mul64.addN, Mul64.wrapN _ d1, Mul64.wrapN _ l2, Mul64.wrapN _ d2, Mul64.maskN _ d2, Mul64.wrapN _ l3, Mul64.wrapN _ d3, Mul64.wrapN _ l1, Mul64.wrapN _ l4, Mul64.wrapN _ l5, Mul64.wrapM (x * y)]
  rw [hhi]
  go_ret2
  exact ⟨rfl, rfl⟩
theorem mul64_any (x y : BitVec 64) (w : World) :
    Calls Tryd.prog 111 #[.int .u64 (un x), .int .u64 (un y)] w fun e w' => e = .returned (.tuple #[.int .u64 (un (mulH x y)), .int .u64 (un (x * y))]) ∧ w' = w := by
  have h := mul64_nat x.toNat y.toNat x.isLt y.isLt w
  have hv := mul_val x y
  have h1 := (x * y).isLt
  have e1 : x.toNat * y.toNat / 18446744073709551616 = (mulH x y).toNat := by omega
  have e2 : x.toNat * y.toNat % 18446744073709551616 = (x * y).toNat := by omega
  rw [e1, e2] at h
  exact h
end Bt
end Go.Proofs.YtbojijefenfbgaaDoor
namespace Go.Proofs.YtbojijefenfbgaaDoor
open Go.RowKit
namespace Fw
open Bt
theorem un_19 : un 19#64 = 19 := rfl
theorem un_0 : un 0#64 = 0 := rfl
theorem run_Add64_xy0 (x y : BitVec 64) (w : World) : Sem.run Tryd.prog (callFunc 91 #[.int .u64 (un x), .int .u64 (un y), .int .u64 0]) w = .ok (.value (.tuple #[.int .u64 (un (x + y + bv false)), .int .u64 (un (bv (carry x y false)))])) w := run_Add64 x y false w
theorem run_Add64_19 (x : BitVec 64) (w : World) : Sem.run Tryd.prog (callFunc 91 #[.int .u64 (un x), .int .u64 19, .int .u64 0]) w = .ok (.value (.tuple #[.int .u64 (un (x + 19#64 + bv false)), .int .u64 (un (bv (carry x 19#64 false)))])) w := run_Add64 x 19#64 false w
theorem run_Add64_0c (x : BitVec 64) (b : Bool) (w : World) : Sem.run Tryd.prog (callFunc 91 #[.int .u64 (un x), .int .u64 0, .int .u64 (un (bv b))]) w = .ok (.value (.tuple #[.int .u64 (un (x + 0#64 + bv b)), .int .u64 (un (bv (carry x 0#64 b)))])) w := run_Add64 x 0#64 b w
theorem run_Sub64_xy0 (x y : BitVec 64) (w : World) : Sem.run Tryd.prog (callFunc 93 #[.int .u64 (un x), .int .u64 (un y), .int .u64 0]) w = .ok (.value (.tuple #[.int .u64 (un (x - y - bv false)), .int .u64 (un (bv (borrow x y false)))])) w := run_Sub64 x y false w
theorem run_Sub64_0c (x : BitVec 64) (b : Bool) (w : World) : Sem.run Tryd.prog (callFunc 93 #[.int .u64 (un x), .int .u64 0, .int .u64 (un (bv b))]) w = .ok (.value (.tuple #[.int .u64 (un (x - 0#64 - bv b)), .int .u64 (un (bv (borrow x 0#64 b)))])) w := run_Sub64 x 0#64 b w
attribute [local go_sem] run_Add64_xy0 run_Add64_19 run_Add64_0c run_Sub64_xy0 run_Sub64_0c
attribute [local go_sem] UV.u_add UV.u_mul UV.u_sub UV.u_xor UV.u_and UV.u_or UV.u_shr UV.u_shl UV.u_not UV.u_notm UV.u_wrap_un run_Add64 run_Sub64

/-- Four words. -/
structure Q where
  a0 : BitVec 64
  a1 : BitVec 64
  a2 : BitVec 64
  a3 : BitVec 64
def Q.cells (q : Q) : Array Value := #[.int .u64 (un q.a0), .int .u64 (un q.a1), .int .u64 (un q.a2), .int .u64 (un q.a3)]
def Q.num (q : Q) : Nat := q.a0.toNat + 18446744073709551616 * q.a1.toNat + 340282366920938463463374607431768211456 * q.a2.toNat + 6277101735386680763835789423207666416102355444464034512896 * q.a3.toNat

abbrev PP : Nat := 57896044618658097711785492504343953926634992332820282019728792003956564819949
theorem PP_eq : PP = 57896044618658097711785492504343953926634992332820282019728792003956564819949 := rfl
theorem Q.cells_one (q : Q) : q.cells.all (·.oneCell') = true := by simp [Q.cells, Value.oneCell']

/-- The carries of q + 19. -/
def s1 (q : Q) : Bool := carry q.a0 19#64 false
def s2 (q : Q) : Bool := carry q.a1 0#64 (s1 q)
def s3 (q : Q) : Bool := carry q.a2 0#64 (s2 q)
theorem settle_low (q : Q) (h : q.num < 2 * PP) (ht : un (q.a3 + bv (s3 q)) / 9223372036854775808 = 0) : q.num % PP = q.num := by
  have v0 := add_val q.a0 19#64 false
  have v1 := add_val q.a1 0#64 (s1 q)
  have v2 := add_val q.a2 0#64 (s2 q)
  have v3 := add_val q.a3 0#64 (s3 q)
  simp only [BitVec.add_zero] at v1 v2 v3
  have b3 := bv_le (carry q.a3 0#64 (s3 q))
  have l0 := (q.a0 + 19#64 + bv false).isLt
  have l1 := (q.a1 + bv (s1 q)).isLt
  have l2 := (q.a2 + bv (s2 q)).isLt
  unfold un at ht
  rw [show carry q.a0 19#64 false = s1 q from rfl] at v0
  rw [show carry q.a1 0#64 (s1 q) = s2 q from rfl] at v1
  rw [show carry q.a2 0#64 (s2 q) = s3 q from rfl] at v2
  rw [show (19#64).toNat = 19 from rfl, show (bv false).toNat = 0 from rfl] at v0
  rw [show (0#64).toNat = 0 from rfl] at v1 v2 v3
  unfold Q.num at *
  generalize (q.a0 + 19#64 + bv false).toNat = t0 at *
  generalize (q.a1 + bv (s1 q)).toNat = t1 at *
  generalize (q.a2 + bv (s2 q)).toNat = t2 at *
  generalize (q.a3 + bv (s3 q)).toNat = t3 at *
  generalize (bv (s1 q)).toNat = c1 at *
  generalize (bv (s2 q)).toNat = c2 at *
  generalize (bv (s3 q)).toNat = c3 at *
  generalize (bv (carry q.a3 0#64 (s3 q))).toNat = c4 at *
  apply Nat.mod_eq_of_lt
  rw [PP_eq] at *
  omega
theorem settle_high (q : Q) (h : q.num < 2 * PP) (ht : un (q.a3 + bv (s3 q)) / 9223372036854775808 ≠ 0) :
    (Q.mk (q.a0 + 19#64 + bv false) (q.a1 + bv (s1 q)) (q.a2 + bv (s2 q)) ((q.a3 + bv (s3 q)) &&& 9223372036854775807#64)).num = q.num % PP := by
  have v0 := add_val q.a0 19#64 false
  have v1 := add_val q.a1 0#64 (s1 q)
  have v2 := add_val q.a2 0#64 (s2 q)
  have v3 := add_val q.a3 0#64 (s3 q)
  simp only [BitVec.add_zero] at v1 v2 v3
  have b3 := bv_le (carry q.a3 0#64 (s3 q))
  have l0 := (q.a0 + 19#64 + bv false).isLt
  have l1 := (q.a1 + bv (s1 q)).isLt
  have l2 := (q.a2 + bv (s2 q)).isLt
  have l3 := (q.a3 + bv (s3 q)).isLt
  have hm : ((q.a3 + bv (s3 q)) &&& 9223372036854775807#64).toNat = (q.a3 + bv (s3 q)).toNat % 9223372036854775808 := by
    rw [BitVec.toNat_and]
    exact Nat.and_two_pow_sub_one_eq_mod _ 63
  unfold un at ht
  rw [show carry q.a0 19#64 false = s1 q from rfl] at v0
  rw [show carry q.a1 0#64 (s1 q) = s2 q from rfl] at v1
  rw [show carry q.a2 0#64 (s2 q) = s3 q from rfl] at v2
  rw [show (19#64).toNat = 19 from rfl, show (bv false).toNat = 0 from rfl] at v0
  rw [show (0#64).toNat = 0 from rfl] at v1 v2 v3
  unfold Q.num at *
  simp only [hm]
  generalize (q.a0 + 19#64 + bv false).toNat = t0 at *
  generalize (q.a1 + bv (s1 q)).toNat = t1 at *
  generalize (q.a2 + bv (s2 q)).toNat = t2 at *
  generalize (q.a3 + bv (s3 q)).toNat = t3 at *
  generalize (bv (s1 q)).toNat = c1 at *
  generalize (bv (s2 q)).toNat = c2 at *
  generalize (bv (s3 q)).toNat = c3 at *
  generalize (bv (carry q.a3 0#64 (s3 q))).toNat = c4 at *
  generalize hN : q.a0.toNat + 18446744073709551616 * q.a1.toNat + 340282366920938463463374607431768211456 * q.a2.toNat + 6277101735386680763835789423207666416102355444464034512896 * q.a3.toNat = N at *
  have hmod : N % PP = N - PP := by
    rw [Nat.mod_eq_sub_mod (by rw [PP_eq] at *; omega)]
    exact Nat.mod_eq_of_lt (by rw [PP_eq] at *; omega)
  rw [hmod]
  rw [PP_eq] at *
  omega
theorem and_top (x : BitVec 64) : bits .and .u64 (un x) 9223372036854775807 = un (x &&& 9223372036854775807#64) := UV.u_and x 9223372036854775807#64
theorem zero_test (x : BitVec 64) (h : (un x / 9223372036854775808 == 0) = true) : un x / 9223372036854775808 = 0 := by simpa using h
theorem zero_test' (x : BitVec 64) (h : (un x / 9223372036854775808 == 0) = false) : un x / 9223372036854775808 ≠ 0 := by simpa using h

set_option maxHeartbeats 400000 in
theorem settle_any (q : Q) (h : q.num < 2 * PP) (w : World) :
    Calls Tryd.prog 106 #[.int .u64 (un q.a0), .int .u64 (un q.a1), .int .u64 (un q.a2), .int .u64 (un q.a3)] w fun e w' => ∃ r : Q, e = .returned (.agg r.cells) ∧ r.num = q.num % PP ∧ Below w.heap.size w w' := by
  have HH : Hid _ := h
  clear h
  cases ht : (un (q.a3 + bv (s3 q)) / 9223372036854775808 == 0) with
  | true =>
    have HT : Hid _ := zero_test _ ht
    unfold s3 s2 s1 at ht
    go_enter Tryd.func106, Tryd.ntmps106
    go_wp2_with fail
    refine Own.ret_row Tryd.results106 rfl w.heap.size 89 q.cells (0, 0) _ rfl (heap_alloc_new _ _) Tryd.underlying89 rfl (by kernel_rfl) ⟨q, rfl, (settle_low q HH.out HT.out).symm, (Below.refl _ _).alloc (Nat.le_refl _) _⟩
  | false =>
    have HT : Hid _ := zero_test' _ ht
    have ha := and_top (q.a3 + bv (s3 q))
    unfold s3 s2 s1 at ht ha
    go_enter Tryd.func106, Tryd.ntmps106
    go_wp2_with fail
    refine Own.ret_row Tryd.results106 rfl w.heap.size 89 (Q.mk (q.a0 + 19#64 + bv false) (q.a1 + bv (s1 q)) (q.a2 + bv (s2 q)) ((q.a3 + bv (s3 q)) &&& 9223372036854775807#64)).cells (0, 0) _ rfl (heap_alloc_new _ _) Tryd.underlying89 rfl (by kernel_rfl) ⟨_, rfl, settle_high q HH.out HT.out, (Below.refl _ _).alloc (Nat.le_refl _) _⟩
end Fw
end Go.Proofs.YtbojijefenfbgaaDoor
