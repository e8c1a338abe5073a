/- Walks of the program's field: settle, Add, Sub, Neg, addRow, Mul. Walks of the program's field: Add, Sub, Neg. Walks of the program's field: addRow, Mul. The arithmetic of the program's Mul: rows of words, what stands beyond bit 255 brought back 19 times. -/
import Derived.Test.YtbojijefenfbgaaGreatDoorGgQFloat
import Derived.Test.YtbojijefenfbgaaGreatDoorGgOwn
import Derived.BigQuiet
namespace Go.Proofs.YtbojijefenfbgaaGreatDoor
open Go.RowKit
namespace Fw
open Bt
theorem run_Add64_xy0 (x y : BitVec 64) (w : World) : Sem.run Tryz.prog (callFunc 243 #[.int .u64 (un x), .int .u64 (un y), .int .u64 0]) w = .ok (.value (.tuple #[.int .u64 (un (x + y + bv false)), .int .u64 (un (bv (carry x y false)))])) w := run_Add64 x y false w
theorem run_Add64_19 (x : BitVec 64) (w : World) : Sem.run Tryz.prog (callFunc 243 #[.int .u64 (un x), .int .u64 19, .int .u64 0]) w = .ok (.value (.tuple #[.int .u64 (un (x + 19#64 + bv false)), .int .u64 (un (bv (carry x 19#64 false)))])) w := run_Add64 x 19#64 false w
theorem run_Add64_0c (x : BitVec 64) (b : Bool) (w : World) : Sem.run Tryz.prog (callFunc 243 #[.int .u64 (un x), .int .u64 0, .int .u64 (un (bv b))]) w = .ok (.value (.tuple #[.int .u64 (un (x + 0#64 + bv b)), .int .u64 (un (bv (carry x 0#64 b)))])) w := run_Add64 x 0#64 b w
theorem run_Sub64_xy0 (x y : BitVec 64) (w : World) : Sem.run Tryz.prog (callFunc 235 #[.int .u64 (un x), .int .u64 (un y), .int .u64 0]) w = .ok (.value (.tuple #[.int .u64 (un (x - y - bv false)), .int .u64 (un (bv (borrow x y false)))])) w := run_Sub64 x y false w
theorem run_Sub64_0c (x : BitVec 64) (b : Bool) (w : World) : Sem.run Tryz.prog (callFunc 235 #[.int .u64 (un x), .int .u64 0, .int .u64 (un (bv b))]) w = .ok (.value (.tuple #[.int .u64 (un (x - 0#64 - bv b)), .int .u64 (un (bv (borrow x 0#64 b)))])) w := run_Sub64 x 0#64 b w
attribute [local go_sem] run_Add64_xy0 run_Add64_19 run_Add64_0c run_Sub64_xy0 run_Sub64_0c
attribute [local go_sem] UV.u_add UV.u_mul UV.u_sub UV.u_xor UV.u_and UV.u_or UV.u_shr UV.u_shl UV.u_not UV.u_notm UV.u_wrap_un run_Add64 run_Sub64
structure Q where
 a0 : BitVec 64
 a1 : BitVec 64
 a2 : BitVec 64
 a3 : BitVec 64
def Q.cells (q : Q) : Array Value := #[.int .u64 (un q.a0), .int .u64 (un q.a1), .int .u64 (un q.a2), .int .u64 (un q.a3)]
def Q.num (q : Q) : Nat := q.a0.toNat + 18446744073709551616 * q.a1.toNat + 340282366920938463463374607431768211456 * q.a2.toNat + 6277101735386680763835789423207666416102355444464034512896 * q.a3.toNat
abbrev PP : Nat := 57896044618658097711785492504343953926634992332820282019728792003956564819949
theorem PP_eq : PP = 57896044618658097711785492504343953926634992332820282019728792003956564819949 := rfl
theorem Q.cells_one (q : Q) : q.cells.all (·.oneCell') = true := by simp [Q.cells, Value.oneCell']
def s1 (q : Q) : Bool := carry q.a0 19#64 false
def s2 (q : Q) : Bool := carry q.a1 0#64 (s1 q)
def s3 (q : Q) : Bool := carry q.a2 0#64 (s2 q)
theorem settle_low (q : Q) (h : q.num < 2 * PP) (ht : un (q.a3 + bv (s3 q)) / 9223372036854775808 = 0) : q.num % PP = q.num := by
 have v0 := add_val q.a0 19#64 false
 have v1 := add_val q.a1 0#64 (s1 q)
 have v2 := add_val q.a2 0#64 (s2 q)
 have v3 := add_val q.a3 0#64 (s3 q)
 simp only [BitVec.add_zero] at v1 v2 v3
 have b3 := bv_le (carry q.a3 0#64 (s3 q))
 have l0 := (q.a0 + 19#64 + bv false).isLt
 have l1 := (q.a1 + bv (s1 q)).isLt
 have l2 := (q.a2 + bv (s2 q)).isLt
 unfold un at ht
 rw [show carry q.a0 19#64 false = s1 q from rfl] at v0
 rw [show carry q.a1 0#64 (s1 q) = s2 q from rfl] at v1
 rw [show carry q.a2 0#64 (s2 q) = s3 q from rfl] at v2
 rw [show (19#64).toNat = 19 from rfl, show (bv false).toNat = 0 from rfl] at v0
 rw [show (0#64).toNat = 0 from rfl] at v1 v2 v3
 unfold Q.num at *
 generalize (q.a0 + 19#64 + bv false).toNat = t0 at *
 generalize (q.a1 + bv (s1 q)).toNat = t1 at *
 generalize (q.a2 + bv (s2 q)).toNat = t2 at *
 generalize (q.a3 + bv (s3 q)).toNat = t3 at *
 generalize (bv (s1 q)).toNat = c1 at *
 generalize (bv (s2 q)).toNat = c2 at *
 generalize (bv (s3 q)).toNat = c3 at *
 generalize (bv (carry q.a3 0#64 (s3 q))).toNat = c4 at *
 apply Nat.mod_eq_of_lt
 rw [PP_eq] at *
 omega
theorem settle_high (q : Q) (h : q.num < 2 * PP) (ht : un (q.a3 + bv (s3 q)) / 9223372036854775808 ≠ 0) :
  (Q.mk (q.a0 + 19#64 + bv false) (q.a1 + bv (s1 q)) (q.a2 + bv (s2 q)) ((q.a3 + bv (s3 q)) &&& 9223372036854775807#64)).num = q.num % PP := by
 have v0 := add_val q.a0 19#64 false
 have v1 := add_val q.a1 0#64 (s1 q)
 have v2 := add_val q.a2 0#64 (s2 q)
 have v3 := add_val q.a3 0#64 (s3 q)
 simp only [BitVec.add_zero] at v1 v2 v3
 have b3 := bv_le (carry q.a3 0#64 (s3 q))
 have l0 := (q.a0 + 19#64 + bv false).isLt
 have l1 := (q.a1 + bv (s1 q)).isLt
 have l2 := (q.a2 + bv (s2 q)).isLt
 have l3 := (q.a3 + bv (s3 q)).isLt
 have hm : ((q.a3 + bv (s3 q)) &&& 9223372036854775807#64).toNat = (q.a3 + bv (s3 q)).toNat % 9223372036854775808 := by
  rw [BitVec.toNat_and]
  exact Nat.and_two_pow_sub_one_eq_mod _ 63
 unfold un at ht
 rw [show carry q.a0 19#64 false = s1 q from rfl] at v0
 rw [show carry q.a1 0#64 (s1 q) = s2 q from rfl] at v1
 rw [show carry q.a2 0#64 (s2 q) = s3 q from rfl] at v2
 rw [show (19#64).toNat = 19 from rfl, show (bv false).toNat = 0 from rfl] at v0
 rw [show (0#64).toNat = 0 from rfl] at v1 v2 v3
 unfold Q.num at *
 simp only [hm]
 generalize (q.a0 + 19#64 + bv false).toNat = t0 at *
 generalize (q.a1 + bv (s1 q)).toNat = t1 at *
 generalize (q.a2 + bv (s2 q)).toNat = t2 at *
 generalize (q.a3 + bv (s3 q)).toNat = t3 at *
 generalize (bv (s1 q)).toNat = c1 at *
 generalize (bv (s2 q)).toNat = c2 at *
 generalize (bv (s3 q)).toNat = c3 at *
 generalize (bv (carry q.a3 0#64 (s3 q))).toNat = c4 at *
 generalize hN : q.a0.toNat + 18446744073709551616 * q.a1.toNat + 340282366920938463463374607431768211456 * q.a2.toNat + 6277101735386680763835789423207666416102355444464034512896 * q.a3.toNat = N at *
 have hmod : N % PP = N - PP := by
  rw [Nat.mod_eq_sub_mod (by rw [PP_eq] at *; omega)]
  exact Nat.mod_eq_of_lt (by rw [PP_eq] at *; omega)
 rw [hmod]
 rw [PP_eq] at *
 omega
theorem and_top (x : BitVec 64) : bits .and .u64 (un x) 9223372036854775807 = un (x &&& 9223372036854775807#64) := UV.u_and x 9223372036854775807#64
theorem zero_test (x : BitVec 64) (h : (un x / 9223372036854775808 == 0) = true) : un x / 9223372036854775808 = 0 := by simpa using h
theorem zero_test' (x : BitVec 64) (h : (un x / 9223372036854775808 == 0) = false) : un x / 9223372036854775808 ≠ 0 := by simpa using h
set_option maxHeartbeats 400000 in
theorem settle_any (q : Q) (h : q.num < 2 * PP) (w : World) :
  Calls Tryz.prog 244 #[.int .u64 (un q.a0), .int .u64 (un q.a1), .int .u64 (un q.a2), .int .u64 (un q.a3)] w fun e w' => ∃ r : Q, e = .returned (.agg r.cells) ∧ r.num = q.num % PP ∧ Below w.heap.size w w' := by
 have HH : Hid _ := h
 clear h
 cases ht : (un (q.a3 + bv (s3 q)) / 9223372036854775808 == 0) with
 | true =>
  have HT : Hid _ := zero_test _ ht
  unfold s3 s2 s1 at ht
  go_enter Tryz.func244, Tryz.ntmps244
  go_wp2_with fail
  refine Own.ret_row Tryz.results244 rfl w.heap.size 161 q.cells (0, 0) _ rfl (heap_alloc_new _ _) Tryz.underlying161 rfl (by kernel_rfl) ⟨q, rfl, (settle_low q HH.out HT.out).symm, (Below.refl _ _).alloc (Nat.le_refl _) _⟩
 | false =>
  have HT : Hid _ := zero_test' _ ht
  have ha := and_top (q.a3 + bv (s3 q))
  unfold s3 s2 s1 at ht ha
  go_enter Tryz.func244, Tryz.ntmps244
  go_wp2_with fail
  refine Own.ret_row Tryz.results244 rfl w.heap.size 161 (Q.mk (q.a0 + 19#64 + bv false) (q.a1 + bv (s1 q)) (q.a2 + bv (s2 q)) ((q.a3 + bv (s3 q)) &&& 9223372036854775807#64)).cells (0, 0) _ rfl (heap_alloc_new _ _) Tryz.underlying161 rfl (by kernel_rfl) ⟨_, rfl, settle_high q HH.out HT.out, (Below.refl _ _).alloc (Nat.le_refl _) _⟩
end Fw
end Go.Proofs.YtbojijefenfbgaaGreatDoor
namespace Go.Proofs.YtbojijefenfbgaaGreatDoor
open Go.RowKit
namespace Fw
open Bt
attribute [local go_sem] run_Add64_xy0 run_Add64_19 run_Add64_0c run_Sub64_xy0 run_Sub64_0c
attribute [local go_sem] UV.u_add UV.u_mul UV.u_sub UV.u_xor UV.u_and UV.u_or UV.u_shr UV.u_shl UV.u_not UV.u_notm UV.u_wrap_un run_Add64 run_Sub64
def wordZero : Array Value := #[.int .u64 0, .int .u64 0, .int .u64 0, .int .u64 0]
theorem below_setRow (w : World) (g : Nat) (cs : Array Value) : Below g w (w.setRow g cs) :=
 ⟨rfl, rfl, rfl, by simp [World.setRow], fun k hk => by show (Array.modify _ _ _)[k]? = _; rw [Array.getElem?_modify, if_neg (by omega)]⟩
def k1 (a b : Q) : Bool := carry a.a0 b.a0 false
def k2 (a b : Q) : Bool := carry a.a1 b.a1 (k1 a b)
def k3 (a b : Q) : Bool := carry a.a2 b.a2 (k2 a b)
def addQ (a b : Q) : Q := ⟨a.a0 + b.a0 + bv false, a.a1 + b.a1 + bv (k1 a b), a.a2 + b.a2 + bv (k2 a b), a.a3 + b.a3 + bv (k3 a b)⟩
theorem addQ_num (a b : Q) (ha : a.num < PP) (hb : b.num < PP) : (addQ a b).num = a.num + b.num := by
 have v0 := add_val a.a0 b.a0 false
 have v1 := add_val a.a1 b.a1 (k1 a b)
 have v2 := add_val a.a2 b.a2 (k2 a b)
 have v3 := add_val a.a3 b.a3 (k3 a b)
 rw [show carry a.a0 b.a0 false = k1 a b from rfl, show (bv false).toNat = 0 from rfl] at v0
 rw [show carry a.a1 b.a1 (k1 a b) = k2 a b from rfl] at v1
 rw [show carry a.a2 b.a2 (k2 a b) = k3 a b from rfl] at v2
 unfold Q.num addQ at *
 simp only at *
 generalize (a.a0 + b.a0 + bv false).toNat = t0 at *
 generalize (a.a1 + b.a1 + bv (k1 a b)).toNat = t1 at *
 generalize (a.a2 + b.a2 + bv (k2 a b)).toNat = t2 at *
 generalize (a.a3 + b.a3 + bv (k3 a b)).toNat = t3 at *
 generalize (bv (k1 a b)).toNat = c1 at *
 generalize (bv (k2 a b)).toNat = c2 at *
 generalize (bv (k3 a b)).toNat = c3 at *
 generalize (bv (carry a.a3 b.a3 (k3 a b))).toNat = c4 at *
 rw [PP_eq] at *
 omega
set_option maxHeartbeats 400000 in
theorem add_any (a b : Q) (ha : a.num < PP) (hb : b.num < PP) (w : World) :
  Calls Tryz.prog 229 #[.agg a.cells, .agg b.cells] w fun e w' => ∃ r : Q, e = .returned (.agg r.cells) ∧ r.num = (a.num + b.num) % PP ∧ Below w.heap.size w w' := by
 have HN : Hid _ := addQ_num a b ha hb
 have HS : Hid ((addQ a b).num < 2 * PP) := by show _ < _; rw [HN.out]; omega
 clear ha hb
 unfold Q.cells
 go_enter Tryz.func229, Tryz.ntmps229
 go_wp2_with fail
 refine (settle_any (addQ a b) HS.out _).mono ?_
 rintro e w1 ⟨r, rfl, hr, hb⟩
 have HR : Hid _ := hr
 have HB : Hid _ := hb
 clear hr hb
 have HG : Hid (w1.heap[w.heap.size + 1 + 1]? = some (.cells wordZero 161 (0, 0))) := (HB.out.block _ (by simp)).trans (by
  have := heap_alloc_new ((w.alloc (.cells a.cells 161)).alloc (.cells b.cells 161)) (.cells wordZero 161)
  simp only [World.size_alloc] at this
  exact this)
 go_wp2_with (refine wpList_store_row rfl 161 _ _ rfl (w.heap.size + 1 + 1) r.cells rfl rfl 161 wordZero HG.out (by kernel_rfl) rfl r.cells_one ?_)
 refine Own.ret_row Tryz.results229 rfl (w.heap.size + 1 + 1) 161 r.cells (0, 0) _ rfl (setRow_heap _ _ _ _ _ _ HG.out) Tryz.underlying161 rfl (by kernel_rfl) ⟨r, rfl, by rw [HR.out, HN.out], ?_⟩
 have h3 : Below w.heap.size w (((w.alloc (.cells a.cells 161)).alloc (.cells b.cells 161)).alloc (.cells wordZero 161)) := (((Below.refl _ _).alloc (Nat.le_refl _) _).alloc (by simp) _).alloc (by simp; omega) _
 exact (h3.trans (HB.out.mono h3.size)).trans ((below_setRow _ _ _).mono (by omega))
def m1 (a b : Q) : Bool := borrow a.a0 b.a0 false
def m2 (a b : Q) : Bool := borrow a.a1 b.a1 (m1 a b)
def m3 (a b : Q) : Bool := borrow a.a2 b.a2 (m2 a b)
def m4 (a b : Q) : Bool := borrow a.a3 b.a3 (m3 a b)
def d0 (a b : Q) : BitVec 64 := a.a0 - b.a0 - bv false
def d1 (a b : Q) : BitVec 64 := a.a1 - b.a1 - bv (m1 a b)
def d2 (a b : Q) : BitVec 64 := a.a2 - b.a2 - bv (m2 a b)
def d3 (a b : Q) : BitVec 64 := a.a3 - b.a3 - bv (m3 a b)
def n1 (a b : Q) : Bool := borrow (d0 a b) (19#64 * bv (m4 a b)) false
def n2 (a b : Q) : Bool := borrow (d1 a b) 0#64 (n1 a b)
def n3 (a b : Q) : Bool := borrow (d2 a b) 0#64 (n2 a b)
def subQ (a b : Q) : Q := ⟨d0 a b - 19#64 * bv (m4 a b) - bv false, d1 a b - bv (n1 a b), d2 a b - bv (n2 a b), (d3 a b - bv (n3 a b)) &&& 9223372036854775807#64⟩
theorem mul19 (b : Bool) : (19#64 * bv b).toNat = 19 * (bv b).toNat := by cases b <;> rfl
theorem sub_chain (t0 t1 t2 t3 b0 b1 b2 b3 a0 a1 a2 a3 c0 c1 c2 c3 c4 : Nat) (v0 : t0 + b0 + c0 = a0 + 18446744073709551616 * c1) (v1 : t1 + b1 + c1 = a1 + 18446744073709551616 * c2) (v2 : t2 + b2 + c2 = a2 + 18446744073709551616 * c3) (v3 : t3 + b3 + c3 = a3 + 18446744073709551616 * c4) :
  (t0 + 18446744073709551616 * t1 + 340282366920938463463374607431768211456 * t2 + 6277101735386680763835789423207666416102355444464034512896 * t3) + (b0 + 18446744073709551616 * b1 + 340282366920938463463374607431768211456 * b2 + 6277101735386680763835789423207666416102355444464034512896 * b3) + c0
  = (a0 + 18446744073709551616 * a1 + 340282366920938463463374607431768211456 * a2 + 6277101735386680763835789423207666416102355444464034512896 * a3) + 115792089237316195423570985008687907853269984665640564039457584007913129639936 * c4 := by omega
theorem sub_end (A B T E e3 c4 f4 low : Nat) (hA : A < PP) (hB : B < PP) (hT : T + B + 0 = A + 115792089237316195423570985008687907853269984665640564039457584007913129639936 * c4) (hT2 : T < 115792089237316195423570985008687907853269984665640564039457584007913129639936) (hc : c4 ≤ 1)
  (hE : E + 19 * c4 + 0 = T + 115792089237316195423570985008687907853269984665640564039457584007913129639936 * f4) (hE2 : E = low + 6277101735386680763835789423207666416102355444464034512896 * e3) (hl : low < 6277101735386680763835789423207666416102355444464034512896) (he : e3 < 18446744073709551616) :
  low + 6277101735386680763835789423207666416102355444464034512896 * (e3 % 9223372036854775808) = (A + PP - B) % PP := by
 rcases Nat.lt_or_ge A B with hlt | hge
 ·have hmod : (A + PP - B) % PP = A + PP - B := Nat.mod_eq_of_lt (by omega)
  rw [hmod]
  rw [PP_eq] at *
  have h1 : c4 = 1 := by omega
  subst h1
  have hf : f4 = 0 := by omega
  subst hf
  omega
 ·have hmod : (A + PP - B) % PP = A - B := by
   rw [show A + PP - B = (A - B) + PP by omega, Nat.add_mod_right]
   exact Nat.mod_eq_of_lt (by omega)
  rw [hmod]
  rw [PP_eq] at *
  have h1 : c4 = 0 := by omega
  subst h1
  have hf : f4 = 0 := by omega
  subst hf
  omega
theorem subQ_num (a b : Q) (ha : a.num < PP) (hb : b.num < PP) : (subQ a b).num = (a.num + PP - b.num) % PP := by
 have v0 : (d0 a b).toNat + b.a0.toNat + 0 = a.a0.toNat + 18446744073709551616 * (bv (m1 a b)).toNat := sub_val a.a0 b.a0 false
 have v1 : (d1 a b).toNat + b.a1.toNat + (bv (m1 a b)).toNat = a.a1.toNat + 18446744073709551616 * (bv (m2 a b)).toNat := sub_val a.a1 b.a1 (m1 a b)
 have v2 : (d2 a b).toNat + b.a2.toNat + (bv (m2 a b)).toNat = a.a2.toNat + 18446744073709551616 * (bv (m3 a b)).toNat := sub_val a.a2 b.a2 (m2 a b)
 have v3 : (d3 a b).toNat + b.a3.toNat + (bv (m3 a b)).toNat = a.a3.toNat + 18446744073709551616 * (bv (m4 a b)).toNat := sub_val a.a3 b.a3 (m3 a b)
 have w0 : (d0 a b - 19#64 * bv (m4 a b) - bv false).toNat + (19#64 * bv (m4 a b)).toNat + 0 = (d0 a b).toNat + 18446744073709551616 * (bv (n1 a b)).toNat := sub_val (d0 a b) _ false
 have w1 := sub_val (d1 a b) 0#64 (n1 a b)
 have w2 := sub_val (d2 a b) 0#64 (n2 a b)
 have w3 := sub_val (d3 a b) 0#64 (n3 a b)
 rw [mul19] at w0
 simp only [BitVec.sub_zero] at w1 w2 w3
 rw [show borrow (d1 a b) 0#64 (n1 a b) = n2 a b from rfl, show (0#64).toNat = 0 from rfl] at w1
 rw [show borrow (d2 a b) 0#64 (n2 a b) = n3 a b from rfl, show (0#64).toNat = 0 from rfl] at w2
 rw [show (0#64).toNat = 0 from rfl] at w3
 have hm : ((d3 a b - bv (n3 a b)) &&& 9223372036854775807#64).toNat = (d3 a b - bv (n3 a b)).toNat % 9223372036854775808 := by
  rw [BitVec.toNat_and]
  exact Nat.and_two_pow_sub_one_eq_mod _ 63
 have b4 := bv_le (m4 a b)
 have hT := sub_chain _ _ _ _ _ _ _ _ _ _ _ _ _ _ _ _ _ v0 v1 v2 v3
 have hE := sub_chain _ _ _ _ _ _ _ _ _ _ _ _ _ _ _ _ _ w0 w1 w2 w3
 have l0 := (d0 a b).isLt
 have l1 := (d1 a b).isLt
 have l2 := (d2 a b).isLt
 have l3 := (d3 a b).isLt
 have g0 := (d0 a b - 19#64 * bv (m4 a b) - bv false).isLt
 have g1 := (d1 a b - bv (n1 a b)).isLt
 have g2 := (d2 a b - bv (n2 a b)).isLt
 have g3 := (d3 a b - bv (n3 a b)).isLt
 clear v0 v1 v2 v3 w0 w1 w2 w3
 unfold subQ
 show _ + _ + _ + _ * ((d3 a b - bv (n3 a b)) &&& 9223372036854775807#64).toNat = _
 rw [hm]
 refine sub_end a.num b.num _ _ (d3 a b - bv (n3 a b)).toNat _ _ _ ha hb hT ?_ b4 (by simpa using hE) rfl ?_ g3
 ·clear hT hE hm ha hb
  omega
 ·clear hT hE hm ha hb
  omega
theorem u_mul19 (x : BitVec 64) : IntKind.u64.wrap (19 * un x) = un (19#64 * x) := UV.u_mul 19#64 x
attribute [local go_sem] u_mul19
set_option maxHeartbeats 400000 in
theorem sub_any (a b : Q) (ha : a.num < PP) (hb : b.num < PP) (w : World) :
  Calls Tryz.prog 226 #[.agg a.cells, .agg b.cells] w fun e w' => ∃ r : Q, e = .returned (.agg r.cells) ∧ r.num = (a.num + PP - b.num) % PP ∧ Below w.heap.size w w' := by
 have HN : Hid _ := subQ_num a b ha hb
 have hand := and_top (d3 a b - bv (n3 a b))
 unfold d3 n3 n2 n1 d2 d1 d0 m4 m3 m2 m1 at hand
 clear ha hb
 unfold Q.cells
 go_enter Tryz.func226, Tryz.ntmps226
 go_wp2_with fail
 refine Own.ret_row Tryz.results226 rfl (w.heap.size + 1 + 1) 161 (subQ a b).cells (0, 0) _ rfl (by
  have := heap_alloc_new ((w.alloc (.cells a.cells 161)).alloc (.cells b.cells 161)) (.cells (subQ a b).cells 161)
  simp only [World.size_alloc] at this
  exact this) Tryz.underlying161 rfl (by kernel_rfl) ⟨subQ a b, rfl, HN.out, ?_⟩
 exact (((Below.refl _ _).alloc (Nat.le_refl _) _).alloc (by simp) _).alloc (by simp; omega) _
end Fw
end Go.Proofs.YtbojijefenfbgaaGreatDoor
namespace Go.Proofs.YtbojijefenfbgaaGreatDoor
open Go.RowKit
namespace Fw
open Bt
attribute [local go_sem] run_Add64_xy0 run_Add64_19 run_Add64_0c run_Sub64_xy0 run_Sub64_0c
attribute [local go_sem] UV.u_add UV.u_mul UV.u_sub UV.u_xor UV.u_and UV.u_or UV.u_shr UV.u_shl UV.u_not UV.u_notm UV.u_wrap_un run_Add64 run_Sub64 u_mul19
def g1 (p a : Q) (n : BitVec 64) : Bool := carry p.a0 (a.a0 * n) false
def g2 (p a : Q) (n : BitVec 64) : Bool := carry p.a1 (a.a1 * n) (g1 p a n)
def g3 (p a : Q) (n : BitVec 64) : Bool := carry p.a2 (a.a2 * n) (g2 p a n)
def g4 (p a : Q) (n : BitVec 64) : Bool := carry p.a3 (a.a3 * n) (g3 p a n)
def u1 (p a : Q) (n : BitVec 64) : BitVec 64 := p.a1 + a.a1 * n + bv (g1 p a n)
def u2 (p a : Q) (n : BitVec 64) : BitVec 64 := p.a2 + a.a2 * n + bv (g2 p a n)
def u3 (p a : Q) (n : BitVec 64) : BitVec 64 := p.a3 + a.a3 * n + bv (g3 p a n)
def h1 (p a : Q) (n : BitVec 64) : Bool := carry (u1 p a n) (mulH a.a0 n) false
def h2 (p a : Q) (n : BitVec 64) : Bool := carry (u2 p a n) (mulH a.a1 n) (h1 p a n)
def h3 (p a : Q) (n : BitVec 64) : Bool := carry (u3 p a n) (mulH a.a2 n) (h2 p a n)
def r0 (p a : Q) (n : BitVec 64) : BitVec 64 := p.a0 + a.a0 * n + bv false
def r1 (p a : Q) (n : BitVec 64) : BitVec 64 := u1 p a n + mulH a.a0 n + bv false
def r2 (p a : Q) (n : BitVec 64) : BitVec 64 := u2 p a n + mulH a.a1 n + bv (h1 p a n)
def r3 (p a : Q) (n : BitVec 64) : BitVec 64 := u3 p a n + mulH a.a2 n + bv (h2 p a n)
def r4 (p a : Q) (n : BitVec 64) : BitVec 64 := mulH a.a3 n + bv (g4 p a n) + bv (h3 p a n)
set_option maxHeartbeats 400000 in
theorem addRow_any (p a : Q) (n : BitVec 64) (w : World) :
  Calls Tryz.prog 242 #[.int .u64 (un p.a0), .int .u64 (un p.a1), .int .u64 (un p.a2), .int .u64 (un p.a3), .int .u64 (un a.a0), .int .u64 (un a.a1), .int .u64 (un a.a2), .int .u64 (un a.a3), .int .u64 (un n)] w
   fun e w' => e = .returned (.tuple #[.int .u64 (un (r0 p a n)), .int .u64 (un (r1 p a n)), .int .u64 (un (r2 p a n)), .int .u64 (un (r3 p a n)), .int .u64 (un (r4 p a n))]) ∧ w' = w := by
 go_enter Tryz.func242, Tryz.ntmps242
 go_wp2_with (go_at_call 274; refine (mul64_any _ _ _).mono ?_; rintro e w' ⟨rfl, rfl⟩)
 refine bodyPost_ret (v := .tuple #[.int .u64 (un (r0 p a n)), .int .u64 (un (r1 p a n)), .int .u64 (un (r2 p a n)), .int .u64 (un (r3 p a n)), .int .u64 (un (r4 p a n))]) (by simp [results, Tryz.results242, go_sem, r0, r1, r2, r3, r4, u1, u2, u3, g1, g2, g3, g4, h1, h2, h3]) rfl ⟨rfl, rfl⟩
theorem add_chain (t0 t1 t2 t3 b0 b1 b2 b3 a0 a1 a2 a3 c0 c1 c2 c3 c4 : Nat) (v0 : t0 + 18446744073709551616 * c1 = a0 + b0 + c0) (v1 : t1 + 18446744073709551616 * c2 = a1 + b1 + c1) (v2 : t2 + 18446744073709551616 * c3 = a2 + b2 + c2) (v3 : t3 + 18446744073709551616 * c4 = a3 + b3 + c3) :
  (t0 + 18446744073709551616 * t1 + 340282366920938463463374607431768211456 * t2 + 6277101735386680763835789423207666416102355444464034512896 * t3) + 115792089237316195423570985008687907853269984665640564039457584007913129639936 * c4 = (a0 + 18446744073709551616 * a1 + 340282366920938463463374607431768211456 * a2 + 6277101735386680763835789423207666416102355444464034512896 * a3) + (b0 + 18446744073709551616 * b1 + 340282366920938463463374607431768211456 * b2 + 6277101735386680763835789423207666416102355444464034512896 * b3) + c0 := by omega
theorem add_chain3 (t1 t2 t3 b1 b2 b3 a1 a2 a3 c0 c1 c2 c3 : Nat) (v1 : t1 + 18446744073709551616 * c1 = a1 + b1 + c0) (v2 : t2 + 18446744073709551616 * c2 = a2 + b2 + c1) (v3 : t3 + 18446744073709551616 * c3 = a3 + b3 + c2) :
  (18446744073709551616 * t1 + 340282366920938463463374607431768211456 * t2 + 6277101735386680763835789423207666416102355444464034512896 * t3) + 115792089237316195423570985008687907853269984665640564039457584007913129639936 * c3 = (18446744073709551616 * a1 + 340282366920938463463374607431768211456 * a2 + 6277101735386680763835789423207666416102355444464034512896 * a3) + (18446744073709551616 * b1 + 340282366920938463463374607431768211456 * b2 + 6277101735386680763835789423207666416102355444464034512896 * b3) + 18446744073709551616 * c0 := by omega
theorem num_mul (a : Q) (n : Nat) : a.num * n = a.a0.toNat * n + 18446744073709551616 * (a.a1.toNat * n) + 340282366920938463463374607431768211456 * (a.a2.toNat * n) + 6277101735386680763835789423207666416102355444464034512896 * (a.a3.toNat * n) := by
 unfold Q.num
 rw [Nat.add_mul, Nat.add_mul, Nat.add_mul, Nat.mul_assoc, Nat.mul_assoc, Nat.mul_assoc]
theorem num_lt (a : Q) : a.num < 115792089237316195423570985008687907853269984665640564039457584007913129639936 := by
 have h0 := a.a0.isLt
 have h1 := a.a1.isLt
 have h2 := a.a2.isLt
 have h3 := a.a3.isLt
 unfold Q.num
 omega
def row5 (p a : Q) (n : BitVec 64) : Nat := (r0 p a n).toNat + 18446744073709551616 * (r1 p a n).toNat + 340282366920938463463374607431768211456 * (r2 p a n).toNat + 6277101735386680763835789423207666416102355444464034512896 * (r3 p a n).toNat + 115792089237316195423570985008687907853269984665640564039457584007913129639936 * (r4 p a n).toNat
theorem row_end (R U L H N T p an c4 d3 h3 r4 R3 : Nat) (e1 : U + 115792089237316195423570985008687907853269984665640564039457584007913129639936 * c4 = p + L + 0) (e2 : R3 + 115792089237316195423570985008687907853269984665640564039457584007913129639936 * d3 = T + H + 0) (e3 : L + H + 115792089237316195423570985008687907853269984665640564039457584007913129639936 * h3 = an) (e4 : U = N + T) (hR : R = N + R3) (hb : p + an < 115792089237316195423570985008687907853269984665640564039457584007913129639936 * 18446744073709551616) (hr : r4 = (h3 + c4 + d3) % 18446744073709551616) :
  R + 115792089237316195423570985008687907853269984665640564039457584007913129639936 * r4 = p + an := by
 have hs : R + 115792089237316195423570985008687907853269984665640564039457584007913129639936 * (h3 + c4 + d3) = p + an := by omega
 have hlt : h3 + c4 + d3 < 18446744073709551616 := by omega
 rw [hr, Nat.mod_eq_of_lt hlt]
 exact hs
theorem row5_num (p a : Q) (n : BitVec 64) : row5 p a n = p.num + a.num * n.toNat := by
 have v0 : (r0 p a n).toNat + 18446744073709551616 * (bv (g1 p a n)).toNat = p.a0.toNat + (a.a0 * n).toNat + 0 := add_val p.a0 (a.a0 * n) false
 have v1 : (u1 p a n).toNat + 18446744073709551616 * (bv (g2 p a n)).toNat = p.a1.toNat + (a.a1 * n).toNat + (bv (g1 p a n)).toNat := add_val p.a1 (a.a1 * n) (g1 p a n)
 have v2 : (u2 p a n).toNat + 18446744073709551616 * (bv (g3 p a n)).toNat = p.a2.toNat + (a.a2 * n).toNat + (bv (g2 p a n)).toNat := add_val p.a2 (a.a2 * n) (g2 p a n)
 have v3 : (u3 p a n).toNat + 18446744073709551616 * (bv (g4 p a n)).toNat = p.a3.toNat + (a.a3 * n).toNat + (bv (g3 p a n)).toNat := add_val p.a3 (a.a3 * n) (g3 p a n)
 have w1 : (r1 p a n).toNat + 18446744073709551616 * (bv (h1 p a n)).toNat = (u1 p a n).toNat + (mulH a.a0 n).toNat + 0 := add_val (u1 p a n) (mulH a.a0 n) false
 have w2 : (r2 p a n).toNat + 18446744073709551616 * (bv (h2 p a n)).toNat = (u2 p a n).toNat + (mulH a.a1 n).toNat + (bv (h1 p a n)).toNat := add_val (u2 p a n) (mulH a.a1 n) (h1 p a n)
 have w3 : (r3 p a n).toNat + 18446744073709551616 * (bv (h3 p a n)).toNat = (u3 p a n).toNat + (mulH a.a2 n).toNat + (bv (h2 p a n)).toNat := add_val (u3 p a n) (mulH a.a2 n) (h2 p a n)
 have x0 := mul_val a.a0 n
 have x1 := mul_val a.a1 n
 have x2 := mul_val a.a2 n
 have x3 := mul_val a.a3 n
 have e1 := add_chain _ _ _ _ _ _ _ _ _ _ _ _ _ _ _ _ _ v0 v1 v2 v3
 have e2 := add_chain3 _ _ _ _ _ _ _ _ _ _ _ _ _ w1 w2 w3
 have hr4 : (r4 p a n).toNat = ((mulH a.a3 n).toNat + (bv (g4 p a n)).toNat + (bv (h3 p a n)).toNat) % 18446744073709551616 := by
  unfold r4
  rw [BitVec.toNat_add, BitVec.toNat_add]
  omega
 have hb : p.num + a.num * n.toNat < 115792089237316195423570985008687907853269984665640564039457584007913129639936 * 18446744073709551616 := by
  have hp := num_lt p
  have ha := num_lt a
  have hn := n.isLt
  have hm : a.num * n.toNat ≤ (115792089237316195423570985008687907853269984665640564039457584007913129639936 - 1) * (18446744073709551616 - 1) := Nat.mul_le_mul (by omega) (by omega)
  omega
 clear v0 v1 v2 v3 w1 w2 w3
 unfold row5
 refine row_end ((r0 p a n).toNat + 18446744073709551616 * (r1 p a n).toNat + 340282366920938463463374607431768211456 * (r2 p a n).toNat + 6277101735386680763835789423207666416102355444464034512896 * (r3 p a n).toNat) _ _ (18446744073709551616 * (mulH a.a0 n).toNat + 340282366920938463463374607431768211456 * (mulH a.a1 n).toNat + 6277101735386680763835789423207666416102355444464034512896 * (mulH a.a2 n).toNat) (r0 p a n).toNat (18446744073709551616 * (u1 p a n).toNat + 340282366920938463463374607431768211456 * (u2 p a n).toNat + 6277101735386680763835789423207666416102355444464034512896 * (u3 p a n).toNat) p.num (a.num * n.toNat) _ _ (mulH a.a3 n).toNat _ (18446744073709551616 * (r1 p a n).toNat + 340282366920938463463374607431768211456 * (r2 p a n).toNat + 6277101735386680763835789423207666416102355444464034512896 * (r3 p a n).toNat) e1 (by simpa using e2) ?_ (by omega) (by omega) hb hr4
 clear e1 e2 hr4 hb
 rw [num_mul, ← x0, ← x1, ← x2, ← x3]
 omega
end Fw
end Go.Proofs.YtbojijefenfbgaaGreatDoor
namespace Go.Proofs.YtbojijefenfbgaaGreatDoor
open Go.RowKit
namespace Fw
open Bt
def hiQ (p a : Q) (n : BitVec 64) : Q := ⟨r1 p a n, r2 p a n, r3 p a n, r4 p a n⟩
def loQ (p a : Q) (n : BitVec 64) : Q := ⟨r0 p a n, r1 p a n, r2 p a n, r3 p a n⟩
def zQ : Q := ⟨0#64, 0#64, 0#64, 0#64⟩
theorem zQ_num : zQ.num = 0 := rfl
theorem row5_hi (p a : Q) (n : BitVec 64) : row5 p a n = (r0 p a n).toNat + 18446744073709551616 * (hiQ p a n).num := by
 unfold row5 Q.num hiQ
 simp only
 omega
theorem row5_lo (p a : Q) (n : BitVec 64) : row5 p a n = (loQ p a n).num + 115792089237316195423570985008687907853269984665640564039457584007913129639936 * (r4 p a n).toNat := by
 unfold row5 Q.num loQ
 simp only
theorem hi_val (p a : Q) (n : BitVec 64) : (r0 p a n).toNat + 18446744073709551616 * (hiQ p a n).num = p.num + a.num * n.toNat := by
 rw [← row5_hi, row5_num]
theorem lo_val (p a : Q) (n : BitVec 64) : (loQ p a n).num + 115792089237316195423570985008687907853269984665640564039457584007913129639936 * (r4 p a n).toNat = p.num + a.num * n.toNat := by
 rw [← row5_lo, row5_num]
def q1 (a b : Q) : Q := hiQ zQ a b.a0
def q2 (a b : Q) : Q := hiQ (q1 a b) a b.a1
def q3 (a b : Q) : Q := hiQ (q2 a b) a b.a2
def q4 (a b : Q) : Q := hiQ (q3 a b) a b.a3
def lw (a b : Q) : Q := ⟨r0 zQ a b.a0, r0 (q1 a b) a b.a1, r0 (q2 a b) a b.a2, r0 (q3 a b) a b.a3⟩
theorem four (A n0 n1 n2 n3 l0 l1 l2 l3 h1 h2 h3 h4 m0 m1 m2 m3 : Nat) (e0 : m0 = A * n0) (e1 : m1 = A * n1) (e2 : m2 = A * n2) (e3 : m3 = A * n3) (v0 : l0 + 18446744073709551616 * h1 = 0 + m0) (v1 : l1 + 18446744073709551616 * h2 = h1 + m1) (v2 : l2 + 18446744073709551616 * h3 = h2 + m2) (v3 : l3 + 18446744073709551616 * h4 = h3 + m3) :
  (l0 + 18446744073709551616 * l1 + 340282366920938463463374607431768211456 * l2 + 6277101735386680763835789423207666416102355444464034512896 * l3) + 115792089237316195423570985008687907853269984665640564039457584007913129639936 * h4 = A * (n0 + 18446744073709551616 * n1 + 340282366920938463463374607431768211456 * n2 + 6277101735386680763835789423207666416102355444464034512896 * n3) := by
 rw [Nat.mul_add, Nat.mul_add, Nat.mul_add, Nat.mul_left_comm A 18446744073709551616, Nat.mul_left_comm A 340282366920938463463374607431768211456, Nat.mul_left_comm A 6277101735386680763835789423207666416102355444464034512896, ← e0, ← e1, ← e2, ← e3]
 omega
theorem wide_val (a b : Q) : (lw a b).num + 115792089237316195423570985008687907853269984665640564039457584007913129639936 * (q4 a b).num = a.num * b.num := by
 have v0 := hi_val zQ a b.a0
 have v1 := hi_val (q1 a b) a b.a1
 have v2 := hi_val (q2 a b) a b.a2
 have v3 := hi_val (q3 a b) a b.a3
 rw [zQ_num] at v0
 exact four a.num b.a0.toNat b.a1.toNat b.a2.toNat b.a3.toNat _ _ _ _ _ _ _ _ _ _ _ _ rfl rfl rfl rfl v0 v1 v2 v3
def t0 (a b : Q) : BitVec 64 := r0 (lw a b) (q4 a b) 38#64
def t1 (a b : Q) : BitVec 64 := r1 (lw a b) (q4 a b) 38#64
def t2 (a b : Q) : BitVec 64 := r2 (lw a b) (q4 a b) 38#64
def t3 (a b : Q) : BitVec 64 := r3 (lw a b) (q4 a b) 38#64
def t4 (a b : Q) : BitVec 64 := r4 (lw a b) (q4 a b) 38#64
def ov (a b : Q) : BitVec 64 := t4 a b <<< 1 ||| t3 a b >>> 63
def o1 (a b : Q) : Bool := carry (t0 a b) (19#64 * ov a b) false
def o2 (a b : Q) : Bool := carry (t1 a b) 0#64 (o1 a b)
def o3 (a b : Q) : Bool := carry (t2 a b) 0#64 (o2 a b)
def mulQ (a b : Q) : Q := ⟨t0 a b + 19#64 * ov a b + bv false, t1 a b + bv (o1 a b), t2 a b + bv (o2 a b), (t3 a b &&& 9223372036854775807#64) + bv (o3 a b)⟩
theorem ov_val (x y : BitVec 64) (h : x.toNat ≤ 38) : (x <<< 1 ||| y >>> 63).toNat = 2 * x.toNat + y.toNat / 9223372036854775808 := by
 have hy := y.isLt
 rw [BitVec.toNat_or, BitVec.toNat_shiftLeft, BitVec.toNat_ushiftRight, Nat.shiftRight_eq_div_pow]
 have h1 : x.toNat <<< 1 % 2 ^ 64 = x.toNat <<< 1 := Nat.mod_eq_of_lt (by rw [Nat.shiftLeft_eq]; omega)
 rw [h1, ← Nat.shiftLeft_add_eq_or_of_lt (by omega), Nat.shiftLeft_eq]
 omega
theorem mul19o (x : BitVec 64) (h : x.toNat ≤ 77) : (19#64 * x).toNat = 19 * x.toNat := by
 rw [BitVec.toNat_mul, show (19#64).toNat = 19 from rfl]
 exact Nat.mod_eq_of_lt (by omega)
theorem low_val (x : BitVec 64) : (x &&& 9223372036854775807#64).toNat = x.toNat % 9223372036854775808 := by
 rw [BitVec.toNat_and]
 exact Nat.and_two_pow_sub_one_eq_mod _ 63
theorem mul_end (T R x0 x1 x2 x3 c4 y0 y1 y2 y3 c1 c2 c3 o : Nat) (hT : x0 + 18446744073709551616 * x1 + 340282366920938463463374607431768211456 * x2 + 6277101735386680763835789423207666416102355444464034512896 * x3 + 115792089237316195423570985008687907853269984665640564039457584007913129639936 * c4 = T)
  (h0 : x0 < 18446744073709551616) (h1 : x1 < 18446744073709551616) (h2 : x2 < 18446744073709551616) (h3 : x3 < 18446744073709551616) (h4 : c4 ≤ 38) (ho : o = 2 * c4 + x3 / 9223372036854775808)
  (v0 : y0 + 18446744073709551616 * c1 = x0 + 19 * o + 0) (v1 : y1 + 18446744073709551616 * c2 = x1 + 0 + c1) (v2 : y2 + 18446744073709551616 * c3 = x2 + 0 + c2) (v3 : y3 = x3 % 9223372036854775808 + c3)
  (hR : R = y0 + 18446744073709551616 * y1 + 340282366920938463463374607431768211456 * y2 + 6277101735386680763835789423207666416102355444464034512896 * y3) :
  R < 2 * PP ∧ R + PP * o = T := by
 rw [PP_eq]
 omega
theorem t4_le (a b : Q) : (t4 a b).toNat ≤ 38 := by
 have h := lo_val (lw a b) (q4 a b) 38#64
 have h1 := num_lt (lw a b)
 have h2 := num_lt (q4 a b)
 rw [show (38#64).toNat = 38 from rfl] at h
 show (r4 (lw a b) (q4 a b) 38#64).toNat ≤ 38
 omega
theorem top_val (x : BitVec 64) (b : Bool) : ((x &&& 9223372036854775807#64) + bv b).toNat = x.toNat % 9223372036854775808 + (bv b).toNat := by
 have hb := bv_le b
 rw [BitVec.toNat_add, low_val]
 exact Nat.mod_eq_of_lt (by omega)
theorem mulQ_num (a b : Q) : (mulQ a b).num < 2 * PP ∧ (mulQ a b).num % PP = a.num * b.num % PP := by
 have hw := wide_val a b
 have ht : (t0 a b).toNat + 18446744073709551616 * (t1 a b).toNat + 340282366920938463463374607431768211456 * (t2 a b).toNat + 6277101735386680763835789423207666416102355444464034512896 * (t3 a b).toNat + 115792089237316195423570985008687907853269984665640564039457584007913129639936 * (t4 a b).toNat = (lw a b).num + (q4 a b).num * 38 := row5_num (lw a b) (q4 a b) 38#64
 have h4 := t4_le a b
 have ho : (ov a b).toNat = 2 * (t4 a b).toNat + (t3 a b).toNat / 9223372036854775808 := ov_val _ _ h4
 have l3 := (t3 a b).isLt
 have v0 := add_val (t0 a b) (19#64 * ov a b) false
 have v1 := add_val (t1 a b) 0#64 (o1 a b)
 have v2 := add_val (t2 a b) 0#64 (o2 a b)
 rw [mul19o _ (by omega), show carry (t0 a b) (19#64 * ov a b) false = o1 a b from rfl, show (bv false).toNat = 0 from rfl] at v0
 rw [show carry (t1 a b) 0#64 (o1 a b) = o2 a b from rfl, show (0#64).toNat = 0 from rfl, BitVec.add_zero] at v1
 rw [show carry (t2 a b) 0#64 (o2 a b) = o3 a b from rfl, show (0#64).toNat = 0 from rfl, BitVec.add_zero] at v2
 have hm := mul_end _ (mulQ a b).num _ _ _ _ _ _ _ _ _ _ _ _ _ ht (t0 a b).isLt (t1 a b).isLt (t2 a b).isLt l3 h4 ho v0 v1 v2 (top_val (t3 a b) (o3 a b)) rfl
 refine ⟨hm.1, ?_⟩
 have e1 : (mulQ a b).num % PP = ((lw a b).num + (q4 a b).num * 38) % PP := by rw [← hm.2, Nat.add_mul_mod_self_left]
 have e2 : a.num * b.num % PP = ((lw a b).num + (q4 a b).num * 38) % PP := by
  rw [← hw, show (lw a b).num + 115792089237316195423570985008687907853269984665640564039457584007913129639936 * (q4 a b).num = ((lw a b).num + (q4 a b).num * 38) + PP * (2 * (q4 a b).num) by rw [PP_eq]; omega, Nat.add_mul_mod_self_left]
 rw [e1, e2]
end Fw
end Go.Proofs.YtbojijefenfbgaaGreatDoor
