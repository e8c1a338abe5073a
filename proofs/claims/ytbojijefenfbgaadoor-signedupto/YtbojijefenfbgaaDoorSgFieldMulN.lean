/- The arithmetic of the program's Mul: rows of words, what stands beyond bit 255 brought back 19 times. -/
/- The program's words of the field as elements of F: Add, Sub, Mul. -/
/- A region that draws its order: its first n operations leave the worlds of a class within it and yield one value in all of them; the others stand in a row behind them. Then one walk of the text's order serves every order. (The library has this for one world, and for a class without a tail; here both together.) -/
import Derived.Test.YtbojijefenfbgaaDoorSgFieldAdd
import Derived.Test.YtbojijefenfbgaaDoorSgFld
import Derived.StillTail
import Derived.Deep.Quiet
import Derived.Lib.QuietBelow
import Derived.Deep.MidRow
import Derived.Laws.Rows
namespace Go.Proofs.YtbojijefenfbgaaDoor
open Go.RowKit
namespace Fw
open Bt

def hiQ (p a : Q) (n : BitVec 64) : Q := ⟨r1 p a n, r2 p a n, r3 p a n, r4 p a n⟩
def loQ (p a : Q) (n : BitVec 64) : Q := ⟨r0 p a n, r1 p a n, r2 p a n, r3 p a n⟩
def zQ : Q := ⟨0#64, 0#64, 0#64, 0#64⟩
theorem zQ_num : zQ.num = 0 := rfl
theorem row5_hi (p a : Q) (n : BitVec 64) : row5 p a n = (r0 p a n).toNat + 18446744073709551616 * (hiQ p a n).num := by
  unfold row5 Q.num hiQ
  simp only
  omega
theorem row5_lo (p a : Q) (n : BitVec 64) : row5 p a n = (loQ p a n).num + 115792089237316195423570985008687907853269984665640564039457584007913129639936 * (r4 p a n).toNat := by
  unfold row5 Q.num loQ
  simp only
theorem hi_val (p a : Q) (n : BitVec 64) : (r0 p a n).toNat + 18446744073709551616 * (hiQ p a n).num = p.num + a.num * n.toNat := by
  rw [← row5_hi, row5_num]
theorem lo_val (p a : Q) (n : BitVec 64) : (loQ p a n).num + 115792089237316195423570985008687907853269984665640564039457584007913129639936 * (r4 p a n).toNat = p.num + a.num * n.toNat := by
  rw [← row5_lo, row5_num]
def q1 (a b : Q) : Q := hiQ zQ a b.a0
def q2 (a b : Q) : Q := hiQ (q1 a b) a b.a1
def q3 (a b : Q) : Q := hiQ (q2 a b) a b.a2
def q4 (a b : Q) : Q := hiQ (q3 a b) a b.a3
def lw (a b : Q) : Q := ⟨r0 zQ a b.a0, r0 (q1 a b) a b.a1, r0 (q2 a b) a b.a2, r0 (q3 a b) a b.a3⟩
theorem four (A n0 n1 n2 n3 l0 l1 l2 l3 h1 h2 h3 h4 m0 m1 m2 m3 : Nat) (e0 : m0 = A * n0) (e1 : m1 = A * n1) (e2 : m2 = A * n2) (e3 : m3 = A * n3) (v0 : l0 + 18446744073709551616 * h1 = 0 + m0) (v1 : l1 + 18446744073709551616 * h2 = h1 + m1) (v2 : l2 + 18446744073709551616 * h3 = h2 + m2) (v3 : l3 + 18446744073709551616 * h4 = h3 + m3) :
    (l0 + 18446744073709551616 * l1 + 340282366920938463463374607431768211456 * l2 + 6277101735386680763835789423207666416102355444464034512896 * l3) + 115792089237316195423570985008687907853269984665640564039457584007913129639936 * h4 = A * (n0 + 18446744073709551616 * n1 + 340282366920938463463374607431768211456 * n2 + 6277101735386680763835789423207666416102355444464034512896 * n3) := by
  rw [Nat.mul_add, Nat.mul_add, Nat.mul_add, Nat.mul_left_comm A 18446744073709551616, Nat.mul_left_comm A 340282366920938463463374607431768211456, Nat.mul_left_comm A 6277101735386680763835789423207666416102355444464034512896, ← e0, ← e1, ← e2, ← e3]
  omega
theorem wide_val (a b : Q) : (lw a b).num + 115792089237316195423570985008687907853269984665640564039457584007913129639936 * (q4 a b).num = a.num * b.num := by
  have v0 := hi_val zQ a b.a0
  have v1 := hi_val (q1 a b) a b.a1
  have v2 := hi_val (q2 a b) a b.a2
  have v3 := hi_val (q3 a b) a b.a3
  rw [zQ_num] at v0
  exact four a.num b.a0.toNat b.a1.toNat b.a2.toNat b.a3.toNat _ _ _ _ _ _ _ _ _ _ _ _ rfl rfl rfl rfl v0 v1 v2 v3
/-- The five words of the number modulo 2^256 times 38. -/
def t0 (a b : Q) : BitVec 64 := r0 (lw a b) (q4 a b) 38#64
def t1 (a b : Q) : BitVec 64 := r1 (lw a b) (q4 a b) 38#64
def t2 (a b : Q) : BitVec 64 := r2 (lw a b) (q4 a b) 38#64
def t3 (a b : Q) : BitVec 64 := r3 (lw a b) (q4 a b) 38#64
def t4 (a b : Q) : BitVec 64 := r4 (lw a b) (q4 a b) 38#64
def ov (a b : Q) : BitVec 64 := t4 a b <<< 1 ||| t3 a b >>> 63
def o1 (a b : Q) : Bool := carry (t0 a b) (19#64 * ov a b) false
def o2 (a b : Q) : Bool := carry (t1 a b) 0#64 (o1 a b)
def o3 (a b : Q) : Bool := carry (t2 a b) 0#64 (o2 a b)
def mulQ (a b : Q) : Q := ⟨t0 a b + 19#64 * ov a b + bv false, t1 a b + bv (o1 a b), t2 a b + bv (o2 a b), (t3 a b &&& 9223372036854775807#64) + bv (o3 a b)⟩
theorem ov_val (x y : BitVec 64) (h : x.toNat ≤ 38) : (x <<< 1 ||| y >>> 63).toNat = 2 * x.toNat + y.toNat / 9223372036854775808 := by
  have hy := y.isLt
  rw [BitVec.toNat_or, BitVec.toNat_shiftLeft, BitVec.toNat_ushiftRight, Nat.shiftRight_eq_div_pow]
  have h1 : x.toNat <<< 1 % 2 ^ 64 = x.toNat <<< 1 := Nat.mod_eq_of_lt (by rw [Nat.shiftLeft_eq]; omega)
  rw [h1, ← Nat.shiftLeft_add_eq_or_of_lt (by omega), Nat.shiftLeft_eq]
  omega
theorem mul19o (x : BitVec 64) (h : x.toNat ≤ 77) : (19#64 * x).toNat = 19 * x.toNat := by
  rw [BitVec.toNat_mul, show (19#64).toNat = 19 from rfl]
  exact Nat.mod_eq_of_lt (by omega)
theorem low_val (x : BitVec 64) : (x &&& 9223372036854775807#64).toNat = x.toNat % 9223372036854775808 := by
  rw [BitVec.toNat_and]
  exact Nat.and_two_pow_sub_one_eq_mod _ 63
theorem mul_end (T R x0 x1 x2 x3 c4 y0 y1 y2 y3 c1 c2 c3 o : Nat) (hT : x0 + 18446744073709551616 * x1 + 340282366920938463463374607431768211456 * x2 + 6277101735386680763835789423207666416102355444464034512896 * x3 + 115792089237316195423570985008687907853269984665640564039457584007913129639936 * c4 = T)
    (h0 : x0 < 18446744073709551616) (h1 : x1 < 18446744073709551616) (h2 : x2 < 18446744073709551616) (h3 : x3 < 18446744073709551616) (h4 : c4 ≤ 38) (ho : o = 2 * c4 + x3 / 9223372036854775808)
    (v0 : y0 + 18446744073709551616 * c1 = x0 + 19 * o + 0) (v1 : y1 + 18446744073709551616 * c2 = x1 + 0 + c1) (v2 : y2 + 18446744073709551616 * c3 = x2 + 0 + c2) (v3 : y3 = x3 % 9223372036854775808 + c3)
    (hR : R = y0 + 18446744073709551616 * y1 + 340282366920938463463374607431768211456 * y2 + 6277101735386680763835789423207666416102355444464034512896 * y3) :
    R < 2 * PP ∧ R + PP * o = T := by
  rw [PP_eq]
  omega
theorem t4_le (a b : Q) : (t4 a b).toNat ≤ 38 := by
  have h := lo_val (lw a b) (q4 a b) 38#64
  have h1 := num_lt (lw a b)
  have h2 := num_lt (q4 a b)
  rw [show (38#64).toNat = 38 from rfl] at h
  show (r4 (lw a b) (q4 a b) 38#64).toNat ≤ 38
  omega
theorem top_val (x : BitVec 64) (b : Bool) : ((x &&& 9223372036854775807#64) + bv b).toNat = x.toNat % 9223372036854775808 + (bv b).toNat := by
  have hb := bv_le b
  rw [BitVec.toNat_add, low_val]
  exact Nat.mod_eq_of_lt (by omega)
theorem mulQ_num (a b : Q) : (mulQ a b).num < 2 * PP ∧ (mulQ a b).num % PP = a.num * b.num % PP := by
  have hw := wide_val a b
  have ht : (t0 a b).toNat + 18446744073709551616 * (t1 a b).toNat + 340282366920938463463374607431768211456 * (t2 a b).toNat + 6277101735386680763835789423207666416102355444464034512896 * (t3 a b).toNat + 115792089237316195423570985008687907853269984665640564039457584007913129639936 * (t4 a b).toNat = (lw a b).num + (q4 a b).num * 38 := row5_num (lw a b) (q4 a b) 38#64
  have h4 := t4_le a b
  have ho : (ov a b).toNat = 2 * (t4 a b).toNat + (t3 a b).toNat / 9223372036854775808 := ov_val _ _ h4
  have l3 := (t3 a b).isLt
  have v0 := add_val (t0 a b) (19#64 * ov a b) false
  have v1 := add_val (t1 a b) 0#64 (o1 a b)
  have v2 := add_val (t2 a b) 0#64 (o2 a b)
  rw [mul19o _ (by omega), show carry (t0 a b) (19#64 * ov a b) false = o1 a b from rfl, show (bv false).toNat = 0 from rfl] at v0
  rw [show carry (t1 a b) 0#64 (o1 a b) = o2 a b from rfl, show (0#64).toNat = 0 from rfl, BitVec.add_zero] at v1
  rw [show carry (t2 a b) 0#64 (o2 a b) = o3 a b from rfl, show (0#64).toNat = 0 from rfl, BitVec.add_zero] at v2
  have hm := mul_end _ (mulQ a b).num _ _ _ _ _ _ _ _ _ _ _ _ _ ht (t0 a b).isLt (t1 a b).isLt (t2 a b).isLt l3 h4 ho v0 v1 v2 (top_val (t3 a b) (o3 a b)) rfl
  refine ⟨hm.1, ?_⟩
  have e1 : (mulQ a b).num % PP = ((lw a b).num + (q4 a b).num * 38) % PP := by rw [← hm.2, Nat.add_mul_mod_self_left]
  have e2 : a.num * b.num % PP = ((lw a b).num + (q4 a b).num * 38) % PP := by
    rw [← hw, show (lw a b).num + 115792089237316195423570985008687907853269984665640564039457584007913129639936 * (q4 a b).num = ((lw a b).num + (q4 a b).num * 38) + PP * (2 * (q4 a b).num) by rw [PP_eq]; omega, Nat.add_mul_mod_self_left]
  rw [e1, e2]
end Fw
end Go.Proofs.YtbojijefenfbgaaDoor
namespace Go.Proofs.YtbojijefenfbgaaDoor
open Go.RowKit
namespace Fw
open Bt
attribute [local go_sem] run_Add64_xy0 run_Add64_19 run_Add64_0c run_Sub64_xy0 run_Sub64_0c
attribute [local go_sem] UV.u_add UV.u_mul UV.u_sub UV.u_xor UV.u_and UV.u_or UV.u_shr UV.u_shl UV.u_not UV.u_notm UV.u_wrap_un run_Add64 run_Sub64 u_mul19

theorem addRow_z (a : Q) (n : BitVec 64) (w : World) :
    Calls Tryd.prog 105 #[.int .u64 0, .int .u64 0, .int .u64 0, .int .u64 0, .int .u64 (un a.a0), .int .u64 (un a.a1), .int .u64 (un a.a2), .int .u64 (un a.a3), .int .u64 (un n)] w
      fun e w' => e = .returned (.tuple #[.int .u64 (un (r0 zQ a n)), .int .u64 (un (r1 zQ a n)), .int .u64 (un (r2 zQ a n)), .int .u64 (un (r3 zQ a n)), .int .u64 (un (r4 zQ a n))]) ∧ w' = w := addRow_any zQ a n w
theorem addRow_38 (p a : Q) (w : World) :
    Calls Tryd.prog 105 #[.int .u64 (un p.a0), .int .u64 (un p.a1), .int .u64 (un p.a2), .int .u64 (un p.a3), .int .u64 (un a.a0), .int .u64 (un a.a1), .int .u64 (un a.a2), .int .u64 (un a.a3), .int .u64 38] w
      fun e w' => e = .returned (.tuple #[.int .u64 (un (r0 p a 38#64)), .int .u64 (un (r1 p a 38#64)), .int .u64 (un (r2 p a 38#64)), .int .u64 (un (r3 p a 38#64)), .int .u64 (un (r4 p a 38#64))]) ∧ w' = w := addRow_any p a 38#64 w
/-- The last step of Mul. -/
def fin5 (x0 x1 x2 x3 x4 : BitVec 64) : Q := ⟨x0 + 19#64 * (x4 <<< 1 ||| x3 >>> 63) + bv false, x1 + bv (carry x0 (19#64 * (x4 <<< 1 ||| x3 >>> 63)) false), x2 + bv (carry x1 0#64 (carry x0 (19#64 * (x4 <<< 1 ||| x3 >>> 63)) false)), (x3 &&& 9223372036854775807#64) + bv (carry x2 0#64 (carry x1 0#64 (carry x0 (19#64 * (x4 <<< 1 ||| x3 >>> 63)) false)))⟩
theorem fin5_eq (a b : Q) : fin5 (t0 a b) (t1 a b) (t2 a b) (t3 a b) (t4 a b) = mulQ a b := rfl
theorem below_drewN (k : Nat) (w : World) (n : Nat) : Below k w (w.drewN n) := ⟨rfl, rfl, rfl, Nat.le_refl _, fun _ _ => rfl⟩
theorem shr63 (x : BitVec 64) : un x / (9223372036854775808 : Int) = un (x >>> (63 : Nat)) := UV.u_shr x 63
attribute [local go_sem] shr63
theorem shl1 (x : BitVec 64) : IntKind.u64.wrap (un x * 2) = un (x <<< 1) := UV.u_shl x 1

set_option maxHeartbeats 400000 in
set_option maxRecDepth 100000 in
theorem mul_any (a b : Q) (w : World) :
    Calls Tryd.prog 84 #[.agg a.cells, .agg b.cells] w fun e w' => ∃ r : Q, e = .returned (.agg r.cells) ∧ r.num = (a.num * b.num) % PP ∧ Below w.heap.size w w' := by
  have HN : Hid _ := (mulQ_num a b).2
  have HS : Hid _ := (mulQ_num a b).1
  unfold Q.cells
  go_enter Tryd.func84, Tryd.ntmps84
  go_wp2_with fail
  refine wp_region_quiet_lit (by kernel_rfl) (by kernel_rfl) ?_
  repeat (first | go_big_quiet_step (fail) | quiet_step (fail))
  refine wpQuiet_nil ?_
  intro _ hw'
  obtain ⟨nq, hw''⟩ := hw'
  subst hw''
  go_wp2_with fail
  refine (addRow_z a b.a0 _).mono ?_
  rintro e w1 ⟨rfl, rfl⟩
  go_wp2_with fail
  refine (addRow_any (q1 a b) a b.a1 _).mono ?_
  rintro e w1 ⟨rfl, rfl⟩
  go_wp2_with fail
  refine (addRow_any (q2 a b) a b.a2 _).mono ?_
  rintro e w1 ⟨rfl, rfl⟩
  go_wp2_with fail
  refine (addRow_any (q3 a b) a b.a3 _).mono ?_
  rintro e w1 ⟨rfl, rfl⟩
  go_wp2_with fail
  refine (addRow_38 (lw a b) (q4 a b) _).mono ?_
  rintro e w1 ⟨rfl, rfl⟩
  have HF : Hid _ := fin5_eq a b
  unfold t0 t1 t2 t3 t4 at HF
  generalize r0 (lw a b) (q4 a b) 38#64 = x0 at HF ⊢
  generalize r1 (lw a b) (q4 a b) 38#64 = x1 at HF ⊢
  generalize r2 (lw a b) (q4 a b) 38#64 = x2 at HF ⊢
  generalize r3 (lw a b) (q4 a b) 38#64 = x3 at HF ⊢
  generalize r4 (lw a b) (q4 a b) 38#64 = x4 at HF ⊢
  have hand := and_top x3
  have h1 := shl1 x4
  go_wp2_with fail
  refine (settle_any (fin5 x0 x1 x2 x3 x4) (by rw [HF.out]; exact HS.out) _).mono ?_
  rintro e w1 ⟨r, rfl, hr, hb⟩
  have HR : Hid _ := hr
  have HB : Hid _ := hb
  clear hr hb hand h1
  have HG : Hid (w1.heap[w.heap.size + 1 + 1]? = some (.cells wordZero 89 (0, 0))) := (HB.out.block _ (by simp [World.drewN])).trans (by
    have := heap_alloc_new ((w.alloc (.cells a.cells 89)).alloc (.cells b.cells 89)) (.cells wordZero 89)
    simp only [World.size_alloc] at this
    exact this)
  go_wp2_with (refine wpList_store_row rfl 89 _ _ rfl (w.heap.size + 1 + 1) r.cells rfl rfl 89 wordZero HG.out (by kernel_rfl) rfl r.cells_one ?_)
  refine Own.ret_row Tryd.results84 rfl (w.heap.size + 1 + 1) 89 r.cells (0, 0) _ rfl (setRow_heap _ _ _ _ _ _ HG.out) Tryd.underlying89 rfl (by kernel_rfl) ⟨r, rfl, by rw [HR.out, HF.out, HN.out], ?_⟩
  have h3 : Below w.heap.size w ((((w.alloc (.cells a.cells 89)).alloc (.cells b.cells 89)).alloc (.cells wordZero 89)).drewN nq) := ((((Below.refl _ _).alloc (Nat.le_refl _) _).alloc (by simp) _).alloc (by simp; omega) _).trans (below_drewN _ _ nq)
  exact (h3.trans (HB.out.mono h3.size)).trans ((below_setRow _ _ _).mono (by omega))

theorem Q.ext_num {a b : Q} (h : a.num = b.num) : a = b := by
  obtain ⟨a0, a1, a2, a3⟩ := a
  obtain ⟨b0, b1, b2, b3⟩ := b
  unfold Q.num at h
  simp only at h
  have i0 := a0.isLt
  have i1 := a1.isLt
  have i2 := a2.isLt
  have j0 := b0.isLt
  have j1 := b1.isLt
  have j2 := b2.isLt
  have e0 : a0 = b0 := BitVec.eq_of_toNat_eq (by omega)
  have e1 : a1 = b1 := BitVec.eq_of_toNat_eq (by omega)
  have e2 : a2 = b2 := BitVec.eq_of_toNat_eq (by omega)
  have e3 : a3 = b3 := BitVec.eq_of_toNat_eq (by omega)
  rw [e0, e1, e2, e3]
/-- The four words of a number of 256 bits. -/
def nq (n : Nat) : Q := ⟨BitVec.ofNat 64 n, BitVec.ofNat 64 (n / 18446744073709551616), BitVec.ofNat 64 (n / 340282366920938463463374607431768211456), BitVec.ofNat 64 (n / 6277101735386680763835789423207666416102355444464034512896)⟩
theorem nq_num {n : Nat} (h : n < 115792089237316195423570985008687907853269984665640564039457584007913129639936) : (nq n).num = n := by
  unfold nq Q.num
  simp only [BitVec.toNat_ofNat]
  omega
theorem nq_of {q : Q} {n : Nat} (h : q.num = n) : q = nq n := Q.ext_num (by rw [nq_num (by have := num_lt q; omega), h])
theorem fw_ex : ∃ f : Ed.F → Array Value, ∀ x, f x = (nq x.val).cells := ⟨_, fun _ => rfl⟩
/-- A word of the field, as the program holds it. (By choice, so that nothing opens it but fw_def.) -/
noncomputable def fw : Ed.F → Array Value := Classical.choose fw_ex
theorem fw_def (x : Ed.F) : fw x = (nq x.val).cells := Classical.choose_spec fw_ex x
theorem fw_num (x : Ed.F) : (nq x.val).num = x.val := nq_num (Nat.lt_trans x.isLt (by decide))
theorem fw_one (x : Ed.F) : (fw x).all (·.oneCell') = true := by rw [fw_def]; exact (nq x.val).cells_one
theorem fw_size (x : Ed.F) : (fw x).size = 4 := by rw [fw_def]; rfl
theorem add_f (x y : Ed.F) (w : World) :
    Calls Tryd.prog 100 #[.agg (fw x), .agg (fw y)] w fun e w' => e = .returned (.agg (fw (x + y))) ∧ Below w.heap.size w w' := by
  rw [fw_def, fw_def, fw_def]
  refine (add_any (nq x.val) (nq y.val) (by rw [fw_num]; exact x.isLt) (by rw [fw_num]; exact y.isLt) w).mono fun e w' ⟨r, he, hr, hb⟩ => ⟨?_, hb⟩
  rw [fw_num, fw_num] at hr
  rw [he, nq_of hr]; rfl
theorem sub_f (x y : Ed.F) (w : World) :
    Calls Tryd.prog 97 #[.agg (fw x), .agg (fw y)] w fun e w' => e = .returned (.agg (fw (x - y))) ∧ Below w.heap.size w w' := by
  rw [fw_def, fw_def, fw_def]
  refine (sub_any (nq x.val) (nq y.val) (by rw [fw_num]; exact x.isLt) (by rw [fw_num]; exact y.isLt) w).mono fun e w' ⟨r, he, hr, hb⟩ => ⟨?_, hb⟩
  rw [fw_num, fw_num] at hr
  have hy := y.isLt
  have e1 : (x - y).val = (x.val + PP - y.val) % PP := by
    show (PP - y.val + x.val) % PP = _
    have hy' : y.val < PP := hy
    congr 1
    omega
  rw [he, nq_of hr, ← e1]
theorem mul_f (x y : Ed.F) (w : World) :
    Calls Tryd.prog 84 #[.agg (fw x), .agg (fw y)] w fun e w' => e = .returned (.agg (fw (x * y))) ∧ Below w.heap.size w w' := by
  rw [fw_def, fw_def, fw_def]
  refine (mul_any (nq x.val) (nq y.val) w).mono fun e w' ⟨r, he, hr, hb⟩ => ⟨?_, hb⟩
  rw [fw_num, fw_num] at hr
  rw [he, nq_of hr]; rfl
end Fw
end Go.Proofs.YtbojijefenfbgaaDoor
namespace Go.Proofs.YtbojijefenfbgaaDoor
open Go Go.RowKit Go.Sort Region
namespace Qt
section
variable {P : Program} {ops : Array Oper} {C : World → Prop} {n : Nat}

/-- f operations come up, all of the head, in whatever order; then L. -/
def Heads (P : Program) (ops : Array Oper) (C : World → Prop) (n : Nat) (L : Array Bool → Act → Prop) : Nat → Array Bool → Act → Prop
  | 0, listed, a => L listed a
  | f + 1, listed, a => Region.ready .any ops listed ≠ [] ∧ ∀ i ∈ Region.ready .any ops listed, i < n ∧ qOp P ops C i (Heads P ops C n L f (listed.setIfInBounds i true)) a

theorem Heads.wp {g : Nat} {L : Array Bool → Act → Prop} {Q : Exit → Act → World → Prop} (hL : ∀ listed a, L listed a → ∀ w, C w → wpAny P .any ops Q g listed a w) (f : Nat) :
    ∀ listed a, Heads P ops C n L f listed a → ∀ w, C w → wpAny P .any ops Q (g + f) listed a w := by
  induction f with
  | zero => exact hL
  | succ f ih =>
    intro listed a h w hw
    exact ⟨fun h0 => absurd h0 h.1, fun i hi => wpOp_of_qOp hw (fun a' w' hw' h' => ih _ a' h' w' hw') (h.2 i hi).2⟩

/-- While an operation of the head is ready, none of the tail is. -/
theorem ready_head {listed : Array Bool} (hs : Region.sinkB .any ops n = true) (hc : Region.chainB .any ops n = true) (hn : n < ops.size) (inv : HeadInv .any ops n listed) {i j : Nat} (hi : i ∈ Region.ready .any ops listed) (hin : i < n)
    (hj : j ∈ Region.ready .any ops listed) : j < n := by
  rcases Nat.lt_or_ge j n with h | h
  · exact h
  · exact absurd hj (tail_waits hs hc hn inv _ i rfl hin (mem_ready.1 hi).1 j h)

theorem Heads.first {L : Array Bool → Act → Prop} (hsel : ∀ (j : Nat) (o : Oper) cs b, ops[j]? = some o → o.op ≠ .select cs b) (hs : Region.sinkB .any ops n = true) (hc : Region.chainB .any ops n = true) (hn : n < ops.size)
    (hend : ∀ listed a, L listed a → ∀ j ∈ Region.ready .any ops listed, n ≤ j) {i : Nat} {oi : Oper} {v : Value} (hoi : ops[i]? = some oi) (hin : i < n) (f : Nat) :
    ∀ listed a, HeadInv .any ops n listed → (∀ j oj, ops[j]? = some oj → j ≠ i → listed.getD j true = false → (∀ e ∈ oj.after, Region.binds .any e = true → e.on ≠ i) → oi.apart ops oj = true) →
      i ∈ Region.ready .any ops listed → YieldsIn P ops C oi v a → Heads P ops C n L f (listed.setIfInBounds i true) (a.put oi.dst v) → Heads P ops C n L (f + 1) listed a := by
  induction f with
  | zero =>
    intro listed a inv _ hr hy H
    refine ⟨List.ne_nil_of_mem hr, fun j hj => ?_⟩
    have hjn := ready_head hs hc hn inv hr hin hj
    refine ⟨hjn, ?_⟩
    by_cases e : j = i
    · rw [e]; exact hy.qOp hoi H
    · exact absurd (hend _ _ H j (ready_mono hj e)) (by omega)
  | succ f ih =>
    intro listed a inv hap hr hy H
    refine ⟨List.ne_nil_of_mem hr, fun j hj => ?_⟩
    have hjn := ready_head hs hc hn inv hr hin hj
    refine ⟨hjn, ?_⟩
    by_cases e : j = i
    · rw [e]; exact hy.qOp hoi H
    · obtain ⟨hun, oj, hoj, hall⟩ := mem_ready.1 hj
      have hno : ∀ e ∈ oj.after, Region.binds .any e = true → e.on ≠ i := fun e he hb heq => by
        have h1 := hall e he hb
        rw [heq, getD_both (mem_ready.1 hr).1] at h1
        cases h1
      refine qOp_mono (fun a' h3 => ?_) (qOp_put hoj (hap j oj hoj e hun hno) (fun cs b => hsel i oi cs b hoi) (fun cs b => hsel j oj cs b hoj) hy (H.2 j (ready_mono hj e)).2)
      refine ih _ a' (inv.set hj hjn) (fun k ok hk hki hku hkn => hap k ok hk hki ?_ hkn) (ready_mono hr (Ne.symm e)) h3.1 ?_
      · by_cases hjk : j = k
        · rw [← hjk]; exact hun
        · rwa [getD_set_ne true hjk] at hku
      · rw [Array.setIfInBounds_comm _ _ e]
        exact h3.2

theorem Heads.lex {g : Nat} {K : Act → Prop} (hsel : Region.noSelect ops = true) (hs : Region.sinkB .any ops n = true) (hc : Region.chainB .any ops n = true) (hn : n < ops.size) (l : List Oper) :
    ∀ (k : Nat) (listed : Array Bool) (a : Act), (∀ j, j < l.length → l[j]? = ops[k + j]?) → k + l.length = n → HeadInv .any ops n listed → Region.lexHead .any ops g l.length k listed = true → wpQuiet P ops C K l a →
      Heads P ops C n (fun listed' a' => Region.seqB .any ops g n listed' = true ∧ K a') l.length listed a := by
  induction l with
  | nil =>
    intro k listed a _ hk _ hB h
    have e : k = n := by simpa using hk
    subst e
    exact ⟨by simpa [Region.lexHead] using hB, h⟩
  | cons o l ih =>
    intro k listed a hl hk inv hB h
    have ho : ops[k]? = some o := by simpa using (hl 0 (by simp)).symm
    simp only [List.length_cons, Region.lexHead, Bool.and_eq_true] at hB hk
    have hr : k ∈ Region.ready .any ops listed := by simpa using hB.1.1
    have hq : qOp P ops C k (wpQuiet P ops C K l) a := by unfold qOp; simp only [ho]; exact h
    obtain ⟨v, hy, hK⟩ := yieldsIn_of_qOp ho hq
    exact Heads.first (Region.noSelect_spec hsel) hs hc hn (fun _ _ hL => seqB_ready hL.1) ho (by omega) l.length listed a inv (Region.free_spec ho hB.1.2) hr hy
      (ih (k + 1) _ _ (fun j hj => by have := hl (j + 1) (by simp; omega); simpa [Nat.add_assoc, Nat.add_comm 1 j] using this) (by omega) (inv.set hr (by omega)) hB.2 hK)

theorem quiet_mono {K K' : Act → Prop} (l : List Oper) : ∀ (a : Act), (∀ a, K a → K' a) → wpQuiet P ops C K l a → wpQuiet P ops C K' l a := by
  induction l with
  | nil => intro a hk h; exact hk _ h
  | cons o l ih =>
    intro a hk h
    unfold wpQuiet at h ⊢
    by_cases hw : Region.wanted o (yielded ops a.tmps) = true
    · rw [if_pos hw] at h ⊢; exact Oper.quiet_mono (fun a' h' => ih a' hk h') h
    · rw [if_neg hw] at h ⊢; exact ih _ hk h
theorem wp_region_quiet_tail {id : Nat} {Q : Exit → Act → World → Prop} {a : Act} {w : World} {l : List Oper} (n : Nat) (hm : P.follows .mixedOrders = true) (hB : Region.lexTailB .any l.toArray n = true) (hC : C { w with drawn := w.drawn + 1 })
    (h : wpQuiet P l.toArray C (fun a' => ∀ w', C w' → wpList P l.toArray Q (l.drop n) a' w') (l.take n) a) : (Code.region id l.toArray true).wp P Q a w := by
  simp only [Region.lexTailB, Bool.and_eq_true, decide_eq_true_eq] at hB
  obtain ⟨⟨⟨⟨hsel, hn⟩, hs⟩, hc⟩, hlex⟩ := hB
  have hn' : n < l.length := by simpa using hn
  have htl : (l.take n).length = n := by simp; omega
  have hdl : (l.drop n).length = l.toArray.size - n := by simp
  have inv0 : HeadInv .any l.toArray n (Array.replicate l.toArray.size false) :=
    ⟨by simp, fun j oj _ hl => (by rw [getD_replicate_false] at hl; cases hl), fun t _ ht => getD_in (by simpa using ht) (getD_replicate_false _ _)⟩
  have H := Heads.lex (P := P) (C := C) (g := l.toArray.size - n) hsel hs hc hn (l.take n) 0 _ a (fun j hj => by
    rw [htl] at hj
    simp [hj]) (by rw [htl]; simp) inv0 (by rw [htl]; exact hlex) h
  refine wp_region_any hm ?_
  have := Heads.wp (Q := Q) (g := l.toArray.size - n) (fun listed a' hL w' hw' => by
    have := wpAny_of_seq (md := .any) (Q' := Q) (l.drop n) n listed a' w' (fun j => by simp [List.getElem?_drop]) (by rw [hdl]; exact hL.1) (hL.2 w' hw')
    rwa [hdl] at this) _ _ _ H _ hC
  rw [htl, show l.toArray.size - n + n = l.toArray.size by omega] at this
  exact this
end
/-- The class: of what was there nothing has turned. -/
def BW (w : World) : World → Prop := fun w' => Below w.heap.size w w'
theorem wp_region_below_tail {P : Program} {id : Nat} {Q : Exit → Act → World → Prop} {a : Act} {w : World} {l : List Oper} (n : Nat) (hm : P.follows .mixedOrders = true) (hB : Region.lexTailB .any l.toArray n = true)
    (h : wpQuiet P l.toArray (BW w) (fun a' => ∀ w', Below w.heap.size w w' → wpList P l.toArray Q (l.drop n) a' w') (l.take n) a) : (Code.region id l.toArray true).wp P Q a w :=
  wp_region_quiet_tail (C := BW w) n hm hB ⟨rfl, rfl, rfl, Nat.le_refl _, fun _ _ => rfl⟩ h
theorem wp_region_below {P : Program} {id : Nat} {Q : Exit → Act → World → Prop} {a : Act} {w : World} {l : List Oper} (hm : P.follows .mixedOrders = true) (hB : Region.lexB .any l.toArray = true)
    (h : wpQuiet P l.toArray (BW w) (fun a' => ∀ w', Below w.heap.size w w' → Q .normal a' w') l a) : (Code.region id l.toArray true).wp P Q a w :=
  wp_region_quiet (C := BW w) hm hB ⟨rfl, rfl, rfl, Nat.le_refl _, fun _ _ => rfl⟩ h
section
variable {P : Program} {ops : Array Oper} {w : World} {Q : Act → Prop} {rest : List Oper} {o : Oper} {a : Act}
/-- One operation that yields a value. -/
theorem q_val (hg : o.guard = none) (v : Value) (hv : ∀ w', Below w.heap.size w w' → (execOp a.eval o).run P w' = .ok (.value v) w') (h : wpQuiet P ops (BW w) Q rest (a.put o.dst v)) : wpQuiet P ops (BW w) Q (o :: rest) a := by
  unfold wpQuiet
  rw [if_pos (by simp [Region.wanted, hg])]
  refine ⟨v, fun w' hw' => ?_, h⟩
  unfold Oper.quietAt
  rw [hv w' hw']
  exact ⟨rfl, rfl⟩
/-- A call whose contract ends in Below. -/
theorem q_call (hg : o.guard = none) (f : FuncId) (args : Array Value) (v : Value) (hv : ∀ w', (execOp a.eval o).run P w' = .ok (.enter f args) w') (hc : ∀ w', Below w.heap.size w w' → Calls P f args w' fun e w'' => e = .returned v ∧ Below w'.heap.size w' w'')
    (h : wpQuiet P ops (BW w) Q rest (a.put o.dst v)) : wpQuiet P ops (BW w) Q (o :: rest) a := by
  unfold wpQuiet
  rw [if_pos (by simp [Region.wanted, hg])]
  refine ⟨v, fun w' hw' => ?_, h⟩
  unfold Oper.quietAt
  rw [hv w']
  refine ⟨rfl, (hc w' hw').mono fun e w'' ⟨he, hb⟩ => ⟨he, ?_⟩⟩
  have h0 : Below w.heap.size w w' := hw'
  exact h0.trans (hb.mono h0.size)
/-- A row loaded whole. -/
theorem q_row (hg : o.guard = none) (ty : TypeId) (x : Operand) (ho : o.op = .load ty x) (g : Nat) (hx : a.eval x = .pointer (some ⟨g, 0, none⟩)) (t : TypeId) (cs : Array Value) (fr : Nat × Nat) (d : TypeDesc) (hb : w.heap[g]? = some (.cells cs t fr))
    (hu : P.underlying ty = some d) (hd : (match d with | .struct _ | .array _ _ => true | _ => false) = true) (hi : (P.info? ty).map (·.size) = some cs.size)
    (h : wpQuiet P ops (BW w) Q rest (a.put o.dst (.agg cs))) : wpQuiet P ops (BW w) Q (o :: rest) a := by
  refine q_val hg (.agg cs) (fun w' hw' => ?_) h
  have hlt : g < w.heap.size := (Array.getElem?_eq_some_iff.1 hb).1
  unfold execOp
  simp only [ho, hx, Instr.loadAt, Instr.sureAddr, Sem.run_bind, Sem.run_pure, Result.andThen_ok, run_loadVar_row w' g t ty cs fr d ((hw'.block g hlt).trans hb) hu hd hi]
/-- A row loaded out of a greater one. -/
theorem q_mid (hg : o.guard = none) (ty : TypeId) (x : Operand) (ho : o.op = .load ty x) (b off : Nat) (hx : a.eval x = .pointer (some ⟨b, off, none⟩)) (cs : List Value) (d : TypeDesc) (hb : b < w.heap.size) (hc : w.rangeAt b off cs)
    (hu : P.underlying ty = some d) (hd : d.isRow = true) (hi : (P.info? ty).map (·.size) = some cs.length)
    (h : wpQuiet P ops (BW w) Q rest (a.put o.dst (.agg cs.toArray))) : wpQuiet P ops (BW w) Q (o :: rest) a := by
  refine q_val hg (.agg cs.toArray) (fun w' hw' => ?_) h
  unfold execOp
  simp only [ho, hx, Instr.loadAt, Instr.sureAddr, Sem.run_bind, Sem.run_pure, Result.andThen_ok, run_loadVar_mid w' b off ty cs d (fun j v hj => by rw [hw'.cell (by exact hb)]; exact hc j v hj) hu hd hi]
end
end Qt
end Go.Proofs.YtbojijefenfbgaaDoor
