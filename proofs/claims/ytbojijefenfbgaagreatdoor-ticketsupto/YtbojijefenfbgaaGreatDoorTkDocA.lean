/- Walks of the document's own reckoning: prime, small. -/
/- Walks of the document's own reckoning: prime. -/
/- Walks of the program's field: addRow, Mul. -/
/- The arithmetic of the program's Mul: rows of words, what stands beyond bit 255 brought back 19 times. -/
/- The primes: P = 2^255 - 19 and L, the order of the base, by certificates that the kernel checks. -/
import Derived.Test.YtbojijefenfbgaaGreatDoorTkFieldAdd
import Derived.KernelRfl
namespace Go.Proofs.YtbojijefenfbgaaGreatDoor
open Go.RowKit
namespace Dc
open Bt
/-- Sixteen parts. -/
def num (f : Nat → Int) : Array Value := Own.mkRow 16 fun j => .int .i64 (f j)
theorem num_cell {w : World} {b : Nat} {f : Nat → Int} {t : TypeId} (h : w.heap[b]? = some (.cells (num f) t (0, 0))) (j : Nat) (hj : j < 16) : w.cell? ⟨b, j, none⟩ = some (.int .i64 (f j)) := Own.row_cell h j hj
theorem num_frozen {w : World} {b : Nat} {f : Nat → Int} {t : TypeId} (h : w.heap[b]? = some (.cells (num f) t (0, 0))) (j : Nat) : w.frozen? ⟨b, j, none⟩ = false := Own.row_frozen h j
theorem num_congr {f g : Nat → Int} (h : ∀ j, j < 16 → f j = g j) : num f = num g := Own.mkRow_congr fun j hj => by rw [h j hj]
theorem num_store {w : World} {b : Nat} {f : Nat → Int} {t : TypeId} (h : w.heap[b]? = some (.cells (num f) t (0, 0))) (i : Nat) (v : Int) : (w.setCell ⟨b, i, none⟩ (.int .i64 v)).heap[b]? = some (.cells (num fun j => if j = i then v else f j) t (0, 0)) := by
  rw [Own.row_store h i]
  congr 2
  refine Own.mkRow_congr fun j _ => ?_
  by_cases e : j = i
  · show _ = Value.int .i64 (if j = i then v else f j)
    rw [if_pos e, if_pos e]
  · show _ = Value.int .i64 (if j = i then v else f j)
    rw [if_neg e, if_neg e]
theorem num_one (f : Nat → Int) : (num f).all (·.oneCell') = true := Own.all_one fun _ _ => rfl
theorem num_size (f : Nat → Int) : (num f).size = 16 := Own.mkRow_size _ _
/-- The parts of a number. -/
def dg (n : Int) (j : Nat) : Int := n / 65536 ^ j % 65536
def nm (n : Int) : Array Value := num (dg n)
/-- Sixteen parts written out. -/
def lst (l : List Int) (j : Nat) : Int := l.getD j 0
theorem lst_num (l : List Int) (h : l.length = 16) : (l.map (Value.int .i64)).toArray = num (lst l) := by
  refine Own.mkRow_list _ 16 (by rw [List.length_map, h]) _ fun j hj => ?_
  rw [List.length_map] at hj
  rw [List.getElem_map, lst, List.getD_eq_getElem?_getD, List.getElem?_eq_getElem hj]
  rfl
theorem lit_num (a0 a1 a2 a3 a4 a5 a6 a7 a8 a9 a10 a11 a12 a13 a14 a15 : Int) : #[Value.int .i64 a0, Value.int .i64 a1, Value.int .i64 a2, Value.int .i64 a3, Value.int .i64 a4, Value.int .i64 a5, Value.int .i64 a6, Value.int .i64 a7, Value.int .i64 a8, Value.int .i64 a9, Value.int .i64 a10, Value.int .i64 a11, Value.int .i64 a12, Value.int .i64 a13, Value.int .i64 a14, Value.int .i64 a15] = num (lst [a0, a1, a2, a3, a4, a5, a6, a7, a8, a9, a10, a11, a12, a13, a14, a15]) := lst_num [a0, a1, a2, a3, a4, a5, a6, a7, a8, a9, a10, a11, a12, a13, a14, a15] rfl
theorem zed_num : num (fun _ => 0) = #[.int .i64 0, .int .i64 0, .int .i64 0, .int .i64 0, .int .i64 0, .int .i64 0, .int .i64 0, .int .i64 0, .int .i64 0, .int .i64 0, .int .i64 0, .int .i64 0, .int .i64 0, .int .i64 0, .int .i64 0, .int .i64 0] := by
  rw [lit_num]
  exact num_congr (by decide)
theorem dg_small (n : Int) (h0 : 0 ≤ n) (h1 : n < 65536) (j : Nat) : dg n j = if j = 0 then n else 0 := by
  unfold dg
  by_cases e : j = 0
  · subst e
    rw [if_pos rfl, Int.pow_zero, Int.ediv_one]
    omega
  · rw [if_neg e]
    have h2 : (65536 : Int) ≤ 65536 ^ j := by
      obtain ⟨k, rfl⟩ : ∃ k, j = k + 1 := ⟨j - 1, by omega⟩
      have := pow_pos' (show (0 : Int) < 65536 by decide) k
      rw [Int.pow_succ]
      omega
    rw [Int.ediv_eq_zero_of_lt h0 (by omega)]
    rfl
theorem l_alloc (w : World) {ops : Array Oper} {rest : List Oper} {o : Oper} {a : Act} {Q : Exit → Act → World → Prop} (hg : o.guard = none) (hop : o.op = Op.alloc 95)
    (hK : wpList Tryz.prog ops Q rest (a.put o.dst (.pointer (some ⟨w.heap.size, 0, none⟩))) (w.alloc (.cells (num fun _ => 0) 95))) : wpList Tryz.prog ops Q (o :: rest) a w :=
  Own.wpList_alloc_at w hg 95 hop _ (by rw [zed_num]; kernel_rfl) hK
theorem l_load {ops : Array Oper} {rest : List Oper} {o : Oper} {a : Act} {w : World} {Q : Exit → Act → World → Prop} (hg : o.guard = none) (x : Operand) (ho : o.op = .load 95 x) (b : Nat) (f : Nat → Int) (hx : a.eval x = .pointer (some ⟨b, 0, none⟩)) (hb : w.heap[b]? = some (.cells (num f) 95 (0, 0)))
    (h : wpList Tryz.prog ops Q rest (a.put o.dst (.agg (num f))) w) : wpList Tryz.prog ops Q (o :: rest) a w :=
  wpList_load_row hg 95 x ho b hx 95 (num f) (0, 0) _ hb Tryz.underlying95 rfl (by rw [num_size]; kernel_rfl) h
theorem l_store {ops : Array Oper} {rest : List Oper} {o : Oper} {a : Act} {w : World} {Q : Exit → Act → World → Prop} (hg : o.guard = none) (x y : Operand) (ho : o.op = .store 95 x y) (b : Nat) (f g : Nat → Int) (hx : a.eval x = .pointer (some ⟨b, 0, none⟩)) (hy : a.eval y = .agg (num f)) (hb : w.heap[b]? = some (.cells (num g) 95 (0, 0)))
    (h : wpList Tryz.prog ops Q rest (a.put o.dst undef) (w.setRow b (num f))) : wpList Tryz.prog ops Q (o :: rest) a w :=
  wpList_store_row hg 95 x y ho b (num f) hx hy 95 (num g) hb (by rw [num_size]; kernel_rfl) (by rw [num_size, num_size]) (num_one f) h
set_option maxRecDepth 100000 in
set_option maxHeartbeats 400000 in
theorem small_f (n : Int) (h0 : 0 ≤ n) (h1 : n < 65536) (w : World) : Calls Tryz.prog 43 #[.int .i64 n] w fun e w' => e = .returned (.agg (nm n)) ∧ Below w.heap.size w w' := by
  have HE : Hid (nm n = num fun j => if j = 0 then n else 0) := num_congr fun j _ => dg_small n h0 h1 j
  clear h0 h1
  go_enter Tryz.func43, Tryz.ntmps43
  go_wp2_with fail
  rw [lit_num]
  refine Own.ret_row Tryz.results43 rfl w.heap.size 95 (num (lst [n, 0, 0, 0, 0, 0, 0, 0, 0, 0, 0, 0, 0, 0, 0, 0])) (0, 0) _ rfl ((heap_alloc_old _ _ (by simp)).trans (heap_alloc_new _ _)) Tryz.underlying95 rfl (by rw [num_size]; kernel_rfl) ⟨?_, ?_⟩
  · rw [HE.out, num_congr]
    intro j hj
    rcases j with _ | j
    · rfl
    · rw [if_neg (by omega)]
      rcases j with _ | _ | _ | _ | _ | _ | _ | _ | _ | _ | _ | _ | _ | _ | _ | j <;> first | rfl | omega
  · exact ((Below.refl _ _).alloc (Nat.le_refl _) _).alloc (by simp) _
end Dc
end Go.Proofs.YtbojijefenfbgaaGreatDoor
namespace Go.Proofs.YtbojijefenfbgaaGreatDoor
open Go.RowKit
namespace Dc
open Bt
def pI : Int := 57896044618658097711785492504343953926634992332820282019728792003956564819949
theorem pI_num : nm pI = num fun j => if j = 15 then 32767 else if j = 0 then 65517 else 65535 := num_congr (by decide)
/-- What is below a block stays when a block from there on is written. -/
theorem below_cell {B : Nat} {a w : World} (h : Below B a w) (b i : Nat) (hb : B ≤ b) (v : Value) : Below B a (w.setCell ⟨b, i, none⟩ v) := h.setCell (p := ⟨b, i, none⟩) hb v
set_option maxRecDepth 100000 in
set_option maxHeartbeats 400000 in
theorem prime_f (w : World) : Calls Tryz.prog 97 #[] w fun e w' => e = .returned (.agg (nm pI)) ∧ Below w.heap.size w w' := by
  go_enter Tryz.func97, Tryz.ntmps97
  go_wp2_with (refine l_alloc _ rfl rfl ?_)
  obtain ⟨g, hg⟩ : ∃ g, g = w.heap.size := ⟨_, rfl⟩
  have HR0 : Hid (((w.alloc (.cells (num fun _ => 0) 95)).alloc (.cells (num fun _ => 0) 95)).heap[g]? = some (.cells (num fun _ => 0) 95 (0, 0))) := by
    rw [hg]
    exact (heap_alloc_old _ _ (by simp)).trans (heap_alloc_new _ _)
  have HP0 : Hid (((w.alloc (.cells (num fun _ => 0) 95)).alloc (.cells (num fun _ => 0) 95)).heap[g + 1]? = some (.cells (num fun j => if j < 0 then 65535 else 0) 95 (0, 0))) := by
    have := heap_alloc_new (w.alloc (.cells (num fun _ => 0) 95)) (.cells (num fun _ => 0) 95)
    rw [World.size_alloc, ← hg] at this
    exact this
  have HB0 : Hid (Below g w ((w.alloc (.cells (num fun _ => 0) 95)).alloc (.cells (num fun _ => 0) 95))) := by
    rw [hg]
    exact ((Below.refl _ _).alloc (Nat.le_refl _) _).alloc (by simp) _
  generalize (w.alloc (.cells (num fun _ => 0) 95)).alloc (.cells (num fun _ => 0) 95) = w0 at *
  rw [← hg]
  have HG : Hid (w.heap.size ≤ g) := Nat.le_of_eq hg.symm
  clear hg
  go_loopw [2] (fun i wq => ∃ k : Nat, k ≤ 16 ∧ i = .int .i64 (k : Int) ∧ wq.heap[g]? = some (.cells (num fun _ => 0) 95 (0, 0)) ∧ wq.heap[g + 1]? = some (.cells (num fun j => if j < k then 65535 else 0) 95 (0, 0)) ∧ Below g w wq) (fun i _ => 16 - (intOf i).toNat)
  case atStart => exact ⟨0, by omega, rfl, HR0.out, HP0.out, HB0.out⟩
  case round =>
    clear HR0 HP0 HB0
    rename World => wa
    obtain ⟨k, hk, rfl, hr, hp, hb⟩ := hrel
    have HR : Hid _ := hr
    have HP : Hid _ := hp
    have HB : Hid _ := hb
    clear hr hp hb
    by_cases hk16 : k < 16
    · have hc1 := num_cell HP.out k hk16
      have hfz := num_frozen HP.out k
      simp only [if_neg (Nat.lt_irrefl k)] at hc1
      go_wp2_with fail
      refine ⟨⟨k + 1, by omega, by rw [Int.natCast_add]; rfl, ?_, ?_, ?_⟩, ?_⟩
      · exact (Below.heap_setCell _ _ _ g (by show g ≠ g + 1; omega)).trans HR.out
      · rw [num_store HP.out k 65535, num_congr]
        intro j _
        by_cases e : j = k
        · rw [if_pos e, if_pos (by omega)]
        · by_cases h : j < k
          · rw [if_neg e, if_pos h, if_pos (by omega)]
          · rw [if_neg e, if_neg h, if_neg (by omega)]
      · exact below_cell HB.out _ _ (by omega) _
      · show 16 - ((k : Int) + 1).toNat < 16 - (k : Int).toNat
        omega
    · obtain rfl : k = 16 := by omega
      have HP1 : Hid _ := num_store HP.out 0 65517
      have HP2 : Hid _ := num_store HP1.out 15 32767
      have HR2 : Hid (((wa.setCell ⟨g + 1, 0, none⟩ (.int .i64 65517)).setCell ⟨g + 1, 15, none⟩ (.int .i64 32767)).heap[g]? = some (.cells (num fun _ => 0) 95 (0, 0))) := ((Below.heap_setCell _ _ _ g (by show g ≠ g + 1; omega)).trans (Below.heap_setCell _ _ _ g (by show g ≠ g + 1; omega))).trans HR.out
      have hc1 := num_cell HP.out 0 (by omega)
      have hfz := num_frozen HP.out 0
      have hc2 := num_cell HP1.out 15 (by omega)
      have hfz2 := num_frozen HP1.out 15
      go_wp2_with (first | refine l_load rfl _ rfl (g + 1) _ rfl HP2.out ?_ | refine l_store rfl _ _ rfl g _ _ rfl rfl HR2.out ?_)
      refine Own.ret_row Tryz.results97 rfl g 95 _ (0, 0) _ rfl (setRow_heap _ _ _ _ _ _ HR2.out) Tryz.underlying95 rfl (by rw [num_size]; kernel_rfl) ⟨?_, ?_⟩
      · rw [pI_num, num_congr]
        intro j hj
        rw [if_pos hj]
      · exact ((below_cell (below_cell HB.out _ _ (by omega) _) _ _ (by omega) _).trans (Fw.below_setRow _ _ _)).mono HG.out
end Dc
end Go.Proofs.YtbojijefenfbgaaGreatDoor
namespace Go.Proofs.YtbojijefenfbgaaGreatDoor
open Go.RowKit
namespace Fw
open Bt
attribute [local go_sem] run_Add64_xy0 run_Add64_19 run_Add64_0c run_Sub64_xy0 run_Sub64_0c
attribute [local go_sem] UV.u_add UV.u_mul UV.u_sub UV.u_xor UV.u_and UV.u_or UV.u_shr UV.u_shl UV.u_not UV.u_notm UV.u_wrap_un run_Add64 run_Sub64 u_mul19

/-- The carries of p + a n. -/
def g1 (p a : Q) (n : BitVec 64) : Bool := carry p.a0 (a.a0 * n) false
def g2 (p a : Q) (n : BitVec 64) : Bool := carry p.a1 (a.a1 * n) (g1 p a n)
def g3 (p a : Q) (n : BitVec 64) : Bool := carry p.a2 (a.a2 * n) (g2 p a n)
def g4 (p a : Q) (n : BitVec 64) : Bool := carry p.a3 (a.a3 * n) (g3 p a n)
def u1 (p a : Q) (n : BitVec 64) : BitVec 64 := p.a1 + a.a1 * n + bv (g1 p a n)
def u2 (p a : Q) (n : BitVec 64) : BitVec 64 := p.a2 + a.a2 * n + bv (g2 p a n)
def u3 (p a : Q) (n : BitVec 64) : BitVec 64 := p.a3 + a.a3 * n + bv (g3 p a n)
def h1 (p a : Q) (n : BitVec 64) : Bool := carry (u1 p a n) (mulH a.a0 n) false
def h2 (p a : Q) (n : BitVec 64) : Bool := carry (u2 p a n) (mulH a.a1 n) (h1 p a n)
def h3 (p a : Q) (n : BitVec 64) : Bool := carry (u3 p a n) (mulH a.a2 n) (h2 p a n)
def r0 (p a : Q) (n : BitVec 64) : BitVec 64 := p.a0 + a.a0 * n + bv false
def r1 (p a : Q) (n : BitVec 64) : BitVec 64 := u1 p a n + mulH a.a0 n + bv false
def r2 (p a : Q) (n : BitVec 64) : BitVec 64 := u2 p a n + mulH a.a1 n + bv (h1 p a n)
def r3 (p a : Q) (n : BitVec 64) : BitVec 64 := u3 p a n + mulH a.a2 n + bv (h2 p a n)
def r4 (p a : Q) (n : BitVec 64) : BitVec 64 := mulH a.a3 n + bv (g4 p a n) + bv (h3 p a n)

set_option maxHeartbeats 400000 in
theorem addRow_any (p a : Q) (n : BitVec 64) (w : World) :
    Calls Tryz.prog 242 #[.int .u64 (un p.a0), .int .u64 (un p.a1), .int .u64 (un p.a2), .int .u64 (un p.a3), .int .u64 (un a.a0), .int .u64 (un a.a1), .int .u64 (un a.a2), .int .u64 (un a.a3), .int .u64 (un n)] w
      fun e w' => e = .returned (.tuple #[.int .u64 (un (r0 p a n)), .int .u64 (un (r1 p a n)), .int .u64 (un (r2 p a n)), .int .u64 (un (r3 p a n)), .int .u64 (un (r4 p a n))]) ∧ w' = w := by
  go_enter Tryz.func242, Tryz.ntmps242
  go_wp2_with (go_at_call 274; refine (mul64_any _ _ _).mono ?_; rintro e w' ⟨rfl, rfl⟩)
  refine bodyPost_ret (v := .tuple #[.int .u64 (un (r0 p a n)), .int .u64 (un (r1 p a n)), .int .u64 (un (r2 p a n)), .int .u64 (un (r3 p a n)), .int .u64 (un (r4 p a n))]) (by simp [results, Tryz.results242, go_sem, r0, r1, r2, r3, r4, u1, u2, u3, g1, g2, g3, g4, h1, h2, h3]) rfl ⟨rfl, rfl⟩
theorem add_chain (t0 t1 t2 t3 b0 b1 b2 b3 a0 a1 a2 a3 c0 c1 c2 c3 c4 : Nat) (v0 : t0 + 18446744073709551616 * c1 = a0 + b0 + c0) (v1 : t1 + 18446744073709551616 * c2 = a1 + b1 + c1) (v2 : t2 + 18446744073709551616 * c3 = a2 + b2 + c2) (v3 : t3 + 18446744073709551616 * c4 = a3 + b3 + c3) :
    (t0 + 18446744073709551616 * t1 + 340282366920938463463374607431768211456 * t2 + 6277101735386680763835789423207666416102355444464034512896 * t3) + 115792089237316195423570985008687907853269984665640564039457584007913129639936 * c4 = (a0 + 18446744073709551616 * a1 + 340282366920938463463374607431768211456 * a2 + 6277101735386680763835789423207666416102355444464034512896 * a3) + (b0 + 18446744073709551616 * b1 + 340282366920938463463374607431768211456 * b2 + 6277101735386680763835789423207666416102355444464034512896 * b3) + c0 := by omega
theorem add_chain3 (t1 t2 t3 b1 b2 b3 a1 a2 a3 c0 c1 c2 c3 : Nat) (v1 : t1 + 18446744073709551616 * c1 = a1 + b1 + c0) (v2 : t2 + 18446744073709551616 * c2 = a2 + b2 + c1) (v3 : t3 + 18446744073709551616 * c3 = a3 + b3 + c2) :
    (18446744073709551616 * t1 + 340282366920938463463374607431768211456 * t2 + 6277101735386680763835789423207666416102355444464034512896 * t3) + 115792089237316195423570985008687907853269984665640564039457584007913129639936 * c3 = (18446744073709551616 * a1 + 340282366920938463463374607431768211456 * a2 + 6277101735386680763835789423207666416102355444464034512896 * a3) + (18446744073709551616 * b1 + 340282366920938463463374607431768211456 * b2 + 6277101735386680763835789423207666416102355444464034512896 * b3) + 18446744073709551616 * c0 := by omega
theorem num_mul (a : Q) (n : Nat) : a.num * n = a.a0.toNat * n + 18446744073709551616 * (a.a1.toNat * n) + 340282366920938463463374607431768211456 * (a.a2.toNat * n) + 6277101735386680763835789423207666416102355444464034512896 * (a.a3.toNat * n) := by
  unfold Q.num
  rw [Nat.add_mul, Nat.add_mul, Nat.add_mul, Nat.mul_assoc, Nat.mul_assoc, Nat.mul_assoc]
theorem num_lt (a : Q) : a.num < 115792089237316195423570985008687907853269984665640564039457584007913129639936 := by
  have h0 := a.a0.isLt
  have h1 := a.a1.isLt
  have h2 := a.a2.isLt
  have h3 := a.a3.isLt
  unfold Q.num
  omega
/-- A row's five words. -/
def row5 (p a : Q) (n : BitVec 64) : Nat := (r0 p a n).toNat + 18446744073709551616 * (r1 p a n).toNat + 340282366920938463463374607431768211456 * (r2 p a n).toNat + 6277101735386680763835789423207666416102355444464034512896 * (r3 p a n).toNat + 115792089237316195423570985008687907853269984665640564039457584007913129639936 * (r4 p a n).toNat
theorem row_end (R U L H N T p an c4 d3 h3 r4 R3 : Nat) (e1 : U + 115792089237316195423570985008687907853269984665640564039457584007913129639936 * c4 = p + L + 0) (e2 : R3 + 115792089237316195423570985008687907853269984665640564039457584007913129639936 * d3 = T + H + 0) (e3 : L + H + 115792089237316195423570985008687907853269984665640564039457584007913129639936 * h3 = an) (e4 : U = N + T) (hR : R = N + R3) (hb : p + an < 115792089237316195423570985008687907853269984665640564039457584007913129639936 * 18446744073709551616) (hr : r4 = (h3 + c4 + d3) % 18446744073709551616) :
    R + 115792089237316195423570985008687907853269984665640564039457584007913129639936 * r4 = p + an := by
  have hs : R + 115792089237316195423570985008687907853269984665640564039457584007913129639936 * (h3 + c4 + d3) = p + an := by omega
  have hlt : h3 + c4 + d3 < 18446744073709551616 := by omega
  rw [hr, Nat.mod_eq_of_lt hlt]
  exact hs
theorem row5_num (p a : Q) (n : BitVec 64) : row5 p a n = p.num + a.num * n.toNat := by
  have v0 : (r0 p a n).toNat + 18446744073709551616 * (bv (g1 p a n)).toNat = p.a0.toNat + (a.a0 * n).toNat + 0 := add_val p.a0 (a.a0 * n) false
  have v1 : (u1 p a n).toNat + 18446744073709551616 * (bv (g2 p a n)).toNat = p.a1.toNat + (a.a1 * n).toNat + (bv (g1 p a n)).toNat := add_val p.a1 (a.a1 * n) (g1 p a n)
  have v2 : (u2 p a n).toNat + 18446744073709551616 * (bv (g3 p a n)).toNat = p.a2.toNat + (a.a2 * n).toNat + (bv (g2 p a n)).toNat := add_val p.a2 (a.a2 * n) (g2 p a n)
  have v3 : (u3 p a n).toNat + 18446744073709551616 * (bv (g4 p a n)).toNat = p.a3.toNat + (a.a3 * n).toNat + (bv (g3 p a n)).toNat := add_val p.a3 (a.a3 * n) (g3 p a n)
  have w1 : (r1 p a n).toNat + 18446744073709551616 * (bv (h1 p a n)).toNat = (u1 p a n).toNat + (mulH a.a0 n).toNat + 0 := add_val (u1 p a n) (mulH a.a0 n) false
  have w2 : (r2 p a n).toNat + 18446744073709551616 * (bv (h2 p a n)).toNat = (u2 p a n).toNat + (mulH a.a1 n).toNat + (bv (h1 p a n)).toNat := add_val (u2 p a n) (mulH a.a1 n) (h1 p a n)
  have w3 : (r3 p a n).toNat + 18446744073709551616 * (bv (h3 p a n)).toNat = (u3 p a n).toNat + (mulH a.a2 n).toNat + (bv (h2 p a n)).toNat := add_val (u3 p a n) (mulH a.a2 n) (h2 p a n)
  have x0 := mul_val a.a0 n
  have x1 := mul_val a.a1 n
  have x2 := mul_val a.a2 n
  have x3 := mul_val a.a3 n
  have e1 := add_chain _ _ _ _ _ _ _ _ _ _ _ _ _ _ _ _ _ v0 v1 v2 v3
  have e2 := add_chain3 _ _ _ _ _ _ _ _ _ _ _ _ _ w1 w2 w3
  have hr4 : (r4 p a n).toNat = ((mulH a.a3 n).toNat + (bv (g4 p a n)).toNat + (bv (h3 p a n)).toNat) % 18446744073709551616 := by
    unfold r4
    rw [BitVec.toNat_add, BitVec.toNat_add]
    omega
  have hb : p.num + a.num * n.toNat < 115792089237316195423570985008687907853269984665640564039457584007913129639936 * 18446744073709551616 := by
    have hp := num_lt p
    have ha := num_lt a
    have hn := n.isLt
    have hm : a.num * n.toNat ≤ (115792089237316195423570985008687907853269984665640564039457584007913129639936 - 1) * (18446744073709551616 - 1) := Nat.mul_le_mul (by omega) (by omega)
    omega
  clear v0 v1 v2 v3 w1 w2 w3
  unfold row5
  refine row_end ((r0 p a n).toNat + 18446744073709551616 * (r1 p a n).toNat + 340282366920938463463374607431768211456 * (r2 p a n).toNat + 6277101735386680763835789423207666416102355444464034512896 * (r3 p a n).toNat) _ _ (18446744073709551616 * (mulH a.a0 n).toNat + 340282366920938463463374607431768211456 * (mulH a.a1 n).toNat + 6277101735386680763835789423207666416102355444464034512896 * (mulH a.a2 n).toNat) (r0 p a n).toNat (18446744073709551616 * (u1 p a n).toNat + 340282366920938463463374607431768211456 * (u2 p a n).toNat + 6277101735386680763835789423207666416102355444464034512896 * (u3 p a n).toNat) p.num (a.num * n.toNat) _ _ (mulH a.a3 n).toNat _ (18446744073709551616 * (r1 p a n).toNat + 340282366920938463463374607431768211456 * (r2 p a n).toNat + 6277101735386680763835789423207666416102355444464034512896 * (r3 p a n).toNat) e1 (by simpa using e2) ?_ (by omega) (by omega) hb hr4
  clear e1 e2 hr4 hb
  rw [num_mul, ← x0, ← x1, ← x2, ← x3]
  omega
end Fw
end Go.Proofs.YtbojijefenfbgaaGreatDoor
namespace Go.Proofs.YtbojijefenfbgaaGreatDoor
open Go.RowKit
namespace Fw
open Bt

def hiQ (p a : Q) (n : BitVec 64) : Q := ⟨r1 p a n, r2 p a n, r3 p a n, r4 p a n⟩
def loQ (p a : Q) (n : BitVec 64) : Q := ⟨r0 p a n, r1 p a n, r2 p a n, r3 p a n⟩
def zQ : Q := ⟨0#64, 0#64, 0#64, 0#64⟩
theorem zQ_num : zQ.num = 0 := rfl
theorem row5_hi (p a : Q) (n : BitVec 64) : row5 p a n = (r0 p a n).toNat + 18446744073709551616 * (hiQ p a n).num := by
  unfold row5 Q.num hiQ
  simp only
  omega
theorem row5_lo (p a : Q) (n : BitVec 64) : row5 p a n = (loQ p a n).num + 115792089237316195423570985008687907853269984665640564039457584007913129639936 * (r4 p a n).toNat := by
  unfold row5 Q.num loQ
  simp only
theorem hi_val (p a : Q) (n : BitVec 64) : (r0 p a n).toNat + 18446744073709551616 * (hiQ p a n).num = p.num + a.num * n.toNat := by
  rw [← row5_hi, row5_num]
theorem lo_val (p a : Q) (n : BitVec 64) : (loQ p a n).num + 115792089237316195423570985008687907853269984665640564039457584007913129639936 * (r4 p a n).toNat = p.num + a.num * n.toNat := by
  rw [← row5_lo, row5_num]
def q1 (a b : Q) : Q := hiQ zQ a b.a0
def q2 (a b : Q) : Q := hiQ (q1 a b) a b.a1
def q3 (a b : Q) : Q := hiQ (q2 a b) a b.a2
def q4 (a b : Q) : Q := hiQ (q3 a b) a b.a3
def lw (a b : Q) : Q := ⟨r0 zQ a b.a0, r0 (q1 a b) a b.a1, r0 (q2 a b) a b.a2, r0 (q3 a b) a b.a3⟩
theorem four (A n0 n1 n2 n3 l0 l1 l2 l3 h1 h2 h3 h4 m0 m1 m2 m3 : Nat) (e0 : m0 = A * n0) (e1 : m1 = A * n1) (e2 : m2 = A * n2) (e3 : m3 = A * n3) (v0 : l0 + 18446744073709551616 * h1 = 0 + m0) (v1 : l1 + 18446744073709551616 * h2 = h1 + m1) (v2 : l2 + 18446744073709551616 * h3 = h2 + m2) (v3 : l3 + 18446744073709551616 * h4 = h3 + m3) :
    (l0 + 18446744073709551616 * l1 + 340282366920938463463374607431768211456 * l2 + 6277101735386680763835789423207666416102355444464034512896 * l3) + 115792089237316195423570985008687907853269984665640564039457584007913129639936 * h4 = A * (n0 + 18446744073709551616 * n1 + 340282366920938463463374607431768211456 * n2 + 6277101735386680763835789423207666416102355444464034512896 * n3) := by
  rw [Nat.mul_add, Nat.mul_add, Nat.mul_add, Nat.mul_left_comm A 18446744073709551616, Nat.mul_left_comm A 340282366920938463463374607431768211456, Nat.mul_left_comm A 6277101735386680763835789423207666416102355444464034512896, ← e0, ← e1, ← e2, ← e3]
  omega
theorem wide_val (a b : Q) : (lw a b).num + 115792089237316195423570985008687907853269984665640564039457584007913129639936 * (q4 a b).num = a.num * b.num := by
  have v0 := hi_val zQ a b.a0
  have v1 := hi_val (q1 a b) a b.a1
  have v2 := hi_val (q2 a b) a b.a2
  have v3 := hi_val (q3 a b) a b.a3
  rw [zQ_num] at v0
  exact four a.num b.a0.toNat b.a1.toNat b.a2.toNat b.a3.toNat _ _ _ _ _ _ _ _ _ _ _ _ rfl rfl rfl rfl v0 v1 v2 v3
/-- The five words of the number modulo 2^256 times 38. -/
def t0 (a b : Q) : BitVec 64 := r0 (lw a b) (q4 a b) 38#64
def t1 (a b : Q) : BitVec 64 := r1 (lw a b) (q4 a b) 38#64
def t2 (a b : Q) : BitVec 64 := r2 (lw a b) (q4 a b) 38#64
def t3 (a b : Q) : BitVec 64 := r3 (lw a b) (q4 a b) 38#64
def t4 (a b : Q) : BitVec 64 := r4 (lw a b) (q4 a b) 38#64
def ov (a b : Q) : BitVec 64 := t4 a b <<< 1 ||| t3 a b >>> 63
def o1 (a b : Q) : Bool := carry (t0 a b) (19#64 * ov a b) false
def o2 (a b : Q) : Bool := carry (t1 a b) 0#64 (o1 a b)
def o3 (a b : Q) : Bool := carry (t2 a b) 0#64 (o2 a b)
def mulQ (a b : Q) : Q := ⟨t0 a b + 19#64 * ov a b + bv false, t1 a b + bv (o1 a b), t2 a b + bv (o2 a b), (t3 a b &&& 9223372036854775807#64) + bv (o3 a b)⟩
theorem ov_val (x y : BitVec 64) (h : x.toNat ≤ 38) : (x <<< 1 ||| y >>> 63).toNat = 2 * x.toNat + y.toNat / 9223372036854775808 := by
  have hy := y.isLt
  rw [BitVec.toNat_or, BitVec.toNat_shiftLeft, BitVec.toNat_ushiftRight, Nat.shiftRight_eq_div_pow]
  have h1 : x.toNat <<< 1 % 2 ^ 64 = x.toNat <<< 1 := Nat.mod_eq_of_lt (by rw [Nat.shiftLeft_eq]; omega)
  rw [h1, ← Nat.shiftLeft_add_eq_or_of_lt (by omega), Nat.shiftLeft_eq]
  omega
theorem mul19o (x : BitVec 64) (h : x.toNat ≤ 77) : (19#64 * x).toNat = 19 * x.toNat := by
  rw [BitVec.toNat_mul, show (19#64).toNat = 19 from rfl]
  exact Nat.mod_eq_of_lt (by omega)
theorem low_val (x : BitVec 64) : (x &&& 9223372036854775807#64).toNat = x.toNat % 9223372036854775808 := by
  rw [BitVec.toNat_and]
  exact Nat.and_two_pow_sub_one_eq_mod _ 63
theorem mul_end (T R x0 x1 x2 x3 c4 y0 y1 y2 y3 c1 c2 c3 o : Nat) (hT : x0 + 18446744073709551616 * x1 + 340282366920938463463374607431768211456 * x2 + 6277101735386680763835789423207666416102355444464034512896 * x3 + 115792089237316195423570985008687907853269984665640564039457584007913129639936 * c4 = T)
    (h0 : x0 < 18446744073709551616) (h1 : x1 < 18446744073709551616) (h2 : x2 < 18446744073709551616) (h3 : x3 < 18446744073709551616) (h4 : c4 ≤ 38) (ho : o = 2 * c4 + x3 / 9223372036854775808)
    (v0 : y0 + 18446744073709551616 * c1 = x0 + 19 * o + 0) (v1 : y1 + 18446744073709551616 * c2 = x1 + 0 + c1) (v2 : y2 + 18446744073709551616 * c3 = x2 + 0 + c2) (v3 : y3 = x3 % 9223372036854775808 + c3)
    (hR : R = y0 + 18446744073709551616 * y1 + 340282366920938463463374607431768211456 * y2 + 6277101735386680763835789423207666416102355444464034512896 * y3) :
    R < 2 * PP ∧ R + PP * o = T := by
  rw [PP_eq]
  omega
theorem t4_le (a b : Q) : (t4 a b).toNat ≤ 38 := by
  have h := lo_val (lw a b) (q4 a b) 38#64
  have h1 := num_lt (lw a b)
  have h2 := num_lt (q4 a b)
  rw [show (38#64).toNat = 38 from rfl] at h
  show (r4 (lw a b) (q4 a b) 38#64).toNat ≤ 38
  omega
theorem top_val (x : BitVec 64) (b : Bool) : ((x &&& 9223372036854775807#64) + bv b).toNat = x.toNat % 9223372036854775808 + (bv b).toNat := by
  have hb := bv_le b
  rw [BitVec.toNat_add, low_val]
  exact Nat.mod_eq_of_lt (by omega)
theorem mulQ_num (a b : Q) : (mulQ a b).num < 2 * PP ∧ (mulQ a b).num % PP = a.num * b.num % PP := by
  have hw := wide_val a b
  have ht : (t0 a b).toNat + 18446744073709551616 * (t1 a b).toNat + 340282366920938463463374607431768211456 * (t2 a b).toNat + 6277101735386680763835789423207666416102355444464034512896 * (t3 a b).toNat + 115792089237316195423570985008687907853269984665640564039457584007913129639936 * (t4 a b).toNat = (lw a b).num + (q4 a b).num * 38 := row5_num (lw a b) (q4 a b) 38#64
  have h4 := t4_le a b
  have ho : (ov a b).toNat = 2 * (t4 a b).toNat + (t3 a b).toNat / 9223372036854775808 := ov_val _ _ h4
  have l3 := (t3 a b).isLt
  have v0 := add_val (t0 a b) (19#64 * ov a b) false
  have v1 := add_val (t1 a b) 0#64 (o1 a b)
  have v2 := add_val (t2 a b) 0#64 (o2 a b)
  rw [mul19o _ (by omega), show carry (t0 a b) (19#64 * ov a b) false = o1 a b from rfl, show (bv false).toNat = 0 from rfl] at v0
  rw [show carry (t1 a b) 0#64 (o1 a b) = o2 a b from rfl, show (0#64).toNat = 0 from rfl, BitVec.add_zero] at v1
  rw [show carry (t2 a b) 0#64 (o2 a b) = o3 a b from rfl, show (0#64).toNat = 0 from rfl, BitVec.add_zero] at v2
  have hm := mul_end _ (mulQ a b).num _ _ _ _ _ _ _ _ _ _ _ _ _ ht (t0 a b).isLt (t1 a b).isLt (t2 a b).isLt l3 h4 ho v0 v1 v2 (top_val (t3 a b) (o3 a b)) rfl
  refine ⟨hm.1, ?_⟩
  have e1 : (mulQ a b).num % PP = ((lw a b).num + (q4 a b).num * 38) % PP := by rw [← hm.2, Nat.add_mul_mod_self_left]
  have e2 : a.num * b.num % PP = ((lw a b).num + (q4 a b).num * 38) % PP := by
    rw [← hw, show (lw a b).num + 115792089237316195423570985008687907853269984665640564039457584007913129639936 * (q4 a b).num = ((lw a b).num + (q4 a b).num * 38) + PP * (2 * (q4 a b).num) by rw [PP_eq]; omega, Nat.add_mul_mod_self_left]
  rw [e1, e2]
end Fw
end Go.Proofs.YtbojijefenfbgaaGreatDoor
namespace Go.Proofs.YtbojijefenfbgaaGreatDoor
namespace Nt
theorem prime_0 : IsPrime 8574133 := prime_of_trial 10000 (by decide) (by kernel_rfl)
theorem prime_1 : IsPrime 127 := prime_of_trial 10000 (by decide) (by kernel_rfl)
theorem prime_2 : IsPrime 1919519569386763 :=
  cert_two (f := 256) (q := 8574133) (r := 223873314) (q' := 127) (r' := 15114327318006) (a := 2) (by decide) (by decide) (by decide) (by decide) prime_0 prime_1 (by decide) (by decide) (by kernel_rfl) (by kernel_rfl) (by kernel_rfl)
theorem prime_3 : IsPrime 569003 := prime_of_trial 10000 (by decide) (by kernel_rfl)
theorem prime_4 : IsPrime 2773320623 :=
  cert_one (f := 256) (q := 569003) (r := 4874) (a := 2) (by decide) (by decide) (by decide) prime_3 (by decide) (by kernel_rfl) (by kernel_rfl)
theorem prime_5 : IsPrime 72106336199 :=
  cert_one (f := 256) (q := 2773320623) (r := 26) (a := 2) (by decide) (by decide) (by decide) prime_4 (by decide) (by kernel_rfl) (by kernel_rfl)
theorem prime_6 : IsPrime 75445702479781427272750846543864801 :=
  cert_two (f := 256) (q := 1919519569386763) (r := 39304471641247389600) (q' := 72106336199) (r' := 1046311689884858398375200) (a := 2) (by decide) (by decide) (by decide) (by decide) prime_2 prime_5 (by decide) (by decide) (by kernel_rfl) (by kernel_rfl) (by kernel_rfl)
theorem prime_7 : IsPrime 430751 := prime_of_trial 10000 (by decide) (by kernel_rfl)
theorem prime_8 : IsPrime 4153 := prime_of_trial 10000 (by decide) (by kernel_rfl)
theorem prime_9 : IsPrime 31757755568855353 :=
  cert_two (f := 256) (q := 430751) (r := 73726481352) (q' := 4153) (r' := 7646943310584) (a := 2) (by decide) (by decide) (by decide) (by decide) prime_7 prime_8 (by decide) (by decide) (by kernel_rfl) (by kernel_rfl) (by kernel_rfl)
theorem prime_10 : IsPrime 74058212732561358302231226437062788676166966415465897661863160754340907 :=
  cert_two (f := 256) (q := 75445702479781427272750846543864801) (r := 981609426360740691344999861639072106) (q' := 31757755568855353) (r' := 2331972502653487852620185443007392165117953542933313402) (a := 2) (by decide) (by decide) (by decide) (by decide) prime_6 prime_9 (by decide) (by decide) (by kernel_rfl) (by kernel_rfl) (by kernel_rfl)
theorem prime_P : IsPrime 57896044618658097711785492504343953926634992332820282019728792003956564819949 :=
  cert_one (f := 256) (q := 74058212732561358302231226437062788676166966415465897661863160754340907) (r := 781764) (a := 2) (by decide) (by decide) (by decide) prime_10 (by decide) (by kernel_rfl) (by kernel_rfl)
theorem prime_12 : IsPrime 1224481 := prime_of_trial 10000 (by decide) (by kernel_rfl)
theorem prime_13 : IsPrime 531581 := prime_of_trial 10000 (by decide) (by kernel_rfl)
theorem prime_14 : IsPrime 1257559732178653 :=
  cert_two (f := 256) (q := 1224481) (r := 1027014492) (q' := 531581) (r' := 2365697292) (a := 2) (by decide) (by decide) (by decide) (by decide) prime_12 prime_13 (by decide) (by decide) (by kernel_rfl) (by kernel_rfl) (by kernel_rfl)
theorem prime_15 : IsPrime 4434155615661930479 :=
  cert_one (f := 256) (q := 1257559732178653) (r := 3526) (a := 2) (by decide) (by decide) (by decide) prime_14 (by decide) (by kernel_rfl) (by kernel_rfl)
theorem prime_16 : IsPrime 172054593956031949258510691 :=
  cert_one (f := 256) (q := 4434155615661930479) (r := 38802110) (a := 2) (by decide) (by decide) (by decide) prime_15 (by decide) (by kernel_rfl) (by kernel_rfl)
theorem prime_17 : IsPrime 19757330305831588566944191468367130476339 :=
  cert_one (f := 256) (q := 172054593956031949258510691) (r := 114831751082918) (a := 2) (by decide) (by decide) (by decide) prime_16 (by decide) (by kernel_rfl) (by kernel_rfl)
theorem prime_18 : IsPrime 276602624281642239937218680557139826668747 :=
  cert_one (f := 256) (q := 19757330305831588566944191468367130476339) (r := 14) (a := 2) (by decide) (by decide) (by decide) prime_17 (by decide) (by kernel_rfl) (by kernel_rfl)
theorem prime_L : IsPrime 7237005577332262213973186563042994240857116359379907606001950938285454250989 :=
  cert_one (f := 256) (q := 276602624281642239937218680557139826668747) (r := 26163907866482859529727157400808004) (a := 2) (by decide) (by decide) (by decide) prime_18 (by decide) (by kernel_rfl) (by kernel_rfl)
end Nt
end Go.Proofs.YtbojijefenfbgaaGreatDoor
