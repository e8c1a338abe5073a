/- Numbers in parts to a base, with carries: what the document's own reckoning in parts of 16 bits comes to. Walks of the document's own reckoning: prime, small. Walks of the document's own reckoning: prime. Walks of the document's own reckoning: below, less. -/
import Derived.Test.YtbojijefenfbgaaGreatDoorGgNt
import Derived.Test.YtbojijefenfbgaaGreatDoorGgFieldWalks
import Derived.Test.YtbojijefenfbgaaGreatDoorGgExt
namespace Go.Proofs.YtbojijefenfbgaaGreatDoor
namespace Dc
def vi (B : Int) (f : Nat → Int) : Nat → Int
 | 0 => 0
 | k + 1 => vi B f k + f k * B ^ k
theorem vi_congr {B : Int} {f g : Nat → Int} {k : Nat} (h : ∀ j, j < k → f j = g j) : vi B f k = vi B g k := by
 induction k with
 | zero => rfl
 | succ k ih => simp only [vi, ih fun j hj => h j (by omega), h k (by omega)]
theorem vi_add (B : Int) (f g : Nat → Int) (k : Nat) : vi B (fun j => f j + g j) k = vi B f k + vi B g k := by
 induction k with
 | zero => rfl
 | succ k ih =>
  simp only [vi, ih, Int.add_mul]
  generalize f k * B ^ k = x
  generalize g k * B ^ k = y
  omega
theorem vi_sub (B : Int) (f g : Nat → Int) (k : Nat) : vi B (fun j => f j - g j) k = vi B f k - vi B g k := by
 induction k with
 | zero => rfl
 | succ k ih =>
  simp only [vi, ih, Int.sub_mul]
  generalize f k * B ^ k = x
  generalize g k * B ^ k = y
  omega
theorem vi_mul (B c : Int) (f : Nat → Int) (k : Nat) : vi B (fun j => c * f j) k = c * vi B f k := by
 induction k with
 | zero => simp [vi]
 | succ k ih => simp only [vi, ih, Int.mul_add, Int.mul_assoc]
theorem vi_set (B : Int) (f : Nat → Int) (i k : Nat) (v : Int) (hi : i < k) : vi B (fun j => if j = i then v else f j) k = vi B f k + (v - f i) * B ^ i := by
 induction k with
 | zero => omega
 | succ k ih =>
  by_cases e : i = k
  ·subst e
   simp only [vi, if_true]
   rw [vi_congr (g := f) fun j hj => if_neg (by omega), Int.sub_mul]
   generalize v * B ^ i = x
   generalize f i * B ^ i = y
   omega
  ·simp only [vi, ih (by omega)]
   rw [if_neg (fun h => e h.symm)]
   generalize (v - f i) * B ^ i = x
   omega
theorem vi_more (B : Int) (f : Nat → Int) (i k : Nat) : vi B f (i + k) = vi B f i + B ^ i * vi B (fun j => f (i + j)) k := by
 induction k with
 | zero => simp [vi]
 | succ k ih =>
  rw [← Nat.add_assoc, vi, ih, vi, Int.mul_add, Int.pow_add, Int.mul_comm (f (i + k)), Int.mul_comm (f (i + k)), Int.add_assoc, Int.mul_assoc]
def cF (B c0 : Int) (f : Nat → Int) : Nat → Int
 | 0 => c0
 | i + 1 => (f i + cF B c0 f i) / B
theorem pow_pos' {B : Int} (hB : 0 < B) (i : Nat) : 0 < B ^ i := Int.pow_pos hB
theorem cF_eq {B : Int} (hB : 0 < B) (c0 : Int) (f : Nat → Int) (i : Nat) : cF B c0 f i = (c0 + vi B f i) / B ^ i := by
 induction i with
 | zero => simp [cF, vi]
 | succ i ih =>
  have hp := pow_pos' hB i
  rw [cF, ih, vi, Int.pow_succ, ← Int.ediv_ediv_of_nonneg (Int.le_of_lt hp), ← Int.add_assoc, Int.add_mul_ediv_right _ _ (by omega), Int.add_comm]
theorem dig_eq {B : Int} (hB : 0 < B) (c0 : Int) (f : Nat → Int) {i k : Nat} (hi : i < k) : (f i + cF B c0 f i) % B = (c0 + vi B f k) / B ^ i % B := by
 have hp := pow_pos' hB i
 obtain ⟨m, rfl⟩ : ∃ m, k = i + 1 + m := ⟨k - (i + 1), by omega⟩
 rw [vi_more, cF_eq hB, vi, Int.pow_succ, Int.mul_assoc]
 generalize vi B (fun j => f (i + 1 + j)) m = t
 rw [show c0 + (vi B f i + f i * B ^ i + B ^ i * (B * t)) = (c0 + vi B f i) + (f i + B * t) * B ^ i by rw [Int.add_mul, Int.mul_comm (B ^ i)]; omega]
 rw [Int.add_mul_ediv_right _ _ (by omega)]
 generalize (c0 + vi B f i) / B ^ i = x
 rw [show x + (f i + B * t) = (f i + x) + B * t by omega, Int.add_mul_emod_self_left]
theorem emod_mul' (V a b : Int) (ha : 0 ≤ a) : V % (a * b) = V % a + a * (V / a % b) := by
 rw [Int.emod_def, Int.emod_def, Int.emod_def, Int.mul_sub, Int.ediv_ediv_of_nonneg ha, ← Int.mul_assoc]
 generalize a * b * (V / (a * b)) = x
 generalize a * (V / a) = y
 omega
theorem vi_dig {B : Int} (hB : 0 < B) (V : Int) (k : Nat) : vi B (fun j => V / B ^ j % B) k = V % B ^ k := by
 induction k with
 | zero => simp [vi, Int.emod_one]
 | succ k ih =>
  rw [vi, ih, Int.pow_succ, Int.mul_comm _ (B ^ k), emod_mul' V (B ^ k) B (Int.le_of_lt (pow_pos' hB k))]
theorem cF_bound {c0 : Int} {f : Nat → Int} {n : Nat} (h : ∀ j, j < n → -1125899906842624 ≤ f j ∧ f j ≤ 1125899906842624) (h0 : -34359738368 ≤ c0 ∧ c0 ≤ 34359738368) (i : Nat) (hi : i ≤ n) : -34359738368 ≤ cF 65536 c0 f i ∧ cF 65536 c0 f i ≤ 34359738368 := by
 induction i with
 | zero => exact h0
 | succ i ih =>
  have h1 := h i (by omega)
  have h2 := ih (by omega)
  simp only [cF]
  generalize cF 65536 c0 f i = c at *
  generalize f i = x at *
  omega
def rd (V : Int) : Int := V % 57896044618658097711785492504343953926634992332820282019728792003956564819968 + 19 * (V / 57896044618658097711785492504343953926634992332820282019728792003956564819968)
theorem rd_mod (V : Int) : rd V % 57896044618658097711785492504343953926634992332820282019728792003956564819949 = V % 57896044618658097711785492504343953926634992332820282019728792003956564819949 := by
 unfold rd
 have h := Int.emod_add_mul_ediv V 57896044618658097711785492504343953926634992332820282019728792003956564819968
 generalize V % 57896044618658097711785492504343953926634992332820282019728792003956564819968 = r at *
 generalize V / 57896044618658097711785492504343953926634992332820282019728792003956564819968 = q at *
 subst h
 rw [show r + 57896044618658097711785492504343953926634992332820282019728792003956564819968 * q = (r + 19 * q) + 57896044618658097711785492504343953926634992332820282019728792003956564819949 * q by omega, Int.add_mul_emod_self_left]
theorem rd_one {V : Int} (h1 : -2037035976334486086268445688409378161051468393665936250636140449354381299763336706183397376 ≤ V) (h2 : V ≤ 2037035976334486086268445688409378161051468393665936250636140449354381299763336706183397376) : -1125899906842624 ≤ rd V ∧ rd V ≤ 57896044618658097711785492504343953926634992332820282019728793129856471662592 := by
 unfold rd
 omega
theorem rd_two {V : Int} (h1 : -1125899906842624 ≤ V) (h2 : V ≤ 57896044618658097711785492504343953926634992332820282019728793129856471662592) : 0 ≤ rd V ∧ rd V < 57896044618658097711785492504343953926634992332820282019728792003956564819968 := by
 unfold rd
 omega
theorem rd_three {V : Int} (h1 : 0 ≤ V) (h2 : V < 57896044618658097711785492504343953926634992332820282019728792003956564819968) : rd V = V := by
 unfold rd
 omega
theorem rd_all {V : Int} (h1 : -2037035976334486086268445688409378161051468393665936250636140449354381299763336706183397376 ≤ V) (h2 : V ≤ 2037035976334486086268445688409378161051468393665936250636140449354381299763336706183397376) : 0 ≤ rd (rd (rd V)) ∧ rd (rd (rd V)) < 57896044618658097711785492504343953926634992332820282019728792003956564819968 ∧ rd (rd (rd V)) % 57896044618658097711785492504343953926634992332820282019728792003956564819949 = V % 57896044618658097711785492504343953926634992332820282019728792003956564819949 := by
 have a := rd_one h1 h2
 have b := rd_two a.1 a.2
 rw [rd_three b.1 b.2]
 exact ⟨b.1, b.2, by rw [rd_mod, rd_mod]⟩
theorem top_eq (V : Int) : 2 * (V / 65536 ^ 16) + V / 65536 ^ 15 % 65536 / 32768 = V / 57896044618658097711785492504343953926634992332820282019728792003956564819968 := by
 rw [show (65536 : Int) ^ 16 = 65536 ^ 15 * 65536 by decide, ← Int.ediv_ediv_of_nonneg (by decide), show (57896044618658097711785492504343953926634992332820282019728792003956564819968 : Int) = 65536 ^ 15 * 32768 by decide, ← Int.ediv_ediv_of_nonneg (by decide)]
 generalize V / 65536 ^ 15 = x
 omega
theorem low_eq (V : Int) : V % 65536 ^ 15 + V / 65536 ^ 15 % 65536 % 32768 * 65536 ^ 15 = V % 57896044618658097711785492504343953926634992332820282019728792003956564819968 := by
 rw [show (57896044618658097711785492504343953926634992332820282019728792003956564819968 : Int) = 65536 ^ 15 * 32768 by decide, emod_mul' V (65536 ^ 15) 32768 (by decide), show V / 65536 ^ 15 % 65536 % 32768 = V / 65536 ^ 15 % 32768 by omega, Int.mul_comm]
def rF (V : Int) (j : Nat) : Int := if j = 0 then V % 65536 + 19 * (V / 57896044618658097711785492504343953926634992332820282019728792003956564819968) else if j = 15 then V / 65536 ^ 15 % 65536 % 32768 else V / 65536 ^ j % 65536
theorem rF_vi (V : Int) : vi 65536 (rF V) 16 = rd V := by
 have e : vi 65536 (rF V) 15 = V % 65536 ^ 15 + 19 * (V / 57896044618658097711785492504343953926634992332820282019728792003956564819968) := by
  have h := vi_set 65536 (fun j => V / 65536 ^ j % 65536) 0 15 (V % 65536 + 19 * (V / 57896044618658097711785492504343953926634992332820282019728792003956564819968)) (by decide)
  rw [vi_dig (by decide)] at h
  rw [vi_congr (g := fun j => if j = 0 then V % 65536 + 19 * (V / 57896044618658097711785492504343953926634992332820282019728792003956564819968) else V / 65536 ^ j % 65536) fun j hj => by unfold rF; rw [if_neg (show ¬ j = 15 by omega)], h, Int.pow_zero, Int.ediv_one]
  omega
 have e2 : rF V 15 = V / 65536 ^ 15 % 65536 % 32768 := by unfold rF; rw [if_neg (by decide), if_pos rfl]
 show vi 65536 (rF V) 15 + rF V 15 * 65536 ^ 15 = _
 rw [e, e2, rd, ← low_eq V]
 generalize V / 65536 ^ 15 % 65536 % 32768 * 65536 ^ 15 = x
 omega
end Dc
end Go.Proofs.YtbojijefenfbgaaGreatDoor
namespace Go.Proofs.YtbojijefenfbgaaGreatDoor
open Go.RowKit
namespace Dc
open Bt
def num (f : Nat → Int) : Array Value := Own.mkRow 16 fun j => .int .i64 (f j)
theorem num_cell {w : World} {b : Nat} {f : Nat → Int} {t : TypeId} (h : w.heap[b]? = some (.cells (num f) t (0, 0))) (j : Nat) (hj : j < 16) : w.cell? ⟨b, j, none⟩ = some (.int .i64 (f j)) := Own.row_cell h j hj
theorem num_frozen {w : World} {b : Nat} {f : Nat → Int} {t : TypeId} (h : w.heap[b]? = some (.cells (num f) t (0, 0))) (j : Nat) : w.frozen? ⟨b, j, none⟩ = false := Own.row_frozen h j
theorem num_congr {f g : Nat → Int} (h : ∀ j, j < 16 → f j = g j) : num f = num g := Own.mkRow_congr fun j hj => by rw [h j hj]
theorem num_store {w : World} {b : Nat} {f : Nat → Int} {t : TypeId} (h : w.heap[b]? = some (.cells (num f) t (0, 0))) (i : Nat) (v : Int) : (w.setCell ⟨b, i, none⟩ (.int .i64 v)).heap[b]? = some (.cells (num fun j => if j = i then v else f j) t (0, 0)) := by
 rw [Own.row_store h i]
 congr 2
 refine Own.mkRow_congr fun j _ => ?_
 by_cases e : j = i
 ·show _ = Value.int .i64 (if j = i then v else f j)
  rw [if_pos e, if_pos e]
 ·show _ = Value.int .i64 (if j = i then v else f j)
  rw [if_neg e, if_neg e]
theorem num_one (f : Nat → Int) : (num f).all (·.oneCell') = true := Own.all_one fun _ _ => rfl
theorem num_size (f : Nat → Int) : (num f).size = 16 := Own.mkRow_size _ _
def dg (n : Int) (j : Nat) : Int := n / 65536 ^ j % 65536
def nm (n : Int) : Array Value := num (dg n)
def lst (l : List Int) (j : Nat) : Int := l.getD j 0
theorem lst_num (l : List Int) (h : l.length = 16) : (l.map (Value.int .i64)).toArray = num (lst l) := by
 refine Own.mkRow_list _ 16 (by rw [List.length_map, h]) _ fun j hj => ?_
 rw [List.length_map] at hj
 rw [List.getElem_map, lst, List.getD_eq_getElem?_getD, List.getElem?_eq_getElem hj]
 rfl
theorem lit_num (a0 a1 a2 a3 a4 a5 a6 a7 a8 a9 a10 a11 a12 a13 a14 a15 : Int) : #[Value.int .i64 a0, Value.int .i64 a1, Value.int .i64 a2, Value.int .i64 a3, Value.int .i64 a4, Value.int .i64 a5, Value.int .i64 a6, Value.int .i64 a7, Value.int .i64 a8, Value.int .i64 a9, Value.int .i64 a10, Value.int .i64 a11, Value.int .i64 a12, Value.int .i64 a13, Value.int .i64 a14, Value.int .i64 a15] = num (lst [a0, a1, a2, a3, a4, a5, a6, a7, a8, a9, a10, a11, a12, a13, a14, a15]) := lst_num [a0, a1, a2, a3, a4, a5, a6, a7, a8, a9, a10, a11, a12, a13, a14, a15] rfl
theorem zed_num : num (fun _ => 0) = #[.int .i64 0, .int .i64 0, .int .i64 0, .int .i64 0, .int .i64 0, .int .i64 0, .int .i64 0, .int .i64 0, .int .i64 0, .int .i64 0, .int .i64 0, .int .i64 0, .int .i64 0, .int .i64 0, .int .i64 0, .int .i64 0] := by
 rw [lit_num]
 exact num_congr (by decide)
theorem dg_small (n : Int) (h0 : 0 ≤ n) (h1 : n < 65536) (j : Nat) : dg n j = if j = 0 then n else 0 := by
 unfold dg
 by_cases e : j = 0
 ·subst e
  rw [if_pos rfl, Int.pow_zero, Int.ediv_one]
  omega
 ·rw [if_neg e]
  have h2 : (65536 : Int) ≤ 65536 ^ j := by
   obtain ⟨k, rfl⟩ : ∃ k, j = k + 1 := ⟨j - 1, by omega⟩
   have := pow_pos' (show (0 : Int) < 65536 by decide) k
   rw [Int.pow_succ]
   omega
  rw [Int.ediv_eq_zero_of_lt h0 (by omega)]
  rfl
theorem l_alloc (w : World) {ops : Array Oper} {rest : List Oper} {o : Oper} {a : Act} {Q : Exit → Act → World → Prop} (hg : o.guard = none) (hop : o.op = Op.alloc 95)
  (hK : wpList Tryz.prog ops Q rest (a.put o.dst (.pointer (some ⟨w.heap.size, 0, none⟩))) (w.alloc (.cells (num fun _ => 0) 95))) : wpList Tryz.prog ops Q (o :: rest) a w :=
 Own.wpList_alloc_at w hg 95 hop _ (by rw [zed_num]; kernel_rfl) hK
theorem l_load {ops : Array Oper} {rest : List Oper} {o : Oper} {a : Act} {w : World} {Q : Exit → Act → World → Prop} (hg : o.guard = none) (x : Operand) (ho : o.op = .load 95 x) (b : Nat) (f : Nat → Int) (hx : a.eval x = .pointer (some ⟨b, 0, none⟩)) (hb : w.heap[b]? = some (.cells (num f) 95 (0, 0)))
  (h : wpList Tryz.prog ops Q rest (a.put o.dst (.agg (num f))) w) : wpList Tryz.prog ops Q (o :: rest) a w :=
 wpList_load_row hg 95 x ho b hx 95 (num f) (0, 0) _ hb Tryz.underlying95 rfl (by rw [num_size]; kernel_rfl) h
theorem l_store {ops : Array Oper} {rest : List Oper} {o : Oper} {a : Act} {w : World} {Q : Exit → Act → World → Prop} (hg : o.guard = none) (x y : Operand) (ho : o.op = .store 95 x y) (b : Nat) (f g : Nat → Int) (hx : a.eval x = .pointer (some ⟨b, 0, none⟩)) (hy : a.eval y = .agg (num f)) (hb : w.heap[b]? = some (.cells (num g) 95 (0, 0)))
  (h : wpList Tryz.prog ops Q rest (a.put o.dst undef) (w.setRow b (num f))) : wpList Tryz.prog ops Q (o :: rest) a w :=
 wpList_store_row hg 95 x y ho b (num f) hx hy 95 (num g) hb (by rw [num_size]; kernel_rfl) (by rw [num_size, num_size]) (num_one f) h
set_option maxRecDepth 100000 in
set_option maxHeartbeats 400000 in
theorem small_f (n : Int) (h0 : 0 ≤ n) (h1 : n < 65536) (w : World) : Calls Tryz.prog 43 #[.int .i64 n] w fun e w' => e = .returned (.agg (nm n)) ∧ Below w.heap.size w w' := by
 have HE : Hid (nm n = num fun j => if j = 0 then n else 0) := num_congr fun j _ => dg_small n h0 h1 j
 clear h0 h1
 go_enter Tryz.func43, Tryz.ntmps43
 go_wp2_with fail
 rw [lit_num]
 refine Own.ret_row Tryz.results43 rfl w.heap.size 95 (num (lst [n, 0, 0, 0, 0, 0, 0, 0, 0, 0, 0, 0, 0, 0, 0, 0])) (0, 0) _ rfl ((heap_alloc_old _ _ (by simp)).trans (heap_alloc_new _ _)) Tryz.underlying95 rfl (by rw [num_size]; kernel_rfl) ⟨?_, ?_⟩
 ·rw [HE.out, num_congr]
  intro j hj
  rcases j with _ | j
  ·rfl
  ·rw [if_neg (by omega)]
   rcases j with _ | _ | _ | _ | _ | _ | _ | _ | _ | _ | _ | _ | _ | _ | _ | j <;> first | rfl | omega
 ·exact ((Below.refl _ _).alloc (Nat.le_refl _) _).alloc (by simp) _
end Dc
end Go.Proofs.YtbojijefenfbgaaGreatDoor
namespace Go.Proofs.YtbojijefenfbgaaGreatDoor
open Go.RowKit
namespace Dc
open Bt
def pI : Int := 57896044618658097711785492504343953926634992332820282019728792003956564819949
theorem pI_num : nm pI = num fun j => if j = 15 then 32767 else if j = 0 then 65517 else 65535 := num_congr (by decide)
theorem below_cell {B : Nat} {a w : World} (h : Below B a w) (b i : Nat) (hb : B ≤ b) (v : Value) : Below B a (w.setCell ⟨b, i, none⟩ v) := h.setCell (p := ⟨b, i, none⟩) hb v
set_option maxRecDepth 100000 in
set_option maxHeartbeats 400000 in
theorem prime_f (w : World) : Calls Tryz.prog 97 #[] w fun e w' => e = .returned (.agg (nm pI)) ∧ Below w.heap.size w w' := by
 go_enter Tryz.func97, Tryz.ntmps97
 go_wp2_with (refine l_alloc _ rfl rfl ?_)
 obtain ⟨g, hg⟩ : ∃ g, g = w.heap.size := ⟨_, rfl⟩
 have HR0 : Hid (((w.alloc (.cells (num fun _ => 0) 95)).alloc (.cells (num fun _ => 0) 95)).heap[g]? = some (.cells (num fun _ => 0) 95 (0, 0))) := by
  rw [hg]
  exact (heap_alloc_old _ _ (by simp)).trans (heap_alloc_new _ _)
 have HP0 : Hid (((w.alloc (.cells (num fun _ => 0) 95)).alloc (.cells (num fun _ => 0) 95)).heap[g + 1]? = some (.cells (num fun j => if j < 0 then 65535 else 0) 95 (0, 0))) := by
  have := heap_alloc_new (w.alloc (.cells (num fun _ => 0) 95)) (.cells (num fun _ => 0) 95)
  rw [World.size_alloc, ← hg] at this
  exact this
 have HB0 : Hid (Below g w ((w.alloc (.cells (num fun _ => 0) 95)).alloc (.cells (num fun _ => 0) 95))) := by
  rw [hg]
  exact ((Below.refl _ _).alloc (Nat.le_refl _) _).alloc (by simp) _
 generalize (w.alloc (.cells (num fun _ => 0) 95)).alloc (.cells (num fun _ => 0) 95) = w0 at *
 rw [← hg]
 have HG : Hid (w.heap.size ≤ g) := Nat.le_of_eq hg.symm
 clear hg
 go_loopw [2] (fun i wq => ∃ k : Nat, k ≤ 16 ∧ i = .int .i64 (k : Int) ∧ wq.heap[g]? = some (.cells (num fun _ => 0) 95 (0, 0)) ∧ wq.heap[g + 1]? = some (.cells (num fun j => if j < k then 65535 else 0) 95 (0, 0)) ∧ Below g w wq) (fun i _ => 16 - (intOf i).toNat)
 case atStart => exact ⟨0, by omega, rfl, HR0.out, HP0.out, HB0.out⟩
 case round =>
  clear HR0 HP0 HB0
  rename World => wa
  obtain ⟨k, hk, rfl, hr, hp, hb⟩ := hrel
  have HR : Hid _ := hr
  have HP : Hid _ := hp
  have HB : Hid _ := hb
  clear hr hp hb
  by_cases hk16 : k < 16
  ·have hc1 := num_cell HP.out k hk16
   have hfz := num_frozen HP.out k
   simp only [if_neg (Nat.lt_irrefl k)] at hc1
   go_wp2_with fail
   refine ⟨⟨k + 1, by omega, by rw [Int.natCast_add]; rfl, ?_, ?_, ?_⟩, ?_⟩
   ·exact (Below.heap_setCell _ _ _ g (by show g ≠ g + 1; omega)).trans HR.out
   ·rw [num_store HP.out k 65535, num_congr]
    intro j _
    by_cases e : j = k
    ·rw [if_pos e, if_pos (by omega)]
    ·by_cases h : j < k
     ·rw [if_neg e, if_pos h, if_pos (by omega)]
     ·rw [if_neg e, if_neg h, if_neg (by omega)]
   ·exact below_cell HB.out _ _ (by omega) _
   ·show 16 - ((k : Int) + 1).toNat < 16 - (k : Int).toNat
    omega
  ·obtain rfl : k = 16 := by omega
   have HP1 : Hid _ := num_store HP.out 0 65517
   have HP2 : Hid _ := num_store HP1.out 15 32767
   have HR2 : Hid (((wa.setCell ⟨g + 1, 0, none⟩ (.int .i64 65517)).setCell ⟨g + 1, 15, none⟩ (.int .i64 32767)).heap[g]? = some (.cells (num fun _ => 0) 95 (0, 0))) := ((Below.heap_setCell _ _ _ g (by show g ≠ g + 1; omega)).trans (Below.heap_setCell _ _ _ g (by show g ≠ g + 1; omega))).trans HR.out
   have hc1 := num_cell HP.out 0 (by omega)
   have hfz := num_frozen HP.out 0
   have hc2 := num_cell HP1.out 15 (by omega)
   have hfz2 := num_frozen HP1.out 15
   go_wp2_with (first | refine l_load rfl _ rfl (g + 1) _ rfl HP2.out ?_ | refine l_store rfl _ _ rfl g _ _ rfl rfl HR2.out ?_)
   refine Own.ret_row Tryz.results97 rfl g 95 _ (0, 0) _ rfl (setRow_heap _ _ _ _ _ _ HR2.out) Tryz.underlying95 rfl (by rw [num_size]; kernel_rfl) ⟨?_, ?_⟩
   ·rw [pI_num, num_congr]
    intro j hj
    rw [if_pos hj]
   ·exact ((below_cell (below_cell HB.out _ _ (by omega) _) _ _ (by omega) _).trans (Fw.below_setRow _ _ _)).mono HG.out
end Dc
end Go.Proofs.YtbojijefenfbgaaGreatDoor
namespace Go.Proofs.YtbojijefenfbgaaGreatDoor
open Go.RowKit
namespace Dc
open Bt
theorem l_store_new {ops : Array Oper} {rest : List Oper} {o : Oper} {a : Act} {w : World} {Q : Exit → Act → World → Prop} (hgd : o.guard = none) (x y : Operand) (ho : o.op = .store 95 x y) (g f : Nat → Int)
  (hx : a.eval x = .pointer (some ⟨w.heap.size, 0, none⟩)) (hy : a.eval y = .agg (num f))
  (h : wpList Tryz.prog ops Q rest (a.put o.dst undef) (w.alloc (.cells (num f) 95))) : wpList Tryz.prog ops Q (o :: rest) a (w.alloc (.cells (num g) 95)) :=
 Own.wpList_store_new hgd 95 x y ho (num g) (num f) 95 hx hy (by rw [num_size]; kernel_rfl) (by rw [num_size, num_size]) (num_one f) h
theorem up_eq (n : Int) (k : Nat) : n / 65536 ^ (k + 1) = n / 65536 ^ k / 65536 := by
 rw [Int.pow_succ, Int.ediv_ediv_of_nonneg (Int.le_of_lt (pow_pos' (by decide) k))]
theorem cmp_eq {n m : Int} {k : Nat} (h : n / 65536 ^ (k + 1) = m / 65536 ^ (k + 1)) (hd : dg n k = dg m k) : n / 65536 ^ k = m / 65536 ^ k := by
 rw [up_eq, up_eq] at h
 unfold dg at hd
 omega
theorem cmp_lt {n m : Int} {k : Nat} (h : n / 65536 ^ (k + 1) = m / 65536 ^ (k + 1)) (hd : dg n k ≠ dg m k) : decide (dg n k < dg m k) = decide (n < m) := by
 rw [up_eq, up_eq] at h
 unfold dg at *
 have hp := pow_pos' (show (0 : Int) < 65536 by decide) k
 generalize (65536 : Int) ^ k = B at *
 by_cases hl : n < m
 ·have := Int.ediv_le_ediv hp (Int.le_of_lt hl)
  rw [decide_eq_true hl, decide_eq_true]
  omega
 ·have := Int.ediv_le_ediv hp (Int.not_lt.1 hl)
  rw [decide_eq_false hl, decide_eq_false]
  omega
theorem low_all {n : Int} (h0 : 0 ≤ n) (h1 : n < 65536 ^ 16) : n / 65536 ^ 16 = 0 := Int.ediv_eq_zero_of_lt h0 h1
theorem pI_0 : 0 ≤ pI := by decide
theorem pI_1 : pI < 65536 ^ 16 := by decide
set_option maxRecDepth 100000 in
set_option maxHeartbeats 400000 in
theorem below_f (n : Int) (h0 : 0 ≤ n) (h1 : n < 65536 ^ 16) (w : World) : Calls Tryz.prog 92 #[.agg (nm n)] w fun e w' => e = .returned (.bool (decide (n < pI))) ∧ Below w.heap.size w w' := by
 have HN : Hid (n / 65536 ^ 16 = pI / 65536 ^ 16) := by
  show _ = _
  rw [low_all h0 h1, low_all pI_0 pI_1]
 clear h0 h1
 have Hpr : Hid (∀ w, Calls Tryz.prog 97 #[] w fun e w' => e = .returned (.agg (nm pI)) ∧ Below w.heap.size w w') := prime_f
 obtain ⟨P, hP⟩ : ∃ P, P = pI := ⟨_, rfl⟩
 rw [← hP] at HN Hpr ⊢
 clear hP
 go_enter Tryz.func92, Tryz.ntmps92
 go_wp2_with fail
 refine (Hpr.out _).mono ?_
 rintro e w1 ⟨rfl, hb1⟩
 obtain ⟨g, hg⟩ : ∃ g, g = w.heap.size := ⟨_, rfl⟩
 have HA : Hid (w1.heap[g]? = some (.cells (nm n) 95 (0, 0))) := by
  rw [hg]
  exact (hb1.block _ (by simp)).trans (heap_alloc_new _ _)
 have HB1 : Hid (Below g w w1) := by
  rw [hg]
  exact ((Below.refl _ _).alloc (Nat.le_refl _) _).trans (hb1.mono (by simp))
 have HG : Hid (w.heap.size ≤ g) := Nat.le_of_eq hg.symm
 rw [← hg]
 clear hb1 hg
 obtain ⟨gp, hgp⟩ : ∃ x, x = w1.heap.size := ⟨_, rfl⟩
 have hgl : g < gp := by
  rw [hgp]
  exact (Array.getElem?_eq_some_iff.1 HA.out).1
 go_wp2_with (first | refine l_alloc _ rfl rfl ?_ | refine l_store_new rfl _ _ rfl _ (dg P) rfl rfl ?_)
 have HP2 : Hid ((w1.alloc (.cells (num (dg P)) 95)).heap[gp]? = some (.cells (num (dg P)) 95 (0, 0))) := by
  rw [hgp]
  exact heap_alloc_new _ _
 have HA2 : Hid ((w1.alloc (.cells (num (dg P)) 95)).heap[g]? = some (.cells (nm n) 95 (0, 0))) := (heap_alloc_old _ _ (by rw [← hgp]; exact hgl)).trans HA.out
 have HB2 : Hid (Below g w (w1.alloc (.cells (num (dg P)) 95))) := HB1.out.alloc (by omega) _
 rw [← hgp]
 clear HA HB1 hgp
 generalize w1.alloc (.cells (num (dg P)) 95) = w2 at *
 go_loopw [4] (fun i wq => ∃ k : Nat, k ≤ 16 ∧ i = .int .i64 ((k : Int) - 1) ∧ n / 65536 ^ k = P / 65536 ^ k ∧ wq.heap[g]? = some (.cells (nm n) 95 (0, 0)) ∧ wq.heap[gp]? = some (.cells (num (dg P)) 95 (0, 0)) ∧ Below g w wq) (fun i _ => (intOf i + 1).toNat)
 case atStart => exact ⟨16, by omega, rfl, HN.out, HA2.out, HP2.out, HB2.out⟩
 case round =>
  clear HP2 HA2 HB2 HN
  rename World => wa
  obtain ⟨k, hk, rfl, hn, ha, hp, hb⟩ := hrel
  have HA : Hid _ := ha
  have HP : Hid _ := hp
  have HB : Hid _ := hb
  have HN : Hid _ := hn
  clear ha hp hb hn
  by_cases hk0 : k = 0
  ·subst hk0
   go_wp2_with fail
   have e : decide (n < P) = false := by
    have := HN.out
    rw [Int.pow_zero, Int.ediv_one, Int.ediv_one] at this
    rw [this]
    simp
   rw [e]
   exact bodyPost_ret (v := .bool false) (by simp [results, Tryz.results92, go_sem]) rfl ⟨rfl, HB.out.mono HG.out⟩
  ·obtain ⟨i, rfl⟩ : ∃ i, k = i + 1 := ⟨k - 1, by omega⟩
   have ei : ((i + 1 : Nat) : Int) - 1 = (i : Int) := by omega
   rw [ei]
   have hc1 : wa.cell? ⟨g, i, none⟩ = some (.int .i64 (dg n i)) := num_cell HA.out i (by omega)
   have hc2 : wa.cell? ⟨gp, i, none⟩ = some (.int .i64 (dg P i)) := num_cell HP.out i (by omega)
   have Hd1 : Hid (dg n i = dg P i → n / 65536 ^ i = P / 65536 ^ i) := fun h => cmp_eq HN.out h
   have Hd2 : Hid (dg n i ≠ dg P i → decide (dg n i < dg P i) = decide (n < P)) := fun h => cmp_lt HN.out h
   clear HN
   generalize dg n i = x at *
   generalize dg P i = y at *
   have hi16 : i < 16 := by omega
   go_wp2_with fail
   refine wp_region_quiet_lit (by kernel_rfl) (by kernel_rfl) ?_
   repeat (first | go_big_quiet_step (fail) | quiet_step (fail))
   refine wpQuiet_nil ?_
   intro _ hw'
   obtain ⟨nq, hw''⟩ := hw'
   subst hw''
   have hc1 : (wa.drewN nq).cell? ⟨g, i, none⟩ = some (.int .i64 x) := hc1
   have hc2 : (wa.drewN nq).cell? ⟨gp, i, none⟩ = some (.int .i64 y) := hc2
   have HA2 : Hid ((wa.drewN nq).heap[g]? = some (.cells (nm n) 95 (0, 0))) := HA.out
   have HP2 : Hid ((wa.drewN nq).heap[gp]? = some (.cells (num (dg P)) 95 (0, 0))) := HP.out
   have HB2 : Hid (Below g w (wa.drewN nq)) := HB.out.trans (Fw.below_drewN _ _ _)
   clear HA HP HB
   generalize wa.drewN nq = wb at *
   by_cases hxy : x = y
   ·subst hxy
    go_wp2_with fail
    refine ⟨⟨i, by omega, by rfl, Hd1.out rfl, HA2.out, HP2.out, HB2.out⟩, ?_⟩
    show ((i : Int) - 1 + 1).toNat < ((i : Int) + 1).toNat
    omega
   ·have hne : (x != y) = true := by simp [hxy]
    go_wp2_with fail
    refine wp_region_quiet_lit (by kernel_rfl) (by kernel_rfl) ?_
    repeat (first | go_big_quiet_step (fail) | quiet_step (fail))
    refine wpQuiet_nil ?_
    intro _ hw'
    obtain ⟨nq2, hw''⟩ := hw'
    subst hw''
    have HB3 : Hid (Below g w (wb.drewN nq2)) := HB2.out.trans (Fw.below_drewN _ _ _)
    go_wp2_with fail
    rw [← Hd2.out hxy]
    exact bodyPost_ret (v := .bool (decide (x < y))) (by simp [results, Tryz.results92, go_sem]) rfl ⟨rfl, HB3.out.mono HG.out⟩
set_option maxRecDepth 100000 in
set_option maxHeartbeats 400000 in
theorem less_f (n P : Int) (h0 : 0 ≤ n) (h1 : n < 65536 ^ 16) (h2 : 0 ≤ P) (h3 : P < 65536 ^ 16) (w : World) : Calls Tryz.prog 39 #[.agg (nm n), .agg (nm P)] w fun e w' => e = .returned (.bool (decide (n < P))) ∧ Below w.heap.size w w' := by
 have HN : Hid (n / 65536 ^ 16 = P / 65536 ^ 16) := by
  show _ = _
  rw [low_all h0 h1, low_all h2 h3]
 clear h0 h1 h2 h3
 go_enter Tryz.func39, Tryz.ntmps39
 go_wp2_with fail
 obtain ⟨g, hg⟩ : ∃ g, g = w.heap.size := ⟨_, rfl⟩
 obtain ⟨gp, hgp⟩ : ∃ x, x = g + 1 := ⟨_, rfl⟩
 have HG : Hid (w.heap.size ≤ g) := Nat.le_of_eq hg.symm
 have HA2 : Hid (((w.alloc (.cells (nm n) 95)).alloc (.cells (nm P) 95)).heap[g]? = some (.cells (nm n) 95 (0, 0))) := by
  rw [hg]
  exact (heap_alloc_old _ _ (by simp)).trans (heap_alloc_new _ _)
 have HP2 : Hid (((w.alloc (.cells (nm n) 95)).alloc (.cells (nm P) 95)).heap[gp]? = some (.cells (num (dg P)) 95 (0, 0))) := by
  have := heap_alloc_new (w.alloc (.cells (nm n) 95)) (.cells (nm P) 95)
  rw [World.size_alloc, ← hg, ← hgp] at this
  exact this
 have HB2 : Hid (Below g w ((w.alloc (.cells (nm n) 95)).alloc (.cells (nm P) 95))) := by
  rw [hg]
  exact ((Below.refl _ _).alloc (Nat.le_refl _) _).alloc (by simp) _
 generalize (w.alloc (.cells (nm n) 95)).alloc (.cells (nm P) 95) = w2 at *
 rw [← hg, ← hgp]
 clear hg hgp
 go_loopw [5] (fun i wq => ∃ k : Nat, k ≤ 16 ∧ i = .int .i64 ((k : Int) - 1) ∧ n / 65536 ^ k = P / 65536 ^ k ∧ wq.heap[g]? = some (.cells (nm n) 95 (0, 0)) ∧ wq.heap[gp]? = some (.cells (num (dg P)) 95 (0, 0)) ∧ Below g w wq) (fun i _ => (intOf i + 1).toNat)
 case atStart => exact ⟨16, by omega, rfl, HN.out, HA2.out, HP2.out, HB2.out⟩
 case round =>
  clear HP2 HA2 HB2 HN
  rename World => wa
  obtain ⟨k, hk, rfl, hn, ha, hp, hb⟩ := hrel
  have HA : Hid _ := ha
  have HP : Hid _ := hp
  have HB : Hid _ := hb
  have HN : Hid _ := hn
  clear ha hp hb hn
  by_cases hk0 : k = 0
  ·subst hk0
   go_wp2_with fail
   have e : decide (n < P) = false := by
    have := HN.out
    rw [Int.pow_zero, Int.ediv_one, Int.ediv_one] at this
    rw [this]
    simp
   rw [e]
   exact bodyPost_ret (v := .bool false) (by simp [results, Tryz.results39, go_sem]) rfl ⟨rfl, HB.out.mono HG.out⟩
  ·obtain ⟨i, rfl⟩ : ∃ i, k = i + 1 := ⟨k - 1, by omega⟩
   have ei : ((i + 1 : Nat) : Int) - 1 = (i : Int) := by omega
   rw [ei]
   have hc1 : wa.cell? ⟨g, i, none⟩ = some (.int .i64 (dg n i)) := num_cell HA.out i (by omega)
   have hc2 : wa.cell? ⟨gp, i, none⟩ = some (.int .i64 (dg P i)) := num_cell HP.out i (by omega)
   have Hd1 : Hid (dg n i = dg P i → n / 65536 ^ i = P / 65536 ^ i) := fun h => cmp_eq HN.out h
   have Hd2 : Hid (dg n i ≠ dg P i → decide (dg n i < dg P i) = decide (n < P)) := fun h => cmp_lt HN.out h
   clear HN
   generalize dg n i = x at *
   generalize dg P i = y at *
   have hi16 : i < 16 := by omega
   go_wp2_with fail
   refine wp_region_quiet_lit (by kernel_rfl) (by kernel_rfl) ?_
   repeat (first | go_big_quiet_step (fail) | quiet_step (fail))
   refine wpQuiet_nil ?_
   intro _ hw'
   obtain ⟨nq, hw''⟩ := hw'
   subst hw''
   have hc1 : (wa.drewN nq).cell? ⟨g, i, none⟩ = some (.int .i64 x) := hc1
   have hc2 : (wa.drewN nq).cell? ⟨gp, i, none⟩ = some (.int .i64 y) := hc2
   have HA2 : Hid ((wa.drewN nq).heap[g]? = some (.cells (nm n) 95 (0, 0))) := HA.out
   have HP2 : Hid ((wa.drewN nq).heap[gp]? = some (.cells (num (dg P)) 95 (0, 0))) := HP.out
   have HB2 : Hid (Below g w (wa.drewN nq)) := HB.out.trans (Fw.below_drewN _ _ _)
   clear HA HP HB
   generalize wa.drewN nq = wb at *
   by_cases hxy : x = y
   ·subst hxy
    go_wp2_with fail
    refine ⟨⟨i, by omega, by rfl, Hd1.out rfl, HA2.out, HP2.out, HB2.out⟩, ?_⟩
    show ((i : Int) - 1 + 1).toNat < ((i : Int) + 1).toNat
    omega
   ·have hne : (x != y) = true := by simp [hxy]
    go_wp2_with fail
    refine wp_region_quiet_lit (by kernel_rfl) (by kernel_rfl) ?_
    repeat (first | go_big_quiet_step (fail) | quiet_step (fail))
    refine wpQuiet_nil ?_
    intro _ hw'
    obtain ⟨nq2, hw''⟩ := hw'
    subst hw''
    have HB3 : Hid (Below g w (wb.drewN nq2)) := HB2.out.trans (Fw.below_drewN _ _ _)
    go_wp2_with fail
    rw [← Hd2.out hxy]
    exact bodyPost_ret (v := .bool (decide (x < y))) (by simp [results, Tryz.results39, go_sem]) rfl ⟨rfl, HB3.out.mono HG.out⟩
end Dc
end Go.Proofs.YtbojijefenfbgaaGreatDoor
