/- What the program's wide product is worth; bits of a number of eight words. Walks of the program's scalars: Order, reduce. Walks of the program's scalars: Join, FromHash, AddMul. What the program's Sum of terms stands for. -/
import Derived.Test.YtbojijefenfbgaaGreatDoorGgShort
import Derived.Test.YtbojijefenfbgaaGreatDoorGgCurveH
namespace Go.Proofs.YtbojijefenfbgaaGreatDoor
open Go.RowKit
namespace Ww
open Fw Bt
def sumB (B : Nat) (W : Nat → BitVec 64) : Nat → Nat
 | 0 => 0
 | n + 1 => sumB B W n + (W n).toNat * B ^ n
section
variable (B : Nat) (hB : ∀ x y p q : BitVec 64, (maLo x y p q).toNat + B * (maHi x y p q).toNat = x.toNat * y.toNat + p.toNat + q.toNat)
include hB
end
theorem sumB_high (B : Nat) (hB : 0 < B) (W : Nat → BitVec 64) (hW : ∀ k, (W k).toNat < B) (k n : Nat) (hk : k < n) : ∃ r, sumB B W n / B ^ k = (W k).toNat + B * r := by
 have hP : ∀ m, 0 < B ^ m := fun m => Nat.pow_pos hB
 have hlow : ∀ m, sumB B W m < B ^ m := fun m => by
  induction m with
  | zero => exact Nat.one_pos
  | succ m ih =>
   show sumB B W m + (W m).toNat * B ^ m < B ^ (m + 1)
   have h2 : ((W m).toNat + 1) * B ^ m ≤ B * B ^ m := Nat.mul_le_mul_right _ (hW m)
   rw [Nat.pow_succ, Nat.mul_comm (B ^ m) B]
   rw [Nat.add_mul, Nat.one_mul] at h2
   omega
 induction n with
 | zero => omega
 | succ n ih =>
  by_cases e : k = n
  ·subst e
   refine ⟨0, ?_⟩
   show (sumB B W k + (W k).toNat * B ^ k) / B ^ k = _
   rw [Nat.add_mul_div_right _ _ (hP k), Nat.div_eq_of_lt (hlow k)]
   omega
  ·obtain ⟨r, hr⟩ := ih (by omega)
   refine ⟨r + (W n).toNat * B ^ (n - 1 - k), ?_⟩
   show (sumB B W n + (W n).toNat * B ^ n) / B ^ k = _
   have e0 : B ^ n = B * B ^ (n - 1 - k) * B ^ k := by
    rw [Nat.mul_comm B, ← Nat.pow_succ, ← Nat.pow_add]
    congr 1
    omega
   have e1 : (W n).toNat * B ^ n = (B * ((W n).toNat * B ^ (n - 1 - k))) * B ^ k := by
    rw [e0]
    simp only [Nat.mul_assoc, Nat.mul_left_comm]
   rw [e1, Nat.add_mul_div_right _ _ (hP k), hr, Nat.mul_add, Nat.add_assoc]
def BB : Nat := 18446744073709551616
theorem BB_eq : BB = 18446744073709551616 := rfl
theorem bit_low (x r s : Nat) (hs : s < 64) : (x + BB * r) / 2 ^ s % 2 = x / 2 ^ s % 2 := by
 have e : BB * r = (2 * (2 ^ (63 - s) * r)) * 2 ^ s := by
  have h : BB = 2 * 2 ^ (63 - s) * 2 ^ s := by
   rw [Nat.mul_assoc, ← Nat.pow_add, show 63 - s + s = 63 by omega, BB_eq]
  rw [h]
  generalize 2 ^ (63 - s) = u
  generalize 2 ^ s = v
  simp only [Nat.mul_assoc, Nat.mul_left_comm, Nat.mul_comm]
 rw [e, Nat.add_mul_div_right _ _ (Nat.two_pow_pos s)]
 omega
theorem bit_W (W : Nat → BitVec 64) (i : Nat) (hi : i < 512) : sumB BB W 8 / 2 ^ i % 2 = (W (i / 64)).toNat / 2 ^ (i % 64) % 2 := by
 obtain ⟨r, hr⟩ := sumB_high BB (by decide) W (fun k => by rw [BB_eq]; exact (W k).isLt) (i / 64) 8 (by omega)
 have e : (2 : Nat) ^ i = BB ^ (i / 64) * 2 ^ (i % 64) := by
  rw [show BB = 2 ^ 64 from rfl, ← Nat.pow_mul, ← Nat.pow_add]
  congr 1
  omega
 rw [e, ← Nat.div_div_eq_div_mul, hr, bit_low _ _ _ (by omega)]
end Ww
end Go.Proofs.YtbojijefenfbgaaGreatDoor
namespace Go.Proofs.YtbojijefenfbgaaGreatDoor
open Go.RowKit
namespace Sw
open Fw Bt Ww
abbrev LL : Nat := 7237005577332262213973186563042994240857116359379907606001950938285454250989
theorem LL_eq : LL = 7237005577332262213973186563042994240857116359379907606001950938285454250989 := rfl
theorem order_f (w : World) : Calls Tryz.prog 107 #[] w fun e w' => e = .returned (.agg (nq LL).cells) ∧ Below w.heap.size w w' := by
 go_enter Tryz.func107, Tryz.ntmps107
 go_wp2_with fail
 exact Own.ret_row Tryz.results107 rfl w.heap.size 184 _ (0, 0) _ rfl (heap_alloc_new _ _) Tryz.underlying184 rfl (by kernel_rfl) ⟨rfl, (Below.refl _ _).alloc (Nat.le_refl _) _⟩
theorem LL_num : (nq LL).num = LL := nq_num (by decide)
theorem add2 (r : Nat) (h : r < LL) : addQ (nq r) (nq r) = nq (2 * r) := by
 have h0 : r < 115792089237316195423570985008687907853269984665640564039457584007913129639936 := Nat.lt_trans h (by decide)
 have h1 := addW_num (nq r) (nq r)
 rw [nq_num h0] at h1
 have h2 := num_lt (addQ (nq r) (nq r))
 refine nq_of ?_
 rw [LL_eq] at h
 omega
theorem or_bit (x b : BitVec 64) (hx : x.toNat % 2 = 0) (hb : b.toNat ≤ 1) : (x ||| b).toNat = x.toNat + b.toNat := by
 rw [BitVec.toNat_or]
 have h := Nat.shiftLeft_add_eq_or_of_lt (show b.toNat < 2 ^ 1 by omega) (x.toNat / 2)
 rw [Nat.shiftLeft_eq] at h
 have e : x.toNat = x.toNat / 2 * 2 ^ 1 := by omega
 rw [← e] at h
 exact h.symm
theorem or1 (n : Nat) (b : BitVec 64) (hn : n % 2 = 0) (h : n < 115792089237316195423570985008687907853269984665640564039457584007913129639936 - 1) (hb : b.toNat ≤ 1) : (⟨(nq n).a0 ||| b, (nq n).a1, (nq n).a2, (nq n).a3⟩ : Q) = nq (n + b.toNat) := by
 refine nq_of ?_
 have h1 := nq_num (n := n) (by omega)
 generalize nq n = q at h1 ⊢
 unfold Q.num at *
 simp only
 rw [or_bit q.a0 b (by omega) hb]
 omega
theorem less1 (n : Nat) (h : n < 2 * LL) : lessQ (nq n) (nq LL) = nq (n % LL) := by
 refine nq_of ?_
 have h0 : n < 115792089237316195423570985008687907853269984665640564039457584007913129639936 := Nat.lt_trans h (by decide)
 rw [lessQ_num _ _ (by rw [nq_num h0, LL_num]; exact h), nq_num h0, LL_num]
def bitW (W : Nat → BitVec 64) (i : Nat) : BitVec 64 := W (i / 64) >>> (i % 64) &&& 1#64
theorem bitW_val (W : Nat → BitVec 64) (i : Nat) (hi : i < 512) : (bitW W i).toNat = sumB BB W 8 / 2 ^ i % 2 := by
 rw [bit_W W i hi]
 unfold bitW
 rw [BitVec.toNat_and, BitVec.toNat_ushiftRight, Nat.shiftRight_eq_div_pow, show (1#64).toNat = 1 from rfl, Nat.and_one_is_mod]
theorem step1 (N i : Nat) : (2 * (N / 2 ^ (i + 1) % LL) + N / 2 ^ i % 2) % LL = N / 2 ^ i % LL := by
 have e : N / 2 ^ i = 2 * (N / 2 ^ (i + 1)) + N / 2 ^ i % 2 := by
  rw [Nat.pow_succ, ← Nat.div_div_eq_div_mul]
  omega
 have h2 : (2 * (N / 2 ^ (i + 1) % LL) + N / 2 ^ i % 2) % LL = (2 * (N / 2 ^ (i + 1)) + N / 2 ^ i % 2) % LL := by
  rw [Nat.add_mod, Nat.mul_mod_mod, ← Nat.add_mod]
 rw [h2, ← e]
theorem sumB_lt (W : Nat → BitVec 64) (n : Nat) (hn : n = 64 * 8) : sumB BB W 8 / 2 ^ n = 0 := by
 have hlow : ∀ m, sumB BB W m < BB ^ m := fun m => by
  induction m with
  | zero => exact Nat.one_pos
  | succ m ih =>
   have hB : ∀ B, (∀ k, (W k).toNat < B) → sumB B W m < B ^ m → sumB B W (m + 1) < B ^ (m + 1) := fun B hW ih => by
    show sumB B W m + (W m).toNat * B ^ m < B ^ (m + 1)
    have h2 : ((W m).toNat + 1) * B ^ m ≤ B * B ^ m := Nat.mul_le_mul_right _ (hW m)
    rw [Nat.pow_succ, Nat.mul_comm (B ^ m) B]
    rw [Nat.add_mul, Nat.one_mul] at h2
    omega
   exact hB BB (fun k => by rw [BB_eq]; exact (W k).isLt) ih
 have h := hlow 8
 have e : BB ^ 8 = 2 ^ (64 * 8) := (congrArg (· ^ 8) (show BB = 2 ^ 64 from rfl)).trans (Nat.pow_mul 2 64 8).symm
 rw [e, ← hn] at h
 exact Nat.div_eq_of_lt h
theorem NAt.set0 {w : World} {b : Nat} {q : Q} (h : NAt w b q) (v : BitVec 64) : NAt (w.setCell ⟨b, 0, none⟩ (.int .u64 (un v))) b ⟨v, q.a1, q.a2, q.a3⟩ := heap_setCell_same w b 0 q.cells 184 (.int .u64 (un v)) h
theorem DAt.other {w : World} {b c : Nat} {W : Nat → BitVec 64} (h : DAt w b W) (hne : b ≠ c) (cs : Array Value) : DAt (w.setRow c cs) b W := by
 unfold DAt at *
 rw [← h, setRow_other _ _ _ _ hne]
theorem NAt.other {w : World} {b c : Nat} {q : Q} (h : NAt w b q) (hne : b ≠ c) (cs : Array Value) : NAt (w.setRow c cs) b q := by
 unfold NAt at *
 rw [← h, setRow_other _ _ _ _ hne]
theorem lt2 {r : Nat} (h : r < LL) (b : Nat) (hb : b ≤ 1) : 2 * r + b < 2 * LL := by omega
theorem and1s (x : BitVec 64) : bits .and .u64 (un x) 1 = un (x &&& 1#64) := UV.u_and x 1#64
abbrev E3 (w : World) (W : Nat → BitVec 64) : World := ((w.alloc (.cells (Own.mkRow 8 (dF W)) 265)).alloc (.cells zQ.cells 184)).alloc (.cells zQ.cells 184)
theorem E3_d (w : World) (W : Nat → BitVec 64) : DAt (E3 w W) w.heap.size W := DAt.below (alloc_at w _ _ rfl) (((Below.refl (w.heap.size + 1) _).alloc (by simp) _).alloc (by simp) _) (by omega)
theorem E3_r (w : World) (W : Nat → BitVec 64) : NAt (E3 w W) (w.heap.size + 1) zQ := NAt.below (alloc_at _ _ _ (by simp)) ((Below.refl (w.heap.size + 2) _).alloc (by simp) _) (by omega)
theorem E3_t (w : World) (W : Nat → BitVec 64) : NAt (E3 w W) (w.heap.size + 1 + 1) zQ := alloc_at _ _ _ (by simp)
theorem E3_b (w : World) (W : Nat → BitVec 64) : Below w.heap.size w (E3 w W) := (((Below.refl _ _).alloc (Nat.le_refl _) _).alloc (by simp) _).alloc (by simp; omega) _
set_option maxRecDepth 100000 in
set_option maxHeartbeats 1000000 in
theorem reduce_f (W : Nat → BitVec 64) (w : World) : Calls Tryz.prog 167 #[.agg (Own.mkRow 8 (dF W))] w fun e w' => e = .returned (.agg (nq (sumB BB W 8 % LL)).cells) ∧ Below w.heap.size w w' := by
 obtain ⟨N, hN⟩ : ∃ N, N = sumB BB W 8 := ⟨_, rfl⟩
 have HN0 : Hid (N / 2 ^ 512 = 0) := by rw [hN]; exact sumB_lt W 512 rfl
 have Hbit : Hid (∀ i, i < 512 → (bitW W i).toNat = N / 2 ^ i % 2) := by rw [hN]; exact bitW_val W
 rw [← hN]
 clear hN
 obtain ⟨lc, hlc⟩ : ∃ lc, lc = (nq LL).cells := ⟨_, rfl⟩
 have Hord : Hid (∀ w, Calls Tryz.prog 107 #[] w fun e w' => e = .returned (.agg lc) ∧ Below w.heap.size w w') := by rw [hlc]; exact order_f
 have Hless : Hid (∀ n, n < 2 * LL → ∀ w, Calls Tryz.prog 202 #[.agg (nq n).cells, .agg lc] w fun e w' => e = .returned (.agg (nq (n % LL)).cells) ∧ Below w.heap.size w w') := by
  intro n hn w
  rw [hlc, ← less1 n hn]
  exact less_f _ _ w
 clear hlc
 have HD : Hid (DAt (E3 w W) w.heap.size W) := E3_d w W
 have HR : Hid (NAt (E3 w W) (w.heap.size + 1) zQ) := E3_r w W
 have HT : Hid (NAt (E3 w W) (w.heap.size + 1 + 1) zQ) := E3_t w W
 have HB : Hid (Below w.heap.size w (E3 w W)) := E3_b w W
 go_enter Tryz.func167, Tryz.ntmps167
 go_wp2_with fail
 go_loopw [4] (fun iv wq => ∃ k : Nat, k ≤ 512 ∧ iv = .int .i64 ((k : Int) - 1) ∧ NAt wq (w.heap.size + 1 + 1) (nq (N / 2 ^ k % LL)) ∧ DAt wq w.heap.size W ∧ NAt wq (w.heap.size + 1) zQ ∧ Below w.heap.size w wq) (fun iv _ => (intOf iv + 1).toNat)
 case atStart => exact ⟨512, by omega, rfl, by rw [HN0.out]; exact HT.out, HD.out, HR.out, HB.out⟩
 case round =>
  clear HD HR HT HB
  rename World => wa
  obtain ⟨k, hk, rfl, ht, hd, hr, hb⟩ := hrel
  have HT : Hid (NAt wa (w.heap.size + 1 + 1) (nq (N / 2 ^ k % LL))) := ht
  have HD : Hid (DAt wa w.heap.size W) := hd
  have HR : Hid (NAt wa (w.heap.size + 1) zQ) := hr
  have HB : Hid (Below w.heap.size w wa) := hb
  clear ht hd hr hb
  rcases k with _ | i
  ·rw [show N / 2 ^ 0 % LL = N % LL by rw [Nat.pow_zero, Nat.div_one]] at HT
   go_wp2_with (first | refine load_n rfl _ rfl (w.heap.size + 1 + 1) (nq (N % LL)) rfl HT.out ?_ | refine store_n rfl _ _ rfl (w.heap.size + 1) (nq (N % LL)) zQ rfl rfl HR.out ?_)
   exact ret_n Tryz.results167 rfl (w.heap.size + 1) (nq (N % LL)) rfl (HR.out.setRow _) ⟨rfl, HB.out.trans ((below_setRow _ _ _).mono (by omega))⟩
  ·have ei : (((i + 1 : Nat) : Int) - 1) = (i : Int) := by omega
   rw [ei]
   clear ei
   have hi : i < 512 := by omega
   obtain ⟨r, hr⟩ : ∃ r, r = N / 2 ^ (i + 1) % LL := ⟨_, rfl⟩
   have hrl : r < LL := by rw [hr]; exact Nat.mod_lt _ (by decide)
   have Hstep : Hid ((2 * r + N / 2 ^ i % 2) % LL = N / 2 ^ i % LL) := by rw [hr]; exact step1 N i
   rw [← hr] at HT
   clear hr
   go_wp2_with (refine load_n rfl _ rfl (w.heap.size + 1 + 1) (nq r) rfl HT.out ?_)
   refine (wadd_f (nq r) (nq r) _).mono ?_
   rintro e w1 ⟨rfl, hb1⟩
   rw [add2 r hrl]
   have HX1 : Hid (Below wa.heap.size wa w1) := hb1
   have HT1 : Hid (NAt w1 (w.heap.size + 1 + 1) (nq r)) := HT.out.below HX1.out HT.out.lt
   clear hb1
   obtain ⟨w2, hw2⟩ : ∃ w2, w2 = w1.setRow (w.heap.size + 1 + 1) (nq (2 * r)).cells := ⟨_, rfl⟩
   have HT2 : Hid (NAt w2 (w.heap.size + 1 + 1) (nq (2 * r))) := by rw [hw2]; exact HT1.out.setRow _
   have HD2 : Hid (DAt w2 w.heap.size W) := by rw [hw2]; exact DAt.other (HD.out.below HX1.out HD.out.lt) (by omega) _
   have HR2 : Hid (NAt w2 (w.heap.size + 1) zQ) := by rw [hw2]; exact NAt.other (HR.out.below HX1.out HR.out.lt) (by omega) _
   have HB2 : Hid (Below w.heap.size w w2) := by rw [hw2]; exact (HB.out.trans (HX1.out.mono HB.out.size)).trans ((below_setRow _ _ _).mono (by omega))
   have HW2 : Hid _ := hw2
   clear hw2
   go_wp2_with (refine store_n rfl _ _ rfl (w.heap.size + 1 + 1) (nq (2 * r)) (nq r) rfl rfl HT1.out ?_; rw [← HW2.out])
   clear HW2 HT1 HX1 HT HD HR HB
   obtain ⟨q2, hq2⟩ : ∃ q, q = nq (2 * r) := ⟨_, rfl⟩
   have Hor : Hid ((⟨q2.a0 ||| bitW W i, q2.a1, q2.a2, q2.a3⟩ : Q) = nq (2 * r + N / 2 ^ i % 2)) := by
    show _ = _
    rw [hq2, or1 (2 * r) (bitW W i) (by omega) (by rw [LL_eq] at hrl; omega) (by rw [Hbit.out i hi]; omega), Hbit.out i hi]
   rw [← hq2] at HT2
   clear hq2
   refine Qt.wp_tail 12 (by kernel_rfl) (by kernel_rfl) ?_
   refine Qt.y_val rfl (.pointer (some ⟨w.heap.size + 1 + 1, 0, none⟩)) (fun _ _ => by kernel_rfl) ?_
   refine Cw.y_u64 rfl _ rfl (w.heap.size + 1 + 1) 0 (.int .u64 (un q2.a0)) rfl HT2.out.lt (q_cell HT2.out 0 (by omega)) ?_
   simp only [Act.put, zA, zB, zC]
   refine Qt.y_val rfl (.int .i64 (i : Int)) (fun _ _ => by kernel_rfl) ?_
   simp only [Act.put, zA, zB, zC]
   refine Qt.y_val rfl (.int .i64 ((i / 64 : Nat) : Int)) (fun w' _ => by go_simp; rw [IntKind.wrap_i64]; omega) ?_
   simp only [Act.put, zA, zB, zC]
   refine Qt.y_idx rfl 265 _ _ rfl 159 8 1 Tryz.underlying265 (by kernel_rfl) (by kernel_rfl) w.heap.size 0 (i / 64) .i64 rfl rfl (by omega) ?_
   rw [show 0 + i / 64 * 1 = i / 64 by omega]
   refine Cw.y_u64 rfl _ rfl w.heap.size (i / 64) (.int .u64 (un (W (i / 64)))) rfl HD2.out.lt (HD2.out.cell (i / 64) (by omega)) ?_
   simp only [Act.put, zA, zB, zC]
   refine Qt.y_val rfl (.int .i64 (i : Int)) (fun _ _ => by kernel_rfl) ?_
   simp only [Act.put, zA, zB, zC]
   refine Qt.y_val rfl (.int .i64 ((i % 64 : Nat) : Int)) (fun w' _ => by go_simp; exact Int.tmod_eq_emod_of_nonneg (by omega)) ?_
   simp only [Act.put, zA, zB, zC]
   refine Qt.y_val rfl (.int .u64 (un (W (i / 64) >>> (i % 64)))) (fun w' _ => ?_) ?_
   ·go_simp
    rw [show ((i : Int) % 64).toNat = i % 64 by omega]
    exact UV.u_shr _ _
   simp only [Act.put, zA, zB, zC]
   refine Qt.y_val rfl (.int .u64 (un (bitW W i))) (fun w' _ => by go_simp; exact and1s _) ?_
   simp only [Act.put, zA, zB, zC]
   refine Qt.y_val rfl (.int .u64 (un (q2.a0 ||| bitW W i))) (fun w' _ => by go_simp; exact UV.u_or _ _) ?_
   simp only [Act.put, zA, zB, zC]
   refine Qt.y_val rfl (.pointer (some ⟨w.heap.size + 1 + 1, 0, none⟩)) (fun _ _ => by kernel_rfl) ?_
   simp only [Act.put, zA, zB, zC]
   refine Qt.y_nil ?_
   intro w3 hb3
   have HX3 : Hid (Below w2.heap.size w2 w3) := hb3
   clear hb3
   have HT3 : Hid (NAt w3 (w.heap.size + 1 + 1) q2) := HT2.out.below HX3.out HT2.out.lt
   have hc3 : w3.cell? ⟨w.heap.size + 1 + 1, 0, none⟩ = some (.int .u64 (un q2.a0)) := q_cell HT3.out 0 (by omega)
   have hf3 : w3.frozen? ⟨w.heap.size + 1 + 1, 0, none⟩ = false := Cw.NAt.frozen HT3.out 0
   obtain ⟨w4, hw4⟩ : ∃ w4, w4 = w3.setCell ⟨w.heap.size + 1 + 1, 0, none⟩ (.int .u64 (un (q2.a0 ||| bitW W i))) := ⟨_, rfl⟩
   have HT4 : Hid (NAt w4 (w.heap.size + 1 + 1) (nq (2 * r + N / 2 ^ i % 2))) := by rw [hw4, ← Hor.out]; exact NAt.set0 HT3.out _
   have HD4 : Hid (DAt w4 w.heap.size W) := by rw [hw4]; exact (HD2.out.below HX3.out HD2.out.lt).setOther (by omega) _
   have HR4 : Hid (NAt w4 (w.heap.size + 1) zQ) := by rw [hw4]; exact (HR2.out.below HX3.out HR2.out.lt).setOther (by omega) _
   have HB4 : Hid (Below w.heap.size w w4) := by rw [hw4]; exact (HB2.out.trans (HX3.out.mono HB2.out.size)).setCell (by show w.heap.size ≤ w.heap.size + 1 + 1; omega) _
   have HW4 : Hid _ := hw4
   clear hw4 HX3 HT3 HT2 HD2 HR2 HB2
   go_wp2_with fail
   rw [← HW4.out]
   clear HW4
   have Hl : Hid (2 * r + N / 2 ^ i % 2 < 2 * LL) := lt2 hrl _ (by omega)
   refine Qt.wp_tail 3 (by kernel_rfl) (by kernel_rfl) ?_
   refine y_n rfl _ rfl (w.heap.size + 1 + 1) (nq (2 * r + N / 2 ^ i % 2)) rfl HT4.out ?_
   refine Qt.y_call rfl 107 #[] (.agg lc) (fun _ => by kernel_rfl) (fun w' _ => Hord.out w') ?_
   refine Qt.y_call rfl 202 #[.agg (nq (2 * r + N / 2 ^ i % 2)).cells, .agg lc] (.agg (nq ((2 * r + N / 2 ^ i % 2) % LL)).cells) (fun _ => by kernel_rfl) (fun w' _ => Hless.out _ Hl.out w') ?_
   rw [Hstep.out]
   simp only [Act.put, zA, zB, zC]
   refine Qt.y_nil ?_
   intro w5 hb5
   have HX5 : Hid (Below w4.heap.size w4 w5) := hb5
   clear hb5
   have HT5 : Hid (NAt w5 (w.heap.size + 1 + 1) (nq (2 * r + N / 2 ^ i % 2))) := HT4.out.below HX5.out HT4.out.lt
   refine store_n rfl _ _ rfl (w.heap.size + 1 + 1) (nq (N / 2 ^ i % LL)) (nq (2 * r + N / 2 ^ i % 2)) rfl rfl HT5.out ?_
   simp only [Act.put]
   go_wp2_with fail
   exact ⟨⟨i, by omega, rfl, HT5.out.setRow _, DAt.other (HD4.out.below HX5.out HD4.out.lt) (by omega) _, NAt.other (HR4.out.below HX5.out HR4.out.lt) (by omega) _, (HB4.out.trans (HX5.out.mono HB4.out.size)).trans ((below_setRow _ _ _).mono (by omega))⟩, by simp [intOf]⟩
end Sw
end Go.Proofs.YtbojijefenfbgaaGreatDoor
namespace Go.Proofs.YtbojijefenfbgaaGreatDoor
open Go.RowKit
namespace Sw
open Fw Bt Ww
def jW (a b : Q) (k : Nat) : BitVec 64 := if k < 4 then Cw.qw a k else Cw.qw b (k - 4)
theorem jW_num (a b : Q) : sumB BB (jW a b) 8 = a.num + 115792089237316195423570985008687907853269984665640564039457584007913129639936 * b.num := by
 have e : ∀ B, sumB B (jW a b) 8 = 0 + a.a0.toNat * B ^ 0 + a.a1.toNat * B ^ 1 + a.a2.toNat * B ^ 2 + a.a3.toNat * B ^ 3 + b.a0.toNat * B ^ 4 + b.a1.toNat * B ^ 5 + b.a2.toNat * B ^ 6 + b.a3.toNat * B ^ 7 := fun B => rfl
 rw [e, BB_eq]
 unfold Q.num
 omega
set_option maxHeartbeats 400000 in
theorem join_d (a b : Q) (w : World) : Calls Tryz.prog 168 #[.agg a.cells, .agg b.cells] w fun e w' => e = .returned (.agg (Own.mkRow 8 (dF (jW a b)))) ∧ Below w.heap.size w w' := by
 unfold Q.cells
 go_enter Tryz.func168, Tryz.ntmps168
 go_wp2_with fail
 exact Own.ret_row Tryz.results168 rfl (w.heap.size + 1 + 1) 265 (Own.mkRow 8 (dF (jW a b))) (0, 0) _ rfl (alloc_at _ _ _ (by simp)) Tryz.underlying265 rfl (by rw [Own.mkRow_size]; kernel_rfl) ⟨rfl, (((Below.refl _ _).alloc (Nat.le_refl _) _).alloc (by simp) _).alloc (by simp; omega) _⟩
abbrev H4 (w : World) (r k n : Q) : World := (((w.alloc (.cells r.cells 184)).alloc (.cells k.cells 184)).alloc (.cells n.cells 184)).alloc (.cells zQ.cells 184)
theorem addN (r : Q) (m : Nat) (hr : r.num < LL) (hm : m < LL) : addQ r (nq m) = nq (r.num + m) := by
 have h1 := addW_num r (nq m)
 rw [nq_num (Nat.lt_trans hm (by decide))] at h1
 have h2 := num_lt (addQ r (nq m))
 refine nq_of ?_
 rw [LL_eq] at hr hm
 omega
theorem ext_str (l : List UInt8) (s e : Nat) : (⟨l.toArray⟩ : ByteArray).extract s e = ⟨((l.drop s).take (e - s)).toArray⟩ := by
 apply ByteArray.ext
 rw [ByteArray.data_extract]
 simp
theorem take_le (l : List UInt8) (hl : l.length = 64) : (bq (l.take 32)).num + 115792089237316195423570985008687907853269984665640564039457584007913129639936 * (bq ((l.drop 32).take 32)).num = le l := by
 rw [bq_num _ (by simp; omega), bq_num _ (by simp; omega)]
 have h := le_append (l.take 32) (l.drop 32)
 rw [List.take_append_drop, show (l.take 32).length = 32 by simp; omega] at h
 rw [List.take_of_length_le (l := l.drop 32) (by simp; omega), h]
set_option maxRecDepth 100000 in
set_option maxHeartbeats 1000000 in
theorem fromHash_f (l : List UInt8) (hl : l.length = 64) (w : World) : Calls Tryz.prog 108 #[.string ⟨l.toArray⟩] w fun e w' => e = .returned (.agg (nq (le l % LL)).cells) ∧ Below w.heap.size w w' := by
 have hli : (l.length : Int) = 64 := by omega
 go_enter Tryz.func108, Tryz.ntmps108
 go_wp2_with fail
 refine (fromBytes_f l (by omega) _).mono ?_
 rintro e w1 ⟨rfl, hb1⟩
 have HX1 : Hid (Below (w.alloc (.cells zQ.cells 184)).heap.size (w.alloc (.cells zQ.cells 184)) w1) := hb1
 have HO1 : Hid (NAt w1 w.heap.size zQ) := (fresh_n w).below HX1.out (fresh_n w).lt
 have HB1 : Hid (Below w.heap.size w w1) := ((Below.refl _ _).alloc (Nat.le_refl _) _).trans (HX1.out.mono (by simp))
 clear hb1 HX1
 go_wp2_with (refine Cw.l_declN rfl rfl rfl rfl (bq (l.take 32)) (fun _ => rfl) (fun _ => rfl) ?_)
 intro w2 b1 hle hW hb2
 have HX2 : Hid (Below w1.heap.size w1 w2) := hb2
 have HN2 : Hid (NAt w2 b1 (bq (l.take 32))) := hW
 have HO2 : Hid (NAt w2 w.heap.size zQ) := HO1.out.below HX2.out HO1.out.lt
 have HB2 : Hid (Below w.heap.size w w2) := HB1.out.trans (HX2.out.mono HB1.out.size)
 clear hle hW hb2 HX2 HO1 HB1
 go_wp2_with fail
 rw [ext_str, List.take_of_length_le (l := l.drop 32) (by simp; omega)]
 refine (fromBytes_f (l.drop 32) (by simp; omega) _).mono ?_
 rintro e w3 ⟨rfl, hb3⟩
 have HX3 : Hid (Below w2.heap.size w2 w3) := hb3
 have HN3 : Hid (NAt w3 b1 (bq (l.take 32))) := HN2.out.below HX3.out HN2.out.lt
 have HO3 : Hid (NAt w3 w.heap.size zQ) := HO2.out.below HX3.out HO2.out.lt
 have HB3 : Hid (Below w.heap.size w w3) := HB2.out.trans (HX3.out.mono HB2.out.size)
 clear hb3 HX3 HN2 HO2 HB2
 go_wp2_with (refine Cw.l_declN rfl rfl rfl rfl (bq ((l.drop 32).take 32)) (fun _ => rfl) (fun _ => rfl) ?_)
 intro w4 b2 hle hW hb4
 have HX4 : Hid (Below w3.heap.size w3 w4) := hb4
 have HM4 : Hid (NAt w4 b2 (bq ((l.drop 32).take 32))) := hW
 have HN4 : Hid (NAt w4 b1 (bq (l.take 32))) := HN3.out.below HX4.out HN3.out.lt
 have HO4 : Hid (NAt w4 w.heap.size zQ) := HO3.out.below HX4.out HO3.out.lt
 have HB4 : Hid (Below w.heap.size w w4) := HB3.out.trans (HX4.out.mono HB3.out.size)
 have Hval : Hid (sumB BB (jW (bq (l.take 32)) (bq ((l.drop 32).take 32))) 8 = le l) := by
  show _ = _
  rw [jW_num]; exact take_le l hl
 clear hle hW hb4 HX4 HN3 HO3 HB3
 obtain ⟨qa, hqa⟩ : ∃ q, q = bq (l.take 32) := ⟨_, rfl⟩
 obtain ⟨qb, hqb⟩ : ∃ q, q = bq ((l.drop 32).take 32) := ⟨_, rfl⟩
 rw [← hqa, ← hqb] at Hval
 rw [← hqa] at HN4
 rw [← hqb] at HM4
 clear hqa hqb
 go_wp2_with (first | refine load_n rfl _ rfl b1 qa rfl HN4.out ?_ | refine load_n rfl _ rfl b2 qb rfl HM4.out ?_)
 refine (join_d qa qb _).mono ?_
 rintro e w5 ⟨rfl, hb5⟩
 have HX5 : Hid (Below w4.heap.size w4 w5) := hb5
 clear hb5
 go_wp2_with fail
 refine (reduce_f (jW qa qb) _).mono ?_
 rintro e w6 ⟨rfl, hb6⟩
 rw [Hval.out]
 have HX6 : Hid (Below w4.heap.size w4 w6) := HX5.out.trans (hb6.mono HX5.out.size)
 have HO6 : Hid (NAt w6 w.heap.size zQ) := HO4.out.below HX6.out HO4.out.lt
 clear hb6 HX5
 go_wp2_with (refine store_n rfl _ _ rfl w.heap.size (nq (le l % LL)) zQ rfl rfl HO6.out ?_)
 exact ret_n Tryz.results108 rfl w.heap.size (nq (le l % LL)) rfl (HO6.out.setRow _) ⟨rfl, below_store HB4.out HX6.out _ (Nat.le_refl _) _⟩
end Sw
end Go.Proofs.YtbojijefenfbgaaGreatDoor
namespace Go.Proofs.YtbojijefenfbgaaGreatDoor
open Go.RowKit
namespace Ed
def pS (p : Nat → Pt) (c : Nat → Nat) : Nat → Pt
 | 0 => zero
 | m + 1 => padd (pS p c m) (mulP (p m) (c m))
theorem pS_on {p : Nat → Pt} (hp : ∀ j, OnP (p j)) (c : Nat → Nat) (m : Nat) : OnP (pS p c m) := by
 induction m with
 | zero => exact zero_on
 | succ m ih => exact padd_on ih (mulP_on (hp m) _)
theorem swap4 {a b c d : Pt} (ha : OnP a) (hb : OnP b) (hc : OnP c) (hd : OnP d) : padd (padd a b) (padd c d) = padd (padd a c) (padd b d) := by
 rw [padd_assoc ha hb (padd_on hc hd), ← padd_assoc hb hc hd, padd_comm b c, padd_assoc hc hb hd, ← padd_assoc ha hc (padd_on hb hd)]
theorem pS_add {p : Nat → Pt} (hp : ∀ j, OnP (p j)) (a b : Nat → Nat) (m : Nat) : padd (pS p a m) (pS p b m) = pS p (fun j => a j + b j) m := by
 induction m with
 | zero => exact padd_zero zero
 | succ m ih =>
  show padd (padd (pS p a m) (mulP (p m) (a m))) (padd (pS p b m) (mulP (p m) (b m))) = padd (pS p (fun j => a j + b j) m) (mulP (p m) (a m + b m))
  rw [swap4 (pS_on hp a m) (mulP_on (hp m) _) (pS_on hp b m) (mulP_on (hp m) _), ih, mulP_add (hp m)]
theorem pS_congr {p : Nat → Pt} {a b : Nat → Nat} (h : ∀ j, a j = b j) (m : Nat) : pS p a m = pS p b m := by
 rw [show a = b from funext h]
end Ed
namespace Cw
open Fw Ww Bt Ed
theorem ein_rep {T : Nat → Q × E} {p : Nat → Pt} (hp : ∀ j, OnP (p j)) (hT : ∀ j, Rep (T j).2 (p j)) (i : Nat) {acc : E} {P0 : Pt} (h0 : OnP P0) (ha : Rep acc P0) (j : Nat) : Rep (ein T i acc j) (padd P0 (pS p (fun k => (dgW (T k).1 i).toNat) j)) := by
 induction j with
 | zero => rw [show pS p _ 0 = zero from rfl, padd_zero]; exact ha
 | succ j ih =>
  have h1 := eadd_rep (padd_on h0 (pS_on hp _ j)) (mulP_on (hp j) (dgW (T j).1 i).toNat) ih (emul_rep (hp j) (hT j) (dgW (T j).1 i).toNat)
  rw [padd_assoc h0 (pS_on hp _ j) (mulP_on (hp j) _)] at h1
  exact h1
theorem dbl4_rep {p : Nat → Pt} (hp : ∀ j, OnP (p j)) {e : E} {c : Nat → Nat} {m : Nat} (h : Rep e (pS p c m)) : Rep (dbl4 e) (pS p (fun j => 16 * c j) m) := by
 have d1 := edbl_rep (pS_on hp c m) h
 rw [pS_add hp] at d1
 have d2 := edbl_rep (pS_on hp _ m) d1
 rw [pS_add hp] at d2
 have d3 := edbl_rep (pS_on hp _ m) d2
 rw [pS_add hp] at d3
 have d4 := edbl_rep (pS_on hp _ m) d3
 rw [pS_add hp] at d4
 rw [pS_congr (b := fun j => 16 * c j) (fun j => by omega)] at d4
 exact d4
theorem dg_low (x r b : Nat) (hb : b < 16) : (x + 18446744073709551616 * r) / 16 ^ b % 16 = x / 16 ^ b % 16 := by
 have h : (18446744073709551616 : Nat) = 16 * 16 ^ (15 - b) * 16 ^ b := by
  rw [Nat.mul_assoc, ← Nat.pow_add, show 15 - b + b = 15 by omega]
 have e : 18446744073709551616 * r = (16 * (16 ^ (15 - b) * r)) * 16 ^ b := by
  rw [h]
  generalize 16 ^ (15 - b) = u
  generalize 16 ^ b = v
  simp only [Nat.mul_assoc, Nat.mul_left_comm, Nat.mul_comm]
 rw [e, Nat.add_mul_div_right _ _ (Nat.pow_pos (by decide))]
 omega
theorem dg_val (q : Q) (i : Nat) (hi : i < 64) : (dgW q i).toNat = q.num / 16 ^ i % 16 := by
 obtain ⟨r, hr⟩ := word_high q (i / 16) (by omega)
 have e : (16 : Nat) ^ i = 18446744073709551616 ^ (i / 16) * 16 ^ (i % 16) := by
  rw [show (18446744073709551616 : Nat) = 16 ^ 16 from by decide, ← Nat.pow_mul, ← Nat.pow_add]
  congr 1
  omega
 rw [e, ← Nat.div_div_eq_div_mul, hr, dg_low _ _ _ (by omega)]
 unfold dgW
 rw [BitVec.toNat_and, BitVec.toNat_ushiftRight, Nat.shiftRight_eq_div_pow, show (16 : Nat) ^ (i % 16) = 2 ^ (4 * (i % 16)) by rw [Nat.pow_mul]]
 exact Nat.and_two_pow_sub_one_eq_mod _ 4
theorem dg_step (N d : Nat) (hd : d < 64) : 16 * (N / 16 ^ (64 - d)) + N / 16 ^ (63 - d) % 16 = N / 16 ^ (64 - (d + 1)) := by
 have e : (16 : Nat) ^ (64 - d) = 16 ^ (63 - d) * 16 := by rw [← Nat.pow_succ]; congr 1; omega
 rw [e, ← Nat.div_div_eq_div_mul, show 64 - (d + 1) = 63 - d by omega]
 omega
theorem esum_rep {T : Nat → Q × E} {p : Nat → Pt} (hp : ∀ j, OnP (p j)) (hT : ∀ j, Rep (T j).2 (p j)) (m d : Nat) (hd : d ≤ 64) : Rep (esum T m d) (pS p (fun j => (T j).1.num / 16 ^ (64 - d)) m) := by
 induction d with
 | zero =>
  have hz : ∀ j, (T j).1.num / 16 ^ 64 = 0 := fun j => Nat.div_eq_of_lt (Nat.lt_of_lt_of_le (num_lt _) (by decide))
  have : ∀ m, pS p (fun j => (T j).1.num / 16 ^ (64 - 0)) m = zero := fun m => by
   induction m with
   | zero => rfl
   | succ m ih =>
    show padd (pS p (fun j => (T j).1.num / 16 ^ (64 - 0)) m) (mulP (p m) ((T m).1.num / 16 ^ (64 - 0))) = zero
    rw [ih, show (T m).1.num / 16 ^ (64 - 0) = 0 from hz m]
    exact padd_zero zero
  rw [this]
  exact ezero_rep
 | succ d ih =>
  have h1 := ein_rep hp hT (63 - d) (pS_on hp _ m) (dbl4_rep hp (ih (by omega))) m
  rw [pS_add hp] at h1
  rw [pS_congr (b := fun j => (T j).1.num / 16 ^ (64 - (d + 1))) (fun j => by
   show 16 * ((T j).1.num / 16 ^ (64 - d)) + (dgW (T j).1 (63 - d)).toNat = _
   rw [dg_val _ _ (by omega), dg_step _ _ (by omega)])] at h1
  exact h1
theorem esum_all {T : Nat → Q × E} {p : Nat → Pt} (hp : ∀ j, OnP (p j)) (hT : ∀ j, Rep (T j).2 (p j)) (m : Nat) : Rep (esum T m 64) (pS p (fun j => (T j).1.num) m) := by
 have h := esum_rep hp hT m 64 (Nat.le_refl _)
 rw [pS_congr (b := fun j => (T j).1.num) (fun j => by rw [Nat.sub_self, Nat.pow_zero, Nat.div_one])] at h
 exact h
def encP (p : Pt) : List UInt8 := leB (enc p.1 p.2) 32
theorem rep_bytes {e : E} {p : Pt} (h : Rep e p) : leB (enc (e.x * inv e.z) (e.y * inv e.z)) 32 = encP p := by
 rw [rep_x h, rep_y h]; rfl
end Cw
end Go.Proofs.YtbojijefenfbgaaGreatDoor
