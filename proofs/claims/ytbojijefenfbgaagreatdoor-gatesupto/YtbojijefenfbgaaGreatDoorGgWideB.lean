/- Walks of the program's wide numbers: FromBytes, Bytes. Walks of the program's wide numbers: Bytes. Walk of the program's curve: Bytes. -/
import Derived.Test.YtbojijefenfbgaaGreatDoorGgShort
import Derived.Test.YtbojijefenfbgaaGreatDoorGgCurveF
namespace Go.Proofs.YtbojijefenfbgaaGreatDoor
open Go.RowKit
def le : List UInt8 → Nat
 | [] => 0
 | c :: l => c.toNat + 256 * le l
theorem le_append (a b : List UInt8) : le (a ++ b) = le a + 256 ^ a.length * le b := by
 induction a with
 | nil => simp [le]
 | cons c a ih =>
  show c.toNat + 256 * le (a ++ b) = c.toNat + 256 * le a + 256 ^ (a.length + 1) * le b
  rw [ih, Nat.pow_succ, Nat.mul_add, Nat.mul_comm (256 ^ a.length) 256, Nat.mul_assoc, Nat.add_assoc]
theorem le_lt (a : List UInt8) : le a < 256 ^ a.length := by
 induction a with
 | nil => decide
 | cons c a ih =>
  show c.toNat + 256 * le a < 256 ^ (a.length + 1)
  have h := c.toNat_lt
  rw [Nat.pow_succ]
  omega
namespace Ww
open Fw Bt
def lw8 (l : List UInt8) (k : Nat) : BitVec 64 := BitVec.ofNat 64 (le ((l.drop (8 * k)).take 8))
def rowF (l : List UInt8) (k : Nat) : Value := .int .u64 (un (lw8 l k))
theorem or_step (x c s : Nat) (hs : s < 8) (hx : x < 256 ^ s) (hc : c < 256) : BitVec.ofNat 64 x ||| BitVec.ofNat 64 c <<< (8 * s) = BitVec.ofNat 64 (x + 256 ^ s * c) := by
 apply BitVec.eq_of_toNat_eq
 have e : (256 : Nat) ^ s = 2 ^ (8 * s) := by rw [Nat.pow_mul]
 have hp : (256 : Nat) ^ s * 256 ≤ 2 ^ 64 := by
  rcases s with _ | _ | _ | _ | _ | _ | _ | _ | s <;> first | decide | omega
 have hb : x + 256 ^ s * c < 2 ^ 64 := by
  have : 256 ^ s * c ≤ 256 ^ s * 255 := Nat.mul_le_mul_left _ (by omega)
  omega
 have hx64 : x < 2 ^ 64 := by omega
 have hc64 : c * 256 ^ s < 2 ^ 64 := by rw [Nat.mul_comm]; omega
 rw [BitVec.toNat_or, BitVec.toNat_shiftLeft, BitVec.toNat_ofNat, BitVec.toNat_ofNat, BitVec.toNat_ofNat, Nat.mod_eq_of_lt hx64, Nat.mod_eq_of_lt (by omega : c < 2 ^ 64), Nat.mod_eq_of_lt hb, Nat.shiftLeft_eq, ← e, Nat.mod_eq_of_lt hc64]
 have h := Nat.shiftLeft_add_eq_or_of_lt (show x < 2 ^ (8 * s) by rw [← e]; exact hx) c
 rw [Nat.shiftLeft_eq, ← e] at h
 rw [Nat.or_comm, ← h, Nat.mul_comm, Nat.add_comm]
theorem take_drop8 (l : List UInt8) (i k : Nat) (hi : i < l.length) : (((l.take (i + 1)).drop (8 * k)).take 8) = if k = i / 8 then ((l.take i).drop (8 * k)).take 8 ++ [l[i]] else ((l.take i).drop (8 * k)).take 8 := by
 have h1 : l.take (i + 1) = l.take i ++ [l[i]] := by rw [List.take_succ_eq_append_getElem hi]
 have hlen : (l.take i).length = i := by simp; omega
 rw [h1]
 by_cases hk : k = i / 8
 ·rw [if_pos hk, List.drop_append_of_le_length (by omega), List.take_append, List.take_of_length_le (by simp; omega)]
  congr 1
  rw [List.take_of_length_le]
  simp
  omega
 ·rw [if_neg hk]
  by_cases hlt : 8 * k ≤ i
  ·rw [List.drop_append_of_le_length (by omega), List.take_append_of_le_length (by simp; omega)]
  ·rw [List.drop_eq_nil_of_le (by simp; omega), List.drop_eq_nil_of_le (by simp; omega)]
theorem row_step (l : List UInt8) (i k : Nat) (hi : i < l.length) (_hi32 : i < 32) : rowF (l.take (i + 1)) k = if k = i / 8 then .int .u64 (un (lw8 (l.take i) (i / 8) ||| BitVec.ofNat 64 l[i].toNat <<< (8 * (i % 8)))) else rowF (l.take i) k := by
 unfold rowF lw8
 rw [take_drop8 l i k hi]
 by_cases hk : k = i / 8
 ·rw [if_pos hk, if_pos hk]
  subst hk
  have hln : ((l.take i).drop (8 * (i / 8))).length = i % 8 := by simp; omega
  have htk : ((l.take i).drop (8 * (i / 8))).take 8 = (l.take i).drop (8 * (i / 8)) := List.take_of_length_le (by rw [hln]; omega)
  have hx := le_lt ((l.take i).drop (8 * (i / 8)))
  rw [hln] at hx
  rw [htk, le_append, hln]
  congr 2
  rw [or_step _ _ _ (by omega) hx (UInt8.toNat_lt _)]
  simp [le]
 ·rw [if_neg hk, if_neg hk]
def bq (l : List UInt8) : Q := ⟨lw8 l 0, lw8 l 1, lw8 l 2, lw8 l 3⟩
theorem lw8_val (l : List UInt8) (k : Nat) : (lw8 l k).toNat = le ((l.drop (8 * k)).take 8) := by
 unfold lw8
 rw [BitVec.toNat_ofNat]
 apply Nat.mod_eq_of_lt
 have h := le_lt ((l.drop (8 * k)).take 8)
 have h2 : ((l.drop (8 * k)).take 8).length ≤ 8 := by simp; omega
 have h3 : (256 : Nat) ^ ((l.drop (8 * k)).take 8).length ≤ 256 ^ 8 := Nat.pow_le_pow_right (by decide) h2
 have h4 : (256 : Nat) ^ 8 = 2 ^ 64 := by decide
 omega
theorem le_split (l : List UInt8) : le l = le (l.take 8) + 18446744073709551616 * le (l.drop 8) := by
 by_cases h : 8 ≤ l.length
 ·have e := le_append (l.take 8) (l.drop 8)
  rw [List.take_append_drop, show (l.take 8).length = 8 by simp; omega] at e
  exact e
 ·rw [List.take_of_length_le (by omega), List.drop_eq_nil_of_le (by omega)]; rfl
theorem bq_num (l : List UInt8) (h : l.length ≤ 32) : (bq l).num = le l := by
 unfold bq Q.num
 simp only [lw8_val]
 have e0 := le_split l
 have e1 := le_split (l.drop 8)
 have e2 := le_split (l.drop 16)
 have e3 := le_split (l.drop 24)
 rw [List.drop_drop] at e1 e2 e3
 rw [show (l.drop (24 + 8)) = [] from List.drop_eq_nil_of_le (by omega), show le [] = 0 from rfl] at e3
 simp only [Nat.mul_zero, Nat.mul_one, List.drop_zero] at *
 rw [show 8 + 8 = 16 from rfl] at e1
 rw [show 16 + 8 = 24 from rfl] at e2
 rw [show 8 * 2 = 16 from rfl, show 8 * 3 = 24 from rfl]
 omega
set_option maxHeartbeats 400000 in
theorem fromBytes_gt (l : List UInt8) (hl : 32 < l.length) (w : World) : Calls Tryz.prog 105 #[.string ⟨l.toArray⟩] w fun e w' => e = .returned (.agg (bq (l.take 32)).cells) ∧ Below w.heap.size w w' := by
 have HZ : Hid (((w.alloc (.cells zQ.cells 184)).alloc (.cells zQ.cells 184)).heap[w.heap.size + 1]? = some (.cells (Own.mkRow 4 (rowF (l.take 0))) 184 (0, 0))) := alloc_at _ _ _ (by simp)
 have HZ2 : Hid (NAt ((w.alloc (.cells zQ.cells 184)).alloc (.cells zQ.cells 184)) w.heap.size zQ) := NAt.below (alloc_at w _ _ rfl) ((Below.refl (w.heap.size + 1) _).alloc (by simp) _) (by omega)
 have hm : ((32 : Int) < (l.length : Int)) := by omega
 go_enter Tryz.func105, Tryz.ntmps105
 go_wp2_with fail
 go_loopw [8] (fun i wq => ∃ k : Nat, k ≤ 32 ∧ i = .int .i64 (k : Int) ∧ wq.heap[w.heap.size + 1]? = some (.cells (Own.mkRow 4 (rowF (l.take k))) 184 (0, 0)) ∧ NAt wq w.heap.size zQ ∧ Below w.heap.size w wq) (fun i _ => 32 - (intOf i).toNat)
 case atStart => exact ⟨0, by omega, rfl, HZ.out, HZ2.out, ((Below.refl _ _).alloc (Nat.le_refl _) _).alloc (by simp) _⟩
 case round =>
  clear HZ HZ2
  rename World => wa
  obtain ⟨k, hk, rfl, hr, hz, hb⟩ := hrel
  have HR : Hid (wa.heap[w.heap.size + 1]? = some (.cells (Own.mkRow 4 (rowF (l.take k))) 184 (0, 0))) := hr
  have HZ : Hid (NAt wa w.heap.size zQ) := hz
  have HB : Hid (Below w.heap.size w wa) := hb
  clear hr hz hb
  by_cases hk32 : k < 32
  ·have HC : Hid (wa.cell? ⟨w.heap.size + 1, k / 8, none⟩ = some (.int .u64 (un (lw8 (l.take k) (k / 8))))) := Own.row_cell HR.out (k / 8) (by omega)
   go_wp2_with fail
   refine Qt.wp_tail 14 (by kernel_rfl) (by kernel_rfl) ?_
   refine Qt.y_val rfl (.int .i64 (k : Int)) (fun _ _ => by kernel_rfl) ?_
   refine Qt.y_val rfl (.int .i64 ((k / 8 : Nat) : Int)) (fun w' _ => by go_simp; rw [IntKind.wrap_i64]; omega) ?_
   simp only [Act.put, zA, zB, zC]
   refine Qt.y_idx rfl 184 _ _ rfl 159 4 1 Tryz.underlying184 (by kernel_rfl) (by kernel_rfl) (w.heap.size + 1) 0 (k / 8) .i64 rfl rfl (by omega) ?_
   rw [show 0 + k / 8 * 1 = k / 8 by omega]
   refine Cw.y_u64 rfl _ rfl (w.heap.size + 1) (k / 8) (.int .u64 (un (lw8 (l.take k) (k / 8)))) rfl (Array.getElem?_eq_some_iff.1 HR.out).1 HC.out ?_
   simp only [Act.put, zA, zB, zC]
   refine Qt.y_val rfl (.string ⟨l.toArray⟩) (fun _ _ => by kernel_rfl) ?_
   refine Qt.y_val rfl (.int .i64 (k : Int)) (fun _ _ => by kernel_rfl) ?_
   simp only [Act.put, zA, zB, zC]
   refine Qt.y_val rfl (.int .u8 (l[k].toNat : Int)) (fun w' _ => ?_) ?_
   ·go_simp
    rw [dif_pos (by omega)]
    rfl
   refine Qt.y_val rfl (.int .u64 (un (BitVec.ofNat 64 l[k].toNat))) (fun w' _ => ?_) ?_
   ·go_simp
    exact UV.u_wrap _
   refine Qt.y_val rfl (.int .i64 (k : Int)) (fun _ _ => by kernel_rfl) ?_
   simp only [Act.put, zA, zB, zC]
   refine Qt.y_val rfl (.int .i64 ((k % 8 : Nat) : Int)) (fun w' _ => by go_simp; exact Int.tmod_eq_emod_of_nonneg (by omega)) ?_
   refine Qt.y_val rfl (.int .i64 ((8 * (k % 8) : Nat) : Int)) (fun w' _ => ?_) ?_
   ·go_simp
    rw [IntKind.wrap_i64]
    omega
   simp only [Act.put, zA, zB, zC]
   refine Qt.y_val rfl (.int .u64 (un (BitVec.ofNat 64 l[k].toNat <<< (8 * (k % 8))))) (fun w' _ => ?_) ?_
   ·go_simp
    rw [show (8 * ((k : Int) % 8)).toNat = 8 * (k % 8) by omega]
    exact UV.u_shl _ _
   refine Qt.y_val rfl (.int .u64 (un (lw8 (l.take k) (k / 8) ||| BitVec.ofNat 64 l[k].toNat <<< (8 * (k % 8))))) (fun w' _ => ?_) ?_
   ·go_simp
    exact UV.u_or _ _
   simp only [Act.put, zA, zB, zC]
   refine Qt.y_idx rfl 184 _ _ rfl 159 4 1 Tryz.underlying184 (by kernel_rfl) (by kernel_rfl) (w.heap.size + 1) 0 (k / 8) .i64 rfl rfl (by omega) ?_
   rw [show 0 + k / 8 * 1 = k / 8 by omega]
   simp only [Act.put, zA, zB, zC]
   refine Qt.y_nil ?_
   intro w1 hb1
   have HX : Hid (Below wa.heap.size wa w1) := hb1
   clear hb1
   have HR1 : Hid (w1.heap[w.heap.size + 1]? = some (.cells (Own.mkRow 4 (rowF (l.take k))) 184 (0, 0))) := (HX.out.block _ (Array.getElem?_eq_some_iff.1 HR.out).1).trans HR.out
   have hc1 : w1.cell? ⟨w.heap.size + 1, k / 8, none⟩ = some (.int .u64 (un (lw8 (l.take k) (k / 8)))) := Own.row_cell HR1.out (k / 8) (by omega)
   have hf1 : w1.frozen? ⟨w.heap.size + 1, k / 8, none⟩ = false := Own.row_frozen HR1.out (k / 8)
   have hst := Own.row_store HR1.out (k / 8) (.int .u64 (un (lw8 (l.take k) (k / 8) ||| BitVec.ofNat 64 l[k].toNat <<< (8 * (k % 8)))))
   rw [show (fun j => if j = k / 8 then Value.int .u64 (un (lw8 (l.take k) (k / 8) ||| BitVec.ofNat 64 l[k].toNat <<< (8 * (k % 8)))) else rowF (l.take k) j) = rowF (l.take (k + 1)) from funext fun j => (row_step l k j (by omega) hk32).symm] at hst
   have HST : Hid _ := hst
   have HZ1 : Hid (NAt (w1.setCell ⟨w.heap.size + 1, k / 8, none⟩ (.int .u64 (un (lw8 (l.take k) (k / 8) ||| BitVec.ofNat 64 l[k].toNat <<< (8 * (k % 8)))))) w.heap.size zQ) := by
    show _ = _
    rw [Below.heap_setCell _ _ _ _ (by show w.heap.size ≠ w.heap.size + 1; omega)]
    exact HZ.out.below HX.out HZ.out.lt
   clear hst
   go_wp2_with fail
   exact ⟨⟨k + 1, by omega, by go_num, HST.out, HZ1.out, (HB.out.trans (HX.out.mono HB.out.size)).setCell (by show w.heap.size ≤ w.heap.size + 1; omega) _⟩, by simp [intOf]; omega⟩
  ·obtain rfl : k = 32 := by omega
   have HN : Hid (NAt wa (w.heap.size + 1) (bq (l.take 32))) := HR.out
   go_wp2_with (first | refine load_n rfl _ rfl (w.heap.size + 1) (bq (l.take 32)) rfl HN.out ?_ | refine store_n rfl _ _ rfl w.heap.size (bq (l.take 32)) zQ rfl rfl HZ.out ?_)
   exact ret_n Tryz.results105 rfl w.heap.size (bq (l.take 32)) rfl (HZ.out.setRow _) ⟨rfl, HB.out.trans ((below_setRow _ _ _).mono (Nat.le_refl _))⟩
set_option maxHeartbeats 400000 in
theorem fromBytes_eq (l : List UInt8) (hl : l.length = 32) (w : World) : Calls Tryz.prog 105 #[.string ⟨l.toArray⟩] w fun e w' => e = .returned (.agg (bq (l.take 32)).cells) ∧ Below w.heap.size w w' := by
 have HZ : Hid (((w.alloc (.cells zQ.cells 184)).alloc (.cells zQ.cells 184)).heap[w.heap.size + 1]? = some (.cells (Own.mkRow 4 (rowF (l.take 0))) 184 (0, 0))) := alloc_at _ _ _ (by simp)
 have HZ2 : Hid (NAt ((w.alloc (.cells zQ.cells 184)).alloc (.cells zQ.cells 184)) w.heap.size zQ) := NAt.below (alloc_at w _ _ rfl) ((Below.refl (w.heap.size + 1) _).alloc (by simp) _) (by omega)
 have hm : ((l.length : Int) = 32) := by omega
 go_enter Tryz.func105, Tryz.ntmps105
 go_wp2_with fail
 go_loopw [8] (fun i wq => ∃ k : Nat, k ≤ 32 ∧ i = .int .i64 (k : Int) ∧ wq.heap[w.heap.size + 1]? = some (.cells (Own.mkRow 4 (rowF (l.take k))) 184 (0, 0)) ∧ NAt wq w.heap.size zQ ∧ Below w.heap.size w wq) (fun i _ => 32 - (intOf i).toNat)
 case atStart => exact ⟨0, by omega, rfl, HZ.out, HZ2.out, ((Below.refl _ _).alloc (Nat.le_refl _) _).alloc (by simp) _⟩
 case round =>
  clear HZ HZ2
  rename World => wa
  obtain ⟨k, hk, rfl, hr, hz, hb⟩ := hrel
  have HR : Hid (wa.heap[w.heap.size + 1]? = some (.cells (Own.mkRow 4 (rowF (l.take k))) 184 (0, 0))) := hr
  have HZ : Hid (NAt wa w.heap.size zQ) := hz
  have HB : Hid (Below w.heap.size w wa) := hb
  clear hr hz hb
  by_cases hk32 : k < 32
  ·have HC : Hid (wa.cell? ⟨w.heap.size + 1, k / 8, none⟩ = some (.int .u64 (un (lw8 (l.take k) (k / 8))))) := Own.row_cell HR.out (k / 8) (by omega)
   go_wp2_with fail
   refine Qt.wp_tail 14 (by kernel_rfl) (by kernel_rfl) ?_
   refine Qt.y_val rfl (.int .i64 (k : Int)) (fun _ _ => by kernel_rfl) ?_
   refine Qt.y_val rfl (.int .i64 ((k / 8 : Nat) : Int)) (fun w' _ => by go_simp; rw [IntKind.wrap_i64]; omega) ?_
   simp only [Act.put, zA, zB, zC]
   refine Qt.y_idx rfl 184 _ _ rfl 159 4 1 Tryz.underlying184 (by kernel_rfl) (by kernel_rfl) (w.heap.size + 1) 0 (k / 8) .i64 rfl rfl (by omega) ?_
   rw [show 0 + k / 8 * 1 = k / 8 by omega]
   refine Cw.y_u64 rfl _ rfl (w.heap.size + 1) (k / 8) (.int .u64 (un (lw8 (l.take k) (k / 8)))) rfl (Array.getElem?_eq_some_iff.1 HR.out).1 HC.out ?_
   simp only [Act.put, zA, zB, zC]
   refine Qt.y_val rfl (.string ⟨l.toArray⟩) (fun _ _ => by kernel_rfl) ?_
   refine Qt.y_val rfl (.int .i64 (k : Int)) (fun _ _ => by kernel_rfl) ?_
   simp only [Act.put, zA, zB, zC]
   refine Qt.y_val rfl (.int .u8 (l[k].toNat : Int)) (fun w' _ => ?_) ?_
   ·go_simp
    rfl
   refine Qt.y_val rfl (.int .u64 (un (BitVec.ofNat 64 l[k].toNat))) (fun w' _ => ?_) ?_
   ·go_simp
    exact UV.u_wrap _
   refine Qt.y_val rfl (.int .i64 (k : Int)) (fun _ _ => by kernel_rfl) ?_
   simp only [Act.put, zA, zB, zC]
   refine Qt.y_val rfl (.int .i64 ((k % 8 : Nat) : Int)) (fun w' _ => by go_simp; exact Int.tmod_eq_emod_of_nonneg (by omega)) ?_
   refine Qt.y_val rfl (.int .i64 ((8 * (k % 8) : Nat) : Int)) (fun w' _ => ?_) ?_
   ·go_simp
    rw [IntKind.wrap_i64]
    omega
   simp only [Act.put, zA, zB, zC]
   refine Qt.y_val rfl (.int .u64 (un (BitVec.ofNat 64 l[k].toNat <<< (8 * (k % 8))))) (fun w' _ => ?_) ?_
   ·go_simp
    rw [show (8 * ((k : Int) % 8)).toNat = 8 * (k % 8) by omega]
    exact UV.u_shl _ _
   refine Qt.y_val rfl (.int .u64 (un (lw8 (l.take k) (k / 8) ||| BitVec.ofNat 64 l[k].toNat <<< (8 * (k % 8))))) (fun w' _ => ?_) ?_
   ·go_simp
    exact UV.u_or _ _
   simp only [Act.put, zA, zB, zC]
   refine Qt.y_idx rfl 184 _ _ rfl 159 4 1 Tryz.underlying184 (by kernel_rfl) (by kernel_rfl) (w.heap.size + 1) 0 (k / 8) .i64 rfl rfl (by omega) ?_
   rw [show 0 + k / 8 * 1 = k / 8 by omega]
   simp only [Act.put, zA, zB, zC]
   refine Qt.y_nil ?_
   intro w1 hb1
   have HX : Hid (Below wa.heap.size wa w1) := hb1
   clear hb1
   have HR1 : Hid (w1.heap[w.heap.size + 1]? = some (.cells (Own.mkRow 4 (rowF (l.take k))) 184 (0, 0))) := (HX.out.block _ (Array.getElem?_eq_some_iff.1 HR.out).1).trans HR.out
   have hc1 : w1.cell? ⟨w.heap.size + 1, k / 8, none⟩ = some (.int .u64 (un (lw8 (l.take k) (k / 8)))) := Own.row_cell HR1.out (k / 8) (by omega)
   have hf1 : w1.frozen? ⟨w.heap.size + 1, k / 8, none⟩ = false := Own.row_frozen HR1.out (k / 8)
   have hst := Own.row_store HR1.out (k / 8) (.int .u64 (un (lw8 (l.take k) (k / 8) ||| BitVec.ofNat 64 l[k].toNat <<< (8 * (k % 8)))))
   rw [show (fun j => if j = k / 8 then Value.int .u64 (un (lw8 (l.take k) (k / 8) ||| BitVec.ofNat 64 l[k].toNat <<< (8 * (k % 8)))) else rowF (l.take k) j) = rowF (l.take (k + 1)) from funext fun j => (row_step l k j (by omega) hk32).symm] at hst
   have HST : Hid _ := hst
   have HZ1 : Hid (NAt (w1.setCell ⟨w.heap.size + 1, k / 8, none⟩ (.int .u64 (un (lw8 (l.take k) (k / 8) ||| BitVec.ofNat 64 l[k].toNat <<< (8 * (k % 8)))))) w.heap.size zQ) := by
    show _ = _
    rw [Below.heap_setCell _ _ _ _ (by show w.heap.size ≠ w.heap.size + 1; omega)]
    exact HZ.out.below HX.out HZ.out.lt
   clear hst
   go_wp2_with fail
   exact ⟨⟨k + 1, by omega, by go_num, HST.out, HZ1.out, (HB.out.trans (HX.out.mono HB.out.size)).setCell (by show w.heap.size ≤ w.heap.size + 1; omega) _⟩, by simp [intOf]; omega⟩
  ·obtain rfl : k = 32 := by omega
   have HN : Hid (NAt wa (w.heap.size + 1) (bq (l.take 32))) := HR.out
   go_wp2_with (first | refine load_n rfl _ rfl (w.heap.size + 1) (bq (l.take 32)) rfl HN.out ?_ | refine store_n rfl _ _ rfl w.heap.size (bq (l.take 32)) zQ rfl rfl HZ.out ?_)
   exact ret_n Tryz.results105 rfl w.heap.size (bq (l.take 32)) rfl (HZ.out.setRow _) ⟨rfl, HB.out.trans ((below_setRow _ _ _).mono (Nat.le_refl _))⟩
theorem fromBytes_f (l : List UInt8) (hl : 32 ≤ l.length) (w : World) : Calls Tryz.prog 105 #[.string ⟨l.toArray⟩] w fun e w' => e = .returned (.agg (bq (l.take 32)).cells) ∧ Below w.heap.size w w' := by
 rcases Nat.lt_or_ge 32 l.length with h | h
 ·exact fromBytes_gt l h w
 ·exact fromBytes_eq l (by omega) w
end Ww
end Go.Proofs.YtbojijefenfbgaaGreatDoor
namespace Go.Proofs.YtbojijefenfbgaaGreatDoor
open Go.RowKit
def leB (n : Nat) : Nat → List UInt8
 | 0 => []
 | k + 1 => UInt8.ofNat (n % 256) :: leB (n / 256) k
theorem leB_length (k n : Nat) : (leB n k).length = k := by
 induction k generalizing n with
 | zero => rfl
 | succ k ih => simp [leB, ih]
theorem leB_get (k n i : Nat) (h : i < (leB n k).length) : (leB n k)[i] = UInt8.ofNat (n / 256 ^ i % 256) := by
 induction k generalizing n i with
 | zero => simp [leB] at h
 | succ k ih =>
  rcases i with _ | i
  ·simp [leB]
  ·simp only [leB, List.getElem_cons_succ]
   rw [ih, Nat.div_div_eq_div_mul, Nat.pow_succ, Nat.mul_comm]
theorem le_leB (k n : Nat) (h : n < 256 ^ k) : le (leB n k) = n := by
 induction k generalizing n with
 | zero => simp at h; subst h; rfl
 | succ k ih =>
  show (UInt8.ofNat (n % 256)).toNat + 256 * le (leB (n / 256) k) = n
  rw [ih _ (by rw [Nat.pow_succ] at h; omega)]
  have : (UInt8.ofNat (n % 256)).toNat = n % 256 := by simp
  rw [this]
  omega
theorem leB_le (l : List UInt8) : leB (le l) l.length = l := by
 induction l with
 | nil => rfl
 | cons c l ih =>
  show UInt8.ofNat ((c.toNat + 256 * le l) % 256) :: leB ((c.toNat + 256 * le l) / 256) l.length = _
  have h := c.toNat_lt
  rw [show (c.toNat + 256 * le l) / 256 = le l by omega, ih, show (c.toNat + 256 * le l) % 256 = c.toNat by omega]
  simp
namespace Ww
open Fw Bt
theorem word_high (q : Q) (a : Nat) (ha : a < 4) : ∃ r, q.num / 18446744073709551616 ^ a = (Cw.qw q a).toNat + 18446744073709551616 * r := by
 have h0 := q.a0.isLt
 have h1 := q.a1.isLt
 have h2 := q.a2.isLt
 have h3 := q.a3.isLt
 unfold Q.num
 rcases a with _ | _ | _ | _ | a
 ·exact ⟨q.a1.toNat + 18446744073709551616 * q.a2.toNat + 340282366920938463463374607431768211456 * q.a3.toNat, by show _ = q.a0.toNat + _; omega⟩
 ·exact ⟨q.a2.toNat + 18446744073709551616 * q.a3.toNat, by show _ = q.a1.toNat + _; omega⟩
 ·exact ⟨q.a3.toNat, by show _ = q.a2.toNat + _; omega⟩
 ·exact ⟨0, by show _ = q.a3.toNat + _; omega⟩
 ·omega
theorem byte_low (x r b : Nat) (hb : b < 8) : (x + 18446744073709551616 * r) / 256 ^ b % 256 = x / 256 ^ b % 256 := by
 rcases b with _ | _ | _ | _ | _ | _ | _ | _ | b
 ·simp; omega
 ·simp; omega
 ·simp; omega
 ·simp; omega
 ·simp; omega
 ·simp; omega
 ·simp; omega
 ·simp; omega
 ·omega
theorem byte_q (q : Q) (k : Nat) (hk : k < 32) : q.num / 256 ^ k % 256 = (Cw.qw q (k / 8)).toNat / 256 ^ (k % 8) % 256 := by
 obtain ⟨r, hr⟩ := word_high q (k / 8) (by omega)
 have e : (256 : Nat) ^ k = 18446744073709551616 ^ (k / 8) * 256 ^ (k % 8) := by
  rw [show (18446744073709551616 : Nat) = 256 ^ 8 from by decide, ← Nat.pow_mul, ← Nat.pow_add]
  congr 1
  omega
 rw [e, ← Nat.div_div_eq_div_mul, hr, byte_low _ _ _ (by omega)]
def outF (q : Q) (k j : Nat) : Value := if j < k then .int .u8 ((q.num / 256 ^ j % 256 : Nat) : Int) else .int .u8 0
theorem outF_step (q : Q) (k : Nat) : (fun j => if j = k then Value.int .u8 ((q.num / 256 ^ k % 256 : Nat) : Int) else outF q k j) = outF q (k + 1) := by
 funext j
 unfold outF
 by_cases h : j = k
 ·subst h; rw [if_pos rfl, if_pos (by omega)]
 ·rw [if_neg h]
  by_cases h2 : j < k
  ·rw [if_pos h2, if_pos (by omega)]
  ·rw [if_neg h2, if_neg (by omega)]
theorem byte_val (q : Q) (k : Nat) (hk : k < 32) : IntKind.u8.wrap (un (Cw.qw q (k / 8) >>> (8 * (k % 8)))) = ((q.num / 256 ^ k % 256 : Nat) : Int) := by
 rw [byte_q q k hk]
 unfold un
 rw [BitVec.toNat_ushiftRight, Nat.shiftRight_eq_div_pow, show (256 : Nat) ^ (k % 8) = 2 ^ (8 * (k % 8)) by rw [Nat.pow_mul]]
 rw [IntKind.wrap_u8]
 rfl
theorem q_cell {w : World} {b : Nat} {q : Q} (h : NAt w b q) (k : Nat) (hk : k < 4) : w.cell? ⟨b, k, none⟩ = some (.int .u64 (un (Cw.qw q k))) := by
 rw [cell_of_row w b k _ _ _ h]
 rcases k with _ | _ | _ | _ | k <;> first | rfl | omega
attribute [local go_sem] UV.u_add UV.u_mul UV.u_sub UV.u_xor UV.u_and UV.u_or UV.u_shr UV.u_shl UV.u_not UV.u_notm UV.u_wrap_un
theorem slice32_all (W : World) (b : Nat) : Sem.run Tryz.prog (Instr.sliceAt 296 (.pointer (some ⟨b, 0, none⟩)) none none none) W = .ok (.slice (some ⟨b, 0, none⟩) 32 32) W := by
 kernel_rfl
set_option maxHeartbeats 400000 in
theorem bytes_f (q : Q) (w : World) : Calls Tryz.prog 122 #[.agg q.cells] w fun e w' => e = .returned (.string ⟨(leB q.num 32).toArray⟩) ∧ Below w.heap.size w w' := by
 have HZ : Hid (((w.alloc (.cells q.cells 184)).alloc (.cells (Own.zeros 32 (.int .u8 0)) 296)).heap[w.heap.size + 1]? = some (.cells (Own.mkRow 32 (outF q 0)) 296 (0, 0))) := by
  show _ = _
  rw [show Own.mkRow 32 (outF q 0) = Own.zeros 32 (.int .u8 0) from Own.mkRow_congr fun j _ => if_neg (by omega)]
  exact alloc_at _ _ _ (by simp)
 have HQ : Hid (NAt ((w.alloc (.cells q.cells 184)).alloc (.cells (Own.zeros 32 (.int .u8 0)) 296)) w.heap.size q) := NAt.below (alloc_at w _ _ rfl) ((Below.refl (w.heap.size + 1) _).alloc (by simp) _) (by omega)
 go_enter Tryz.func122, Tryz.ntmps122
 go_wp2_with (refine Own.wpList_alloc_at _ rfl 296 rfl (Own.zeros 32 (.int .u8 0)) (by kernel_rfl) ?_)
 go_loopw [5] (fun i wq => ∃ k : Nat, k ≤ 32 ∧ i = .int .i64 (k : Int) ∧ wq.heap[w.heap.size + 1]? = some (.cells (Own.mkRow 32 (outF q k)) 296 (0, 0)) ∧ NAt wq w.heap.size q ∧ Below w.heap.size w wq) (fun i _ => 32 - (intOf i).toNat)
 case atStart => exact ⟨0, by omega, rfl, HZ.out, HQ.out, ((Below.refl _ _).alloc (Nat.le_refl _) _).alloc (by simp) _⟩
 case round =>
  clear HZ HQ
  rename World => wa
  obtain ⟨k, hk, rfl, hr, hq, hb⟩ := hrel
  have HR : Hid (wa.heap[w.heap.size + 1]? = some (.cells (Own.mkRow 32 (outF q k)) 296 (0, 0))) := hr
  have HQ : Hid (NAt wa w.heap.size q) := hq
  have HB : Hid (Below w.heap.size w wa) := hb
  clear hr hq hb
  by_cases hk32 : k < 32
  ·have hcq : wa.cell? ⟨w.heap.size, k / 8, none⟩ = some (.int .u64 (un (Cw.qw q (k / 8)))) := q_cell HQ.out (k / 8) (by omega)
   have hcr : wa.cell? ⟨w.heap.size + 1, k, none⟩ = some (outF q k k) := Own.row_cell HR.out k hk32
   have hfr : wa.frozen? ⟨w.heap.size + 1, k, none⟩ = false := Own.row_frozen HR.out k
   have hbv := byte_val q k hk32
   have hst := Own.row_store HR.out k (.int .u8 ((q.num / 256 ^ k % 256 : Nat) : Int))
   rw [outF_step] at hst
   have HST : Hid _ := hst
   have HQ1 : Hid (NAt (wa.setCell ⟨w.heap.size + 1, k, none⟩ (.int .u8 ((q.num / 256 ^ k % 256 : Nat) : Int))) w.heap.size q) := by
    show _ = _
    rw [Below.heap_setCell _ _ _ _ (by show w.heap.size ≠ w.heap.size + 1; omega)]
    exact HQ.out
   clear hst
   go_wp2_with fail
   exact ⟨⟨k + 1, by omega, by go_num, HST.out, HQ1.out, HB.out.setCell (by show w.heap.size ≤ w.heap.size + 1; omega) _⟩, by simp [intOf]; omega⟩
  ·obtain rfl : k = 32 := by omega
   have HC : Hid (∀ j (h : j < (leB q.num 32).length), wa.cell? ⟨w.heap.size + 1, 0 + j, none⟩ = some (.int .u8 ((leB q.num 32)[j].toNat : Int))) := fun j hj => by
    have hj' : j < 32 := by rw [leB_length] at hj; exact hj
    rw [Nat.zero_add, Own.row_cell HR.out j hj', leB_get]
    unfold outF
    rw [if_pos hj']
    simp
   have hsl := fun W => slice32_all W (w.heap.size + 1)
   go_wp2_with (refine Own.wpList_string_at _ rfl _ 145 9 5 rfl Tryz.underlying145 Tryz.underlying5 Tryz.underlying9 (w.heap.size + 1) 0 32 (leB q.num 32) rfl HC.out ?_)
   exact bodyPost_ret (v := .string ⟨(leB q.num 32).toArray⟩) (by simp [results, Tryz.results122, go_sem]) rfl ⟨rfl, HB.out⟩
end Ww
end Go.Proofs.YtbojijefenfbgaaGreatDoor
namespace Go.Proofs.YtbojijefenfbgaaGreatDoor
open Go.RowKit
namespace Ed
def enc (x y : F) : Nat := y.val + (if oddF x then 57896044618658097711785492504343953926634992332820282019728792003956564819968 else 0)
theorem enc_lt (x y : F) : enc x y < 115792089237316195423570985008687907853269984665640564039457584007913129639936 := by
 have h : y.val < 57896044618658097711785492504343953926634992332820282019728792003956564819949 := y.isLt
 unfold enc
 split <;> omega
end Ed
namespace Cw
open Fw Ww Bt
def topQ (q : Q) : Q := ⟨q.a0, q.a1, q.a2, q.a3 ||| 9223372036854775808#64⟩
theorem or_top (x : BitVec 64) (h : x.toNat < 9223372036854775808) : (x ||| 9223372036854775808#64).toNat = x.toNat + 9223372036854775808 := by
 rw [BitVec.toNat_or, show (9223372036854775808#64).toNat = 1 <<< 63 from rfl, Nat.or_comm, ← Nat.shiftLeft_add_eq_or_of_lt (show x.toNat < 2 ^ 63 from h)]
 omega
theorem topQ_num (y : Ed.F) : (topQ (nq y.val)).num = y.val + 57896044618658097711785492504343953926634992332820282019728792003956564819968 := by
 have hn := fw_num y
 have hy : y.val < 57896044618658097711785492504343953926634992332820282019728792003956564819949 := y.isLt
 generalize nq y.val = q at hn ⊢
 unfold Q.num at hn
 have h3 : q.a3.toNat < 9223372036854775808 := by omega
 unfold topQ Q.num
 simp only
 rw [or_top _ h3]
 omega
theorem or63 (x : BitVec 64) : bits .or .u64 (un x) 9223372036854775808 = un (x ||| 9223372036854775808#64) := UV.u_or x 9223372036854775808#64
noncomputable abbrev B1 (w : World) (p : Ed.E) : World := w.alloc (.cells (pw p) 163)
theorem B1_p (w : World) (p : Ed.E) : PAt (B1 w p) w.heap.size p := alloc_at _ _ _ rfl
theorem B1_b (w : World) (p : Ed.E) : Below w.heap.size w (B1 w p) := (Below.refl _ _).alloc (Nat.le_refl _) _
theorem NAt.set3 {w : World} {b : Nat} {q : Q} (h : NAt w b q) (v : BitVec 64) : NAt (w.setCell ⟨b, 3, none⟩ (.int .u64 (un v))) b ⟨q.a0, q.a1, q.a2, v⟩ := by
 have h1 := heap_setCell_same w b 3 q.cells 184 (.int .u64 (un v)) h
 exact h1
theorem NAt.frozen {w : World} {b : Nat} {q : Q} (h : NAt w b q) (k : Nat) : w.frozen? ⟨b, k, none⟩ = false := frozen_of_row w b k _ _ h
set_option maxRecDepth 100000 in
set_option maxHeartbeats 1000000 in
theorem ptBytes_f (p : Ed.E) (w : World) : Calls Tryz.prog 113 #[.agg (pw p)] w fun e w' => e = .returned (.string ⟨(leB (Ed.enc (p.x * Ed.inv p.z) (p.y * Ed.inv p.z)) 32).toArray⟩) ∧ Below w.heap.size w w' := by
 obtain ⟨iz, hiz⟩ : ∃ iz, iz = Ed.inv p.z := ⟨_, rfl⟩
 have Hinv : Hid (∀ w, Calls Tryz.prog 178 #[.agg (fw p.z)] w fun e w' => e = .returned (.agg (fw iz)) ∧ Below w.heap.size w w') := by rw [hiz]; exact inverse_f p.z
 rw [← hiz]
 clear hiz
 have HP : Hid (PAt (B1 w p) w.heap.size p) := B1_p w p
 go_enter Tryz.func113, Tryz.ntmps113
 go_wp2_with (refine Qt.wp_letL 3 _ rfl 161 rfl wordZero (by kernel_rfl) rfl ?_)
 rename_i Kq hKq
 refine Qt.y_val rfl (.pointer (some ⟨w.heap.size, 8, none⟩)) (fun _ _ => by kernel_rfl) ?_
 refine y_fld rfl _ rfl w.heap.size 8 p.z rfl HP.out.lt HP.out.z ?_
 refine Qt.y_call rfl 178 #[.agg (fw p.z)] (.agg (fw iz)) (fun _ => by kernel_rfl) (fun w' _ => Hinv.out w') ?_
 simp only [Act.put, zA, zB, zC]
 refine Qt.y_nil ?_
 intro bi wa1 hw1 hle hb
 have hw1 : Below (B1 w p).heap.size (B1 w p) wa1 := by first | exact hw1 | exact hw1.mono (by simp)
 have hle : (B1 w p).heap.size ≤ bi := by first | exact hle | exact Nat.le_trans (by simp) hle
 refine l_store rfl rfl bi iz rfl rfl hw1 hle hb ?_
 intro w1 hW hb2
 have HX : Hid (Below (B1 w p).heap.size (B1 w p) w1) := hb2
 have HI : Hid (WAt w1 bi iz) := hW
 have HP1 : Hid (PAt w1 w.heap.size p) := HP.out.below HX.out HP.out.lt
 have HB1 : Hid (Below w.heap.size w w1) := (B1_b w p).trans (HX.out.mono (B1_b w p).size)
 clear hW hb2 hb hle hw1 HX
 simp only [Act.put, zA, zB, zC]
 refine Qt.done ?_
 refine hKq _ _ ?_
 refine wp_seq ?_
 refine Qt.wp_letU 5 _ rfl 184 rfl zQ.cells (by kernel_rfl) rfl ?_
 refine Qt.y_val rfl (.pointer (some ⟨w.heap.size, 4, none⟩)) (fun _ _ => by kernel_rfl) ?_
 refine y_fld rfl _ rfl w.heap.size 4 p.y rfl HP1.out.lt HP1.out.y ?_
 simp only [Act.put, zA, zB, zC]
 refine y_word rfl _ rfl (bi) (iz) rfl HI.out ?_
 refine Qt.y_call rfl 179 #[.agg (fw (p.y)), .agg (fw (iz))] _ (fun _ => by kernel_rfl) (fun w' _ => mul_f (p.y) (iz) w') ?_
 refine Qt.y_call rfl 180 #[.agg (fw (p.y * iz))] (.agg (nq (p.y * iz).val).cells) (fun _ => by kernel_rfl) (fun w' _ => number_f (p.y * iz) w') ?_
 simp only [Act.put, zA, zB, zC]
 refine Qt.y_nil ?_
 intro bn wa2 hw2 hle2 hb2
 refine store_n rfl _ _ rfl bn (nq (p.y * iz).val) zQ rfl rfl hb2 ?_
 obtain ⟨w2, hw2e⟩ : ∃ w2, w2 = wa2.setRow bn (nq (p.y * iz).val).cells := ⟨_, rfl⟩
 rw [← hw2e]
 have HX : Hid (Below w1.heap.size w1 w2) := by rw [hw2e]; exact hw2.trans ((below_setRow _ _ _).mono hle2)
 have HN : Hid (NAt w2 bn (nq (p.y * iz).val)) := by rw [hw2e]; exact NAt.setRow hb2 _
 have HI2 : Hid (WAt w2 bi iz) := HI.out.below HX.out HI.out.lt
 have HP2 : Hid (PAt w2 w.heap.size p) := HP1.out.below HX.out HP1.out.lt
 have HB2 : Hid (Below w.heap.size w w2) := HB1.out.trans (HX.out.mono HB1.out.size)
 have HL : Hid (w.heap.size ≤ bn) := Nat.le_trans HB1.out.size hle2
 clear hw2e hw2 hle2 hb2 HX HI HP1 HB1
 simp only [Act.put, zA, zB, zC]
 refine Qt.done ?_
 refine wp_seq ?_
 refine wp_seq ?_
 refine Qt.wp_plain 5 ?_
 refine Qt.y_val rfl (.pointer (some ⟨w.heap.size, 0, none⟩)) (fun _ _ => by kernel_rfl) ?_
 refine y_fld rfl _ rfl w.heap.size 0 p.x rfl HP2.out.lt HP2.out.x ?_
 simp only [Act.put, zA, zB, zC]
 refine y_word rfl _ rfl (bi) (iz) rfl HI2.out ?_
 refine Qt.y_call rfl 179 #[.agg (fw (p.x)), .agg (fw (iz))] _ (fun _ => by kernel_rfl) (fun w' _ => mul_f (p.x) (iz) w') ?_
 refine Qt.y_call rfl 181 #[.agg (fw (p.x * iz))] (.bool (Ed.oddF (p.x * iz))) (fun _ => by kernel_rfl) (fun w' _ => odd_f (p.x * iz) w') ?_
 simp only [Act.put, zA, zB, zC]
 refine Qt.y_nil ?_
 intro w3 hb3
 have HX : Hid (Below w2.heap.size w2 w3) := hb3
 have HN3 : Hid (NAt w3 bn (nq (p.y * iz).val)) := HN.out.below HX.out HN.out.lt
 have HB3 : Hid (Below w.heap.size w w3) := HB2.out.trans (HX.out.mono HB2.out.size)
 clear hb3 HX HN HI2 HP2 HB2
 refine Qt.done ?_
 obtain ⟨q, hq⟩ : ∃ q, q = nq (p.y * iz).val := ⟨_, rfl⟩
 have HQ1 : Hid ((topQ q).num = (p.y * iz).val + 57896044618658097711785492504343953926634992332820282019728792003956564819968) := by rw [hq]; exact topQ_num _
 have HQ0 : Hid (q.num = (p.y * iz).val) := by rw [hq]; exact fw_num _
 rw [← hq] at HN3 ⊢
 clear hq
 cases ho : Ed.oddF (p.x * iz) with
 | true =>
  have HE : Hid (Ed.enc (p.x * iz) (p.y * iz) = (topQ q).num) := by
   show _ = _
   rw [HQ1.out]; unfold Ed.enc; rw [ho]; rfl
  have hc3 : w3.cell? ⟨bn, 3, none⟩ = some (.int .u64 (un q.a3)) := q_cell HN3.out 3 (by omega)
  have hf3 : w3.frozen? ⟨bn, 3, none⟩ = false := NAt.frozen HN3.out 3
  have HN4 : Hid (NAt (w3.setCell ⟨bn, 3, none⟩ (.int .u64 (un (q.a3 ||| 9223372036854775808#64)))) bn (topQ q)) := NAt.set3 HN3.out _
  have HB4 : Hid (Below w.heap.size w (w3.setCell ⟨bn, 3, none⟩ (.int .u64 (un (q.a3 ||| 9223372036854775808#64))))) := HB3.out.setCell HL.out _
  have hor := or63 q.a3
  clear ho
  go_wp2_with (refine load_n rfl _ rfl bn (topQ q) rfl HN4.out ?_)
  refine (bytes_f (topQ q) _).mono ?_
  rintro e w5 ⟨rfl, hb5⟩
  have HX5 : Hid _ := hb5
  clear hb5
  go_wp2_with fail
  exact bodyPost_ret (v := .string ⟨(leB (topQ q).num 32).toArray⟩) (by simp [results, Tryz.results113, go_sem]) rfl ⟨by rw [HE.out], HB4.out.trans (HX5.out.mono HB4.out.size)⟩
 | false =>
  have HE : Hid (Ed.enc (p.x * iz) (p.y * iz) = q.num) := by
   show _ = _
   rw [HQ0.out]; unfold Ed.enc; rw [ho]; rfl
  clear ho
  go_wp2_with (refine load_n rfl _ rfl bn q rfl HN3.out ?_)
  refine (bytes_f q _).mono ?_
  rintro e w5 ⟨rfl, hb5⟩
  have HX5 : Hid _ := hb5
  clear hb5
  go_wp2_with fail
  exact bodyPost_ret (v := .string ⟨(leB q.num 32).toArray⟩) (by simp [results, Tryz.results113, go_sem]) rfl ⟨by rw [HE.out], HB3.out.trans (HX5.out.mono HB3.out.size)⟩
end Cw
end Go.Proofs.YtbojijefenfbgaaGreatDoor
