/- Walks of the program's wide numbers: FromBytes, Bytes. Walks of the program's wide numbers: Bytes. Walk of the program's curve: Bytes. As QFloat, of a region 'x, y := f(..)': the last operation of the head may also come up behind the first store. -/
import Derived.Test.YtbojijefenfbgaaGreatDoorTtCurveE
namespace Go.Proofs.YtbojijefenfbgaaGreatDoor
open Go.RowKit
def le : List UInt8 → Nat
 | [] => 0
 | c :: l => c.toNat + 256 * le l
theorem y1a (a b : List UInt8) : le (a ++ b) = le a + 256 ^ a.length * le b := by
 induction a with
 | nil => simp [le]
 | cons c a ih =>
  show c.toNat + 256 * le (a ++ b) = c.toNat + 256 * le a + 256 ^ (a.length + 1) * le b
  rw [ih, Nat.pow_succ, Nat.mul_add, Nat.mul_comm (256 ^ a.length) 256, Nat.mul_assoc, Nat.add_assoc]
theorem k5c (a : List UInt8) : le a < 256 ^ a.length := by
 induction a with
 | nil => decide
 | cons c a ih =>
  show c.toNat + 256 * le a < 256 ^ (a.length + 1)
  have h := c.toNat_lt
  rw [Nat.pow_succ]
  omega
namespace Ww
open Fw Bt
def lw8 (l : List UInt8) (k : Nat) : BitVec 64 := BitVec.ofNat 64 (le ((l.drop (8 * k)).take 8))
def y9m (l : List UInt8) (k : Nat) : Value := .int .u64 (un (lw8 l k))
theorem k0a (x c s : Nat) (hs : s < 8) (hx : x < 256 ^ s) (hc : c < 256) : BitVec.ofNat 64 x ||| BitVec.ofNat 64 c <<< (8 * s) = BitVec.ofNat 64 (x + 256 ^ s * c) := by
 apply BitVec.eq_of_toNat_eq
 have e : (256 : Nat) ^ s = 2 ^ (8 * s) := by rw [Nat.pow_mul]
 have hp : (256 : Nat) ^ s * 256 ≤ 2 ^ 64 := by
  rcases s with _ | _ | _ | _ | _ | _ | _ | _ | s <;> first | decide | omega
 have hb : x + 256 ^ s * c < 2 ^ 64 := by
  have : 256 ^ s * c ≤ 256 ^ s * 255 := Nat.mul_le_mul_left _ (by omega)
  omega
 have hx64 : x < 2 ^ 64 := by omega
 have hc64 : c * 256 ^ s < 2 ^ 64 := by rw [Nat.mul_comm]; omega
 rw [BitVec.toNat_or, BitVec.toNat_shiftLeft, BitVec.toNat_ofNat, BitVec.toNat_ofNat, BitVec.toNat_ofNat, Nat.mod_eq_of_lt hx64, Nat.mod_eq_of_lt (by omega : c < 2 ^ 64), Nat.mod_eq_of_lt hb, Nat.shiftLeft_eq, ← e, Nat.mod_eq_of_lt hc64]
 have h := Nat.shiftLeft_add_eq_or_of_lt (show x < 2 ^ (8 * s) by rw [← e]; exact hx) c
 rw [Nat.shiftLeft_eq, ← e] at h
 rw [Nat.or_comm, ← h, Nat.mul_comm, Nat.add_comm]
theorem x4u (l : List UInt8) (i k : Nat) (hi : i < l.length) : (((l.take (i + 1)).drop (8 * k)).take 8) = if k = i / 8 then ((l.take i).drop (8 * k)).take 8 ++ [l[i]] else ((l.take i).drop (8 * k)).take 8 := by
 have h1 : l.take (i + 1) = l.take i ++ [l[i]] := by rw [List.take_succ_eq_append_getElem hi]
 have hlen : (l.take i).length = i := by simp; omega
 rw [h1]
 by_cases hk : k = i / 8
 ·rw [if_pos hk, List.drop_append_of_le_length (by omega), List.take_append, List.take_of_length_le (by simp; omega)]
  congr 1
  rw [List.take_of_length_le]
  simp
  omega
 ·rw [if_neg hk]
  by_cases hlt : 8 * k ≤ i
  ·rw [List.drop_append_of_le_length (by omega), List.take_append_of_le_length (by simp; omega)]
  ·rw [List.drop_eq_nil_of_le (by simp; omega), List.drop_eq_nil_of_le (by simp; omega)]
theorem x2d (l : List UInt8) (i k : Nat) (hi : i < l.length) (_hi32 : i < 32) : y9m (l.take (i + 1)) k = if k = i / 8 then .int .u64 (un (lw8 (l.take i) (i / 8) ||| BitVec.ofNat 64 l[i].toNat <<< (8 * (i % 8)))) else y9m (l.take i) k := by
 unfold y9m lw8
 rw [x4u l i k hi]
 by_cases hk : k = i / 8
 ·rw [if_pos hk, if_pos hk]
  subst hk
  have hln : ((l.take i).drop (8 * (i / 8))).length = i % 8 := by simp; omega
  have htk : ((l.take i).drop (8 * (i / 8))).take 8 = (l.take i).drop (8 * (i / 8)) := List.take_of_length_le (by rw [hln]; omega)
  have hx := k5c ((l.take i).drop (8 * (i / 8)))
  rw [hln] at hx
  rw [htk, y1a, hln]
  congr 2
  rw [k0a _ _ _ (by omega) hx (UInt8.toNat_lt _)]
  simp [le]
 ·rw [if_neg hk, if_neg hk]
def bq (l : List UInt8) : Q := ⟨lw8 l 0, lw8 l 1, lw8 l 2, lw8 l 3⟩
theorem q9n (l : List UInt8) (k : Nat) : (lw8 l k).toNat = le ((l.drop (8 * k)).take 8) := by
 unfold lw8
 rw [BitVec.toNat_ofNat]
 apply Nat.mod_eq_of_lt
 have h := k5c ((l.drop (8 * k)).take 8)
 have h2 : ((l.drop (8 * k)).take 8).length ≤ 8 := by simp; omega
 have h3 : (256 : Nat) ^ ((l.drop (8 * k)).take 8).length ≤ 256 ^ 8 := Nat.pow_le_pow_right (by decide) h2
 have h4 : (256 : Nat) ^ 8 = 2 ^ 64 := by decide
 omega
theorem y0e (l : List UInt8) : le l = le (l.take 8) + 18446744073709551616 * le (l.drop 8) := by
 by_cases h : 8 ≤ l.length
 ·have e := y1a (l.take 8) (l.drop 8)
  rw [List.take_append_drop, show (l.take 8).length = 8 by simp; omega] at e
  exact e
 ·rw [List.take_of_length_le (by omega), List.drop_eq_nil_of_le (by omega)]; rfl
theorem z9d (l : List UInt8) (h : l.length ≤ 32) : (bq l).num = le l := by
 unfold bq Q.num
 simp only [q9n]
 have e0 := y0e l
 have e1 := y0e (l.drop 8)
 have e2 := y0e (l.drop 16)
 have e3 := y0e (l.drop 24)
 rw [List.drop_drop] at e1 e2 e3
 rw [show (l.drop (24 + 8)) = [] from List.drop_eq_nil_of_le (by omega), show le [] = 0 from rfl] at e3
 simp only [Nat.mul_zero, Nat.mul_one, List.drop_zero] at *
 rw [show 8 + 8 = 16 from rfl] at e1
 rw [show 16 + 8 = 24 from rfl] at e2
 rw [show 8 * 2 = 16 from rfl, show 8 * 3 = 24 from rfl]
 omega
set_option maxHeartbeats 400000 in
theorem y6g (l : List UInt8) (hl : 32 < l.length) (w : World) : Calls Tryz.prog 105 #[.string ⟨l.toArray⟩] w fun e w' => e = .returned (.agg (bq (l.take 32)).cells) ∧ Below w.heap.size w w' := by
 have HZ : Hid (((w.alloc (.cells zQ.cells 184)).alloc (.cells zQ.cells 184)).heap[w.heap.size + 1]? = some (.cells (Own.z0f 4 (y9m (l.take 0))) 184 (0, 0))) := z0d _ _ _ (by simp)
 have HZ2 : Hid (NAt ((w.alloc (.cells zQ.cells 184)).alloc (.cells zQ.cells 184)) w.heap.size zQ) := NAt.below (z0d w _ _ rfl) ((Below.refl (w.heap.size + 1) _).alloc (by simp) _) (by omega)
 have hm : ((32 : Int) < (l.length : Int)) := by omega
 go_enter Tryz.func105, Tryz.ntmps105
 go_wp2_with fail
 go_loopw [8] (fun i wq => ∃ k : Nat, k ≤ 32 ∧ i = .int .i64 (k : Int) ∧ wq.heap[w.heap.size + 1]? = some (.cells (Own.z0f 4 (y9m (l.take k))) 184 (0, 0)) ∧ NAt wq w.heap.size zQ ∧ Below w.heap.size w wq) (fun i _ => 32 - (intOf i).toNat)
 case atStart => exact ⟨0, by omega, rfl, HZ.out, HZ2.out, ((Below.refl _ _).alloc (Nat.le_refl _) _).alloc (by simp) _⟩
 case round =>
  clear HZ HZ2
  rename World => wa
  obtain ⟨k, hk, rfl, hr, hz, hb⟩ := hrel
  have HR : Hid (wa.heap[w.heap.size + 1]? = some (.cells (Own.z0f 4 (y9m (l.take k))) 184 (0, 0))) := hr
  have HZ : Hid (NAt wa w.heap.size zQ) := hz
  have HB : Hid (Below w.heap.size w wa) := hb
  clear hr hz hb
  by_cases hk32 : k < 32
  ·have HC : Hid (wa.cell? ⟨w.heap.size + 1, k / 8, none⟩ = some (.int .u64 (un (lw8 (l.take k) (k / 8))))) := Own.z0o HR.out (k / 8) (by omega)
   go_wp2_with fail
   refine Qt.z0q 14 (by kernel_rfl) (by kernel_rfl) ?_
   refine Qt.z0b rfl (.int .i64 (k : Int)) (fun _ _ => by kernel_rfl) ?_
   refine Qt.z0b rfl (.int .i64 ((k / 8 : Nat) : Int)) (fun w' _ => by go_simp; rw [IntKind.wrap_i64]; omega) ?_
   simp only [zD]
   refine Qt.z9y rfl 184 _ _ rfl 159 4 1 Tryz.underlying184 (by kernel_rfl) (by kernel_rfl) (w.heap.size + 1) 0 (k / 8) .i64 rfl rfl (by omega) ?_
   rw [show 0 + k / 8 * 1 = k / 8 by omega]
   refine Cw.x0f rfl _ rfl (w.heap.size + 1) (k / 8) (.int .u64 (un (lw8 (l.take k) (k / 8)))) rfl (aL HR.out) HC.out ?_
   simp only [zD]
   refine Qt.z0b rfl (.string ⟨l.toArray⟩) (fun _ _ => by kernel_rfl) ?_
   refine Qt.z0b rfl (.int .i64 (k : Int)) (fun _ _ => by kernel_rfl) ?_
   simp only [zD]
   refine Qt.z0b rfl (.int .u8 (l[k].toNat : Int)) (fun w' _ => ?_) ?_
   ·go_simp
    rw [dif_pos (by omega)]
    rfl
   refine Qt.z0b rfl (.int .u64 (un (BitVec.ofNat 64 l[k].toNat))) (fun w' _ => ?_) ?_
   ·go_simp
    exact UV.x9w _
   refine Qt.z0b rfl (.int .i64 (k : Int)) (fun _ _ => by kernel_rfl) ?_
   simp only [zD]
   refine Qt.z0b rfl (.int .i64 ((k % 8 : Nat) : Int)) (fun w' _ => by go_simp; exact Int.tmod_eq_emod_of_nonneg (by omega)) ?_
   refine Qt.z0b rfl (.int .i64 ((8 * (k % 8) : Nat) : Int)) (fun w' _ => ?_) ?_
   ·go_simp
    rw [IntKind.wrap_i64]
    omega
   simp only [zD]
   refine Qt.z0b rfl (.int .u64 (un (BitVec.ofNat 64 l[k].toNat <<< (8 * (k % 8))))) (fun w' _ => ?_) ?_
   ·go_simp
    rw [show (8 * ((k : Int) % 8)).toNat = 8 * (k % 8) by omega]
    exact UV.z4m _ _
   refine Qt.z0b rfl (.int .u64 (un (lw8 (l.take k) (k / 8) ||| BitVec.ofNat 64 l[k].toNat <<< (8 * (k % 8))))) (fun w' _ => ?_) ?_
   ·go_simp
    exact UV.y1w _ _
   simp only [zD]
   refine Qt.z9y rfl 184 _ _ rfl 159 4 1 Tryz.underlying184 (by kernel_rfl) (by kernel_rfl) (w.heap.size + 1) 0 (k / 8) .i64 rfl rfl (by omega) ?_
   rw [show 0 + k / 8 * 1 = k / 8 by omega]
   simp only [zD]
   refine Qt.z1a ?_
   intro w1 hb1
   have HX : Hid (Below wa.heap.size wa w1) := hb1
   clear hb1
   have HR1 : Hid (w1.heap[w.heap.size + 1]? = some (.cells (Own.z0f 4 (y9m (l.take k))) 184 (0, 0))) := (HX.out.block _ (aL HR.out)).trans HR.out
   have hc1 : w1.cell? ⟨w.heap.size + 1, k / 8, none⟩ = some (.int .u64 (un (lw8 (l.take k) (k / 8)))) := Own.z0o HR1.out (k / 8) (by omega)
   have hf1 : w1.frozen? ⟨w.heap.size + 1, k / 8, none⟩ = false := Own.z1o HR1.out (k / 8)
   have hst := Own.z1p HR1.out (k / 8) (.int .u64 (un (lw8 (l.take k) (k / 8) ||| BitVec.ofNat 64 l[k].toNat <<< (8 * (k % 8)))))
   rw [show (fun j => if j = k / 8 then Value.int .u64 (un (lw8 (l.take k) (k / 8) ||| BitVec.ofNat 64 l[k].toNat <<< (8 * (k % 8)))) else y9m (l.take k) j) = y9m (l.take (k + 1)) from funext fun j => (x2d l k j (by omega) hk32).symm] at hst
   have HST : Hid _ := hst
   have HZ1 : Hid (NAt (w1.setCell ⟨w.heap.size + 1, k / 8, none⟩ (.int .u64 (un (lw8 (l.take k) (k / 8) ||| BitVec.ofNat 64 l[k].toNat <<< (8 * (k % 8)))))) w.heap.size zQ) := by
    show _ = _
    rw [Below.heap_setCell _ _ _ _ (by show w.heap.size ≠ w.heap.size + 1; omega)]
    exact HZ.out.below HX.out HZ.out.lt
   clear hst
   go_wp2_with fail
   exact ⟨⟨k + 1, by omega, by go_num, HST.out, HZ1.out, (HB.out.trans (HX.out.mono HB.out.size)).setCell (by show w.heap.size ≤ w.heap.size + 1; omega) _⟩, by simp [intOf]; omega⟩
  ·obtain rfl : k = 32 := by omega
   have HN : Hid (NAt wa (w.heap.size + 1) (bq (l.take 32))) := HR.out
   go_wp2_with (first | refine z2d rfl _ rfl (w.heap.size + 1) (bq (l.take 32)) rfl HN.out ?_ | refine z2o rfl _ _ rfl w.heap.size (bq (l.take 32)) zQ rfl rfl HZ.out ?_)
   exact y9j Tryz.results105 rfl w.heap.size (bq (l.take 32)) rfl (HZ.out.setRow _) ⟨rfl, HB.out.trans ((z0a _ _ _).mono (Nat.le_refl _))⟩
set_option maxHeartbeats 400000 in
theorem y6f (l : List UInt8) (hl : l.length = 32) (w : World) : Calls Tryz.prog 105 #[.string ⟨l.toArray⟩] w fun e w' => e = .returned (.agg (bq (l.take 32)).cells) ∧ Below w.heap.size w w' := by
 have HZ : Hid (((w.alloc (.cells zQ.cells 184)).alloc (.cells zQ.cells 184)).heap[w.heap.size + 1]? = some (.cells (Own.z0f 4 (y9m (l.take 0))) 184 (0, 0))) := z0d _ _ _ (by simp)
 have HZ2 : Hid (NAt ((w.alloc (.cells zQ.cells 184)).alloc (.cells zQ.cells 184)) w.heap.size zQ) := NAt.below (z0d w _ _ rfl) ((Below.refl (w.heap.size + 1) _).alloc (by simp) _) (by omega)
 have hm : ((l.length : Int) = 32) := by omega
 go_enter Tryz.func105, Tryz.ntmps105
 go_wp2_with fail
 go_loopw [8] (fun i wq => ∃ k : Nat, k ≤ 32 ∧ i = .int .i64 (k : Int) ∧ wq.heap[w.heap.size + 1]? = some (.cells (Own.z0f 4 (y9m (l.take k))) 184 (0, 0)) ∧ NAt wq w.heap.size zQ ∧ Below w.heap.size w wq) (fun i _ => 32 - (intOf i).toNat)
 case atStart => exact ⟨0, by omega, rfl, HZ.out, HZ2.out, ((Below.refl _ _).alloc (Nat.le_refl _) _).alloc (by simp) _⟩
 case round =>
  clear HZ HZ2
  rename World => wa
  obtain ⟨k, hk, rfl, hr, hz, hb⟩ := hrel
  have HR : Hid (wa.heap[w.heap.size + 1]? = some (.cells (Own.z0f 4 (y9m (l.take k))) 184 (0, 0))) := hr
  have HZ : Hid (NAt wa w.heap.size zQ) := hz
  have HB : Hid (Below w.heap.size w wa) := hb
  clear hr hz hb
  by_cases hk32 : k < 32
  ·have HC : Hid (wa.cell? ⟨w.heap.size + 1, k / 8, none⟩ = some (.int .u64 (un (lw8 (l.take k) (k / 8))))) := Own.z0o HR.out (k / 8) (by omega)
   go_wp2_with fail
   refine Qt.z0q 14 (by kernel_rfl) (by kernel_rfl) ?_
   refine Qt.z0b rfl (.int .i64 (k : Int)) (fun _ _ => by kernel_rfl) ?_
   refine Qt.z0b rfl (.int .i64 ((k / 8 : Nat) : Int)) (fun w' _ => by go_simp; rw [IntKind.wrap_i64]; omega) ?_
   simp only [zD]
   refine Qt.z9y rfl 184 _ _ rfl 159 4 1 Tryz.underlying184 (by kernel_rfl) (by kernel_rfl) (w.heap.size + 1) 0 (k / 8) .i64 rfl rfl (by omega) ?_
   rw [show 0 + k / 8 * 1 = k / 8 by omega]
   refine Cw.x0f rfl _ rfl (w.heap.size + 1) (k / 8) (.int .u64 (un (lw8 (l.take k) (k / 8)))) rfl (aL HR.out) HC.out ?_
   simp only [zD]
   refine Qt.z0b rfl (.string ⟨l.toArray⟩) (fun _ _ => by kernel_rfl) ?_
   refine Qt.z0b rfl (.int .i64 (k : Int)) (fun _ _ => by kernel_rfl) ?_
   simp only [zD]
   refine Qt.z0b rfl (.int .u8 (l[k].toNat : Int)) (fun w' _ => ?_) ?_
   ·go_simp
    rfl
   refine Qt.z0b rfl (.int .u64 (un (BitVec.ofNat 64 l[k].toNat))) (fun w' _ => ?_) ?_
   ·go_simp
    exact UV.x9w _
   refine Qt.z0b rfl (.int .i64 (k : Int)) (fun _ _ => by kernel_rfl) ?_
   simp only [zD]
   refine Qt.z0b rfl (.int .i64 ((k % 8 : Nat) : Int)) (fun w' _ => by go_simp; exact Int.tmod_eq_emod_of_nonneg (by omega)) ?_
   refine Qt.z0b rfl (.int .i64 ((8 * (k % 8) : Nat) : Int)) (fun w' _ => ?_) ?_
   ·go_simp
    rw [IntKind.wrap_i64]
    omega
   simp only [zD]
   refine Qt.z0b rfl (.int .u64 (un (BitVec.ofNat 64 l[k].toNat <<< (8 * (k % 8))))) (fun w' _ => ?_) ?_
   ·go_simp
    rw [show (8 * ((k : Int) % 8)).toNat = 8 * (k % 8) by omega]
    exact UV.z4m _ _
   refine Qt.z0b rfl (.int .u64 (un (lw8 (l.take k) (k / 8) ||| BitVec.ofNat 64 l[k].toNat <<< (8 * (k % 8))))) (fun w' _ => ?_) ?_
   ·go_simp
    exact UV.y1w _ _
   simp only [zD]
   refine Qt.z9y rfl 184 _ _ rfl 159 4 1 Tryz.underlying184 (by kernel_rfl) (by kernel_rfl) (w.heap.size + 1) 0 (k / 8) .i64 rfl rfl (by omega) ?_
   rw [show 0 + k / 8 * 1 = k / 8 by omega]
   simp only [zD]
   refine Qt.z1a ?_
   intro w1 hb1
   have HX : Hid (Below wa.heap.size wa w1) := hb1
   clear hb1
   have HR1 : Hid (w1.heap[w.heap.size + 1]? = some (.cells (Own.z0f 4 (y9m (l.take k))) 184 (0, 0))) := (HX.out.block _ (aL HR.out)).trans HR.out
   have hc1 : w1.cell? ⟨w.heap.size + 1, k / 8, none⟩ = some (.int .u64 (un (lw8 (l.take k) (k / 8)))) := Own.z0o HR1.out (k / 8) (by omega)
   have hf1 : w1.frozen? ⟨w.heap.size + 1, k / 8, none⟩ = false := Own.z1o HR1.out (k / 8)
   have hst := Own.z1p HR1.out (k / 8) (.int .u64 (un (lw8 (l.take k) (k / 8) ||| BitVec.ofNat 64 l[k].toNat <<< (8 * (k % 8)))))
   rw [show (fun j => if j = k / 8 then Value.int .u64 (un (lw8 (l.take k) (k / 8) ||| BitVec.ofNat 64 l[k].toNat <<< (8 * (k % 8)))) else y9m (l.take k) j) = y9m (l.take (k + 1)) from funext fun j => (x2d l k j (by omega) hk32).symm] at hst
   have HST : Hid _ := hst
   have HZ1 : Hid (NAt (w1.setCell ⟨w.heap.size + 1, k / 8, none⟩ (.int .u64 (un (lw8 (l.take k) (k / 8) ||| BitVec.ofNat 64 l[k].toNat <<< (8 * (k % 8)))))) w.heap.size zQ) := by
    show _ = _
    rw [Below.heap_setCell _ _ _ _ (by show w.heap.size ≠ w.heap.size + 1; omega)]
    exact HZ.out.below HX.out HZ.out.lt
   clear hst
   go_wp2_with fail
   exact ⟨⟨k + 1, by omega, by go_num, HST.out, HZ1.out, (HB.out.trans (HX.out.mono HB.out.size)).setCell (by show w.heap.size ≤ w.heap.size + 1; omega) _⟩, by simp [intOf]; omega⟩
  ·obtain rfl : k = 32 := by omega
   have HN : Hid (NAt wa (w.heap.size + 1) (bq (l.take 32))) := HR.out
   go_wp2_with (first | refine z2d rfl _ rfl (w.heap.size + 1) (bq (l.take 32)) rfl HN.out ?_ | refine z2o rfl _ _ rfl w.heap.size (bq (l.take 32)) zQ rfl rfl HZ.out ?_)
   exact y9j Tryz.results105 rfl w.heap.size (bq (l.take 32)) rfl (HZ.out.setRow _) ⟨rfl, HB.out.trans ((z0a _ _ _).mono (Nat.le_refl _))⟩
theorem z4e (l : List UInt8) (hl : 32 ≤ l.length) (w : World) : Calls Tryz.prog 105 #[.string ⟨l.toArray⟩] w fun e w' => e = .returned (.agg (bq (l.take 32)).cells) ∧ Below w.heap.size w w' := by
 rcases Nat.lt_or_ge 32 l.length with h | h
 ·exact y6g l h w
 ·exact y6f l (by omega) w
end Ww
open Go.RowKit
def leB (n : Nat) : Nat → List UInt8
 | 0 => []
 | k + 1 => UInt8.ofNat (n % 256) :: leB (n / 256) k
theorem z6w (k n : Nat) : (leB n k).length = k := by
 induction k generalizing n with
 | zero => rfl
 | succ k ih => simp [leB, ih]
theorem q9f (k n i : Nat) (h : i < (leB n k).length) : (leB n k)[i] = UInt8.ofNat (n / 256 ^ i % 256) := by
 induction k generalizing n i with
 | zero => simp [leB] at h
 | succ k ih =>
  rcases i with _ | i
  ·simp [leB]
  ·simp only [leB, List.getElem_cons_succ]
   rw [ih, Nat.div_div_eq_div_mul, Nat.pow_succ, Nat.mul_comm]
theorem q5w (k n : Nat) (h : n < 256 ^ k) : le (leB n k) = n := by
 induction k generalizing n with
 | zero => simp at h; subst h; rfl
 | succ k ih =>
  show (UInt8.ofNat (n % 256)).toNat + 256 * le (leB (n / 256) k) = n
  rw [ih _ (by rw [Nat.pow_succ] at h; omega)]
  have : (UInt8.ofNat (n % 256)).toNat = n % 256 := by simp
  rw [this]
  omega
theorem k5b (l : List UInt8) : leB (le l) l.length = l := by
 induction l with
 | nil => rfl
 | cons c l ih =>
  show UInt8.ofNat ((c.toNat + 256 * le l) % 256) :: leB ((c.toNat + 256 * le l) / 256) l.length = _
  have h := c.toNat_lt
  rw [show (c.toNat + 256 * le l) / 256 = le l by omega, ih, show (c.toNat + 256 * le l) % 256 = c.toNat by omega]
  simp
namespace Ww
open Fw Bt
theorem y7x (q : Q) (a : Nat) (ha : a < 4) : ∃ r, q.num / 18446744073709551616 ^ a = (Cw.qw q a).toNat + 18446744073709551616 * r := by
 have h0 := q.a0.isLt
 have h1 := q.a1.isLt
 have h2 := q.a2.isLt
 have h3 := q.a3.isLt
 unfold Q.num
 rcases a with _ | _ | _ | _ | a
 ·exact ⟨q.a1.toNat + 18446744073709551616 * q.a2.toNat + 340282366920938463463374607431768211456 * q.a3.toNat, by show _ = q.a0.toNat + _; omega⟩
 ·exact ⟨q.a2.toNat + 18446744073709551616 * q.a3.toNat, by show _ = q.a1.toNat + _; omega⟩
 ·exact ⟨q.a3.toNat, by show _ = q.a2.toNat + _; omega⟩
 ·exact ⟨0, by show _ = q.a3.toNat + _; omega⟩
 ·omega
theorem q1b (x r b : Nat) (hb : b < 8) : (x + 18446744073709551616 * r) / 256 ^ b % 256 = x / 256 ^ b % 256 := by
 rcases b with _ | _ | _ | _ | _ | _ | _ | _ | b
 ·simp; omega
 ·simp; omega
 ·simp; omega
 ·simp; omega
 ·simp; omega
 ·simp; omega
 ·simp; omega
 ·simp; omega
 ·omega
theorem k3b (q : Q) (k : Nat) (hk : k < 32) : q.num / 256 ^ k % 256 = (Cw.qw q (k / 8)).toNat / 256 ^ (k % 8) % 256 := by
 obtain ⟨r, hr⟩ := y7x q (k / 8) (by omega)
 have e : (256 : Nat) ^ k = 18446744073709551616 ^ (k / 8) * 256 ^ (k % 8) := by
  rw [show (18446744073709551616 : Nat) = 256 ^ 8 from by decide, ← Nat.pow_mul, ← Nat.pow_add]
  congr 1
  omega
 rw [e, ← Nat.div_div_eq_div_mul, hr, q1b _ _ _ (by omega)]
def y5k (q : Q) (k j : Nat) : Value := if j < k then .int .u8 ((q.num / 256 ^ j % 256 : Nat) : Int) else .int .u8 0
theorem y1d (q : Q) (k : Nat) : (fun j => if j = k then Value.int .u8 ((q.num / 256 ^ k % 256 : Nat) : Int) else y5k q k j) = y5k q (k + 1) := by
 funext j
 unfold y5k
 by_cases h : j = k
 ·subst h; rw [if_pos rfl, if_pos (by omega)]
 ·rw [if_neg h]
  by_cases h2 : j < k
  ·rw [if_pos h2, if_pos (by omega)]
  ·rw [if_neg h2, if_neg (by omega)]
theorem q1c (q : Q) (k : Nat) (hk : k < 32) : IntKind.u8.wrap (un (Cw.qw q (k / 8) >>> (8 * (k % 8)))) = ((q.num / 256 ^ k % 256 : Nat) : Int) := by
 rw [k3b q k hk]
 unfold un
 rw [BitVec.toNat_ushiftRight, Nat.shiftRight_eq_div_pow, show (256 : Nat) ^ (k % 8) = 2 ^ (8 * (k % 8)) by rw [Nat.pow_mul]]
 rw [IntKind.wrap_u8]
 rfl
theorem z7i {w : World} {b : Nat} {q : Q} (h : NAt w b q) (k : Nat) (hk : k < 4) : w.cell? ⟨b, k, none⟩ = some (.int .u64 (un (Cw.qw q k))) := by
 rw [cell_of_row w b k _ _ _ h]
 rcases k with _ | _ | _ | _ | k <;> first | rfl | omega
attribute [local go_sem] UV.z6q UV.z5u UV.z6r UV.z6s UV.z4x UV.y1w UV.z3z UV.z4m UV.z5v UV.z3n UV.z1c
theorem y9r (W : World) (b : Nat) : Sem.run Tryz.prog (Instr.sliceAt 296 (.pointer (some ⟨b, 0, none⟩)) none none none) W = .ok (.slice (some ⟨b, 0, none⟩) 32 32) W := by
 kernel_rfl
set_option maxHeartbeats 400000 in
theorem y8g (q : Q) (w : World) : Calls Tryz.prog 122 #[.agg q.cells] w fun e w' => e = .returned (.string ⟨(leB q.num 32).toArray⟩) ∧ Below w.heap.size w w' := by
 have HZ : Hid (((w.alloc (.cells q.cells 184)).alloc (.cells (Own.z4z 32 (.int .u8 0)) 296)).heap[w.heap.size + 1]? = some (.cells (Own.z0f 32 (y5k q 0)) 296 (0, 0))) := by
  show _ = _
  rw [show Own.z0f 32 (y5k q 0) = Own.z4z 32 (.int .u8 0) from Own.z0k fun j _ => if_neg (by omega)]
  exact z0d _ _ _ (by simp)
 have HQ : Hid (NAt ((w.alloc (.cells q.cells 184)).alloc (.cells (Own.z4z 32 (.int .u8 0)) 296)) w.heap.size q) := NAt.below (z0d w _ _ rfl) ((Below.refl (w.heap.size + 1) _).alloc (by simp) _) (by omega)
 go_enter Tryz.func122, Tryz.ntmps122
 go_wp2_with (refine Own.z0t _ rfl 296 rfl (Own.z4z 32 (.int .u8 0)) (by kernel_rfl) ?_)
 go_loopw [5] (fun i wq => ∃ k : Nat, k ≤ 32 ∧ i = .int .i64 (k : Int) ∧ wq.heap[w.heap.size + 1]? = some (.cells (Own.z0f 32 (y5k q k)) 296 (0, 0)) ∧ NAt wq w.heap.size q ∧ Below w.heap.size w wq) (fun i _ => 32 - (intOf i).toNat)
 case atStart => exact ⟨0, by omega, rfl, HZ.out, HQ.out, ((Below.refl _ _).alloc (Nat.le_refl _) _).alloc (by simp) _⟩
 case round =>
  clear HZ HQ
  rename World => wa
  obtain ⟨k, hk, rfl, hr, hq, hb⟩ := hrel
  have HR : Hid (wa.heap[w.heap.size + 1]? = some (.cells (Own.z0f 32 (y5k q k)) 296 (0, 0))) := hr
  have HQ : Hid (NAt wa w.heap.size q) := hq
  have HB : Hid (Below w.heap.size w wa) := hb
  clear hr hq hb
  by_cases hk32 : k < 32
  ·have hcq : wa.cell? ⟨w.heap.size, k / 8, none⟩ = some (.int .u64 (un (Cw.qw q (k / 8)))) := z7i HQ.out (k / 8) (by omega)
   have hcr : wa.cell? ⟨w.heap.size + 1, k, none⟩ = some (y5k q k k) := Own.z0o HR.out k hk32
   have hfr : wa.frozen? ⟨w.heap.size + 1, k, none⟩ = false := Own.z1o HR.out k
   have hbv := q1c q k hk32
   have hst := Own.z1p HR.out k (.int .u8 ((q.num / 256 ^ k % 256 : Nat) : Int))
   rw [y1d] at hst
   have HST : Hid _ := hst
   have HQ1 : Hid (NAt (wa.setCell ⟨w.heap.size + 1, k, none⟩ (.int .u8 ((q.num / 256 ^ k % 256 : Nat) : Int))) w.heap.size q) := by
    show _ = _
    rw [Below.heap_setCell _ _ _ _ (by show w.heap.size ≠ w.heap.size + 1; omega)]
    exact HQ.out
   clear hst
   go_wp2_with fail
   exact ⟨⟨k + 1, by omega, by go_num, HST.out, HQ1.out, HB.out.setCell (by show w.heap.size ≤ w.heap.size + 1; omega) _⟩, by simp [intOf]; omega⟩
  ·obtain rfl : k = 32 := by omega
   have HC : Hid (∀ j (h : j < (leB q.num 32).length), wa.cell? ⟨w.heap.size + 1, 0 + j, none⟩ = some (.int .u8 ((leB q.num 32)[j].toNat : Int))) := fun j hj => by
    have hj' : j < 32 := by rw [z6w] at hj; exact hj
    rw [Nat.zero_add, Own.z0o HR.out j hj', q9f]
    unfold y5k
    rw [if_pos hj']
    simp
   have hsl := fun W => y9r W (w.heap.size + 1)
   go_wp2_with (refine Own.z2n _ rfl _ 145 9 5 rfl Tryz.underlying145 Tryz.underlying5 Tryz.underlying9 (w.heap.size + 1) 0 32 (leB q.num 32) rfl HC.out ?_)
   exact bodyPost_ret (v := .string ⟨(leB q.num 32).toArray⟩) (by simp [results, Tryz.results122, go_sem]) rfl ⟨rfl, HB.out⟩
end Ww
open Go.RowKit
namespace Ed
def enc (x y : F) : Nat := y.val + (if z5t x then 57896044618658097711785492504343953926634992332820282019728792003956564819968 else 0)
theorem k3p (x y : F) : enc x y < 115792089237316195423570985008687907853269984665640564039457584007913129639936 := by
 have h : y.val < 57896044618658097711785492504343953926634992332820282019728792003956564819949 := y.isLt
 unfold enc
 split <;> omega
end Ed
namespace Cw
open Fw Ww Bt
def q6o (q : Q) : Q := ⟨q.a0, q.a1, q.a2, q.a3 ||| 9223372036854775808#64⟩
theorem k5x (x : BitVec 64) (h : x.toNat < 9223372036854775808) : (x ||| 9223372036854775808#64).toNat = x.toNat + 9223372036854775808 := by
 rw [BitVec.toNat_or, show (9223372036854775808#64).toNat = 1 <<< 63 from rfl, Nat.or_comm, ← Nat.shiftLeft_add_eq_or_of_lt (show x.toNat < 2 ^ 63 from h)]
 omega
theorem q5a (y : Ed.F) : (q6o (nq y.val)).num = y.val + 57896044618658097711785492504343953926634992332820282019728792003956564819968 := by
 have hn := z4f y
 have hy : y.val < 57896044618658097711785492504343953926634992332820282019728792003956564819949 := y.isLt
 generalize nq y.val = q at hn ⊢
 unfold Q.num at hn
 have h3 : q.a3.toNat < 9223372036854775808 := by omega
 unfold q6o Q.num
 simp only
 rw [k5x _ h3]
 omega
theorem j3a (x : BitVec 64) : bits .or .u64 (un x) 9223372036854775808 = un (x ||| 9223372036854775808#64) := UV.y1w x 9223372036854775808#64
noncomputable abbrev B1 (w : World) (p : Ed.E) : World := w.alloc (.cells (pw p) 163)
theorem j1b (w : World) (p : Ed.E) : PAt (B1 w p) w.heap.size p := z0d _ _ _ rfl
theorem j0i (w : World) (p : Ed.E) : Below w.heap.size w (B1 w p) := (Below.refl _ _).alloc (Nat.le_refl _) _
theorem NAt.k7v {w : World} {b : Nat} {q : Q} (h : NAt w b q) (v : BitVec 64) : NAt (w.setCell ⟨b, 3, none⟩ (.int .u64 (un v))) b ⟨q.a0, q.a1, q.a2, v⟩ := by
 have h1 := heap_setCell_same w b 3 q.cells 184 (.int .u64 (un v)) h
 exact h1
theorem NAt.frozen {w : World} {b : Nat} {q : Q} (h : NAt w b q) (k : Nat) : w.frozen? ⟨b, k, none⟩ = false := frozen_of_row w b k _ _ h
set_option maxRecDepth 100000 in
set_option maxHeartbeats 1000000 in
theorem y7c (p : Ed.E) (w : World) : Calls Tryz.prog 113 #[.agg (pw p)] w fun e w' => e = .returned (.string ⟨(leB (Ed.enc (p.x * Ed.inv p.z) (p.y * Ed.inv p.z)) 32).toArray⟩) ∧ Below w.heap.size w w' := by
 obtain ⟨iz, hiz⟩ : ∃ iz, iz = Ed.inv p.z := ⟨_, rfl⟩
 have Hinv : Hid (∀ w, Calls Tryz.prog 178 #[.agg (fw p.z)] w fun e w' => e = .returned (.agg (fw iz)) ∧ Below w.heap.size w w') := by rw [hiz]; exact x6y p.z
 rw [← hiz]
 clear hiz
 have HP : Hid (PAt (B1 w p) w.heap.size p) := j1b w p
 go_enter Tryz.func113, Tryz.ntmps113
 go_wp2_with (refine Qt.y5f 3 _ rfl 161 rfl z0l (by kernel_rfl) rfl ?_)
 rename_i Kq hKq
 refine Qt.z0b rfl (.pointer (some ⟨w.heap.size, 8, none⟩)) (fun _ _ => by kernel_rfl) ?_
 refine z4a rfl _ rfl w.heap.size 8 p.z rfl HP.out.lt HP.out.z ?_
 refine Qt.z0e rfl 178 #[.agg (fw p.z)] (.agg (fw iz)) (fun _ => by kernel_rfl) (fun w' _ => Hinv.out w') ?_
 simp only [zD]
 refine Qt.z1a ?_
 intro bi wa1 hw1 hle hb
 have hw1 : Below (B1 w p).heap.size (B1 w p) wa1 := by first | exact hw1 | exact hw1.mono (by simp)
 have hle : (B1 w p).heap.size ≤ bi := by first | exact hle | exact Nat.le_trans (by simp) hle
 refine z2v rfl rfl bi iz rfl rfl hw1 hle hb ?_
 intro w1 hW hb2
 have HX : Hid (Below (B1 w p).heap.size (B1 w p) w1) := hb2
 have HI : Hid (WAt w1 bi iz) := hW
 have HP1 : Hid (PAt w1 w.heap.size p) := HP.out.below HX.out HP.out.lt
 have HB1 : Hid (Below w.heap.size w w1) := (j0i w p).trans (HX.out.mono (j0i w p).size)
 clear hW hb2 hb hle hw1 HX
 simp only [zD]
 refine Qt.done ?_
 refine hKq _ _ ?_
 refine wp_seq ?_
 refine Qt.y2c 5 _ rfl 184 rfl zQ.cells (by kernel_rfl) rfl ?_
 refine Qt.z0b rfl (.pointer (some ⟨w.heap.size, 4, none⟩)) (fun _ _ => by kernel_rfl) ?_
 refine z4a rfl _ rfl w.heap.size 4 p.y rfl HP1.out.lt HP1.out.y ?_
 simp only [zD]
 refine z0m rfl _ rfl (bi) (iz) rfl HI.out ?_
 refine Qt.z0e rfl 179 #[.agg (fw (p.y)), .agg (fw (iz))] _ (fun _ => by kernel_rfl) (fun w' _ => z3x (p.y) (iz) w') ?_
 refine Qt.z0e rfl 180 #[.agg (fw (p.y * iz))] (.agg (nq (p.y * iz).val).cells) (fun _ => by kernel_rfl) (fun w' _ => q3b (p.y * iz) w') ?_
 simp only [zD]
 refine Qt.z1a ?_
 intro bn wa2 hw2 hle2 hb2
 refine z2o rfl _ _ rfl bn (nq (p.y * iz).val) zQ rfl rfl hb2 ?_
 obtain ⟨w2, hw2e⟩ : ∃ w2, w2 = wa2.setRow bn (nq (p.y * iz).val).cells := ⟨_, rfl⟩
 rw [← hw2e]
 have HX : Hid (Below w1.heap.size w1 w2) := by rw [hw2e]; exact hw2.trans ((z0a _ _ _).mono hle2)
 have HN : Hid (NAt w2 bn (nq (p.y * iz).val)) := by rw [hw2e]; exact NAt.setRow hb2 _
 have HI2 : Hid (WAt w2 bi iz) := HI.out.below HX.out HI.out.lt
 have HP2 : Hid (PAt w2 w.heap.size p) := HP1.out.below HX.out HP1.out.lt
 have HB2 : Hid (Below w.heap.size w w2) := HB1.out.trans (HX.out.mono HB1.out.size)
 have HL : Hid (w.heap.size ≤ bn) := Nat.le_trans HB1.out.size hle2
 clear hw2e hw2 hle2 hb2 HX HI HP1 HB1
 simp only [zD]
 refine Qt.done ?_
 refine wp_seq ?_
 refine wp_seq ?_
 refine Qt.y5g 5 ?_
 refine Qt.z0b rfl (.pointer (some ⟨w.heap.size, 0, none⟩)) (fun _ _ => by kernel_rfl) ?_
 refine z4a rfl _ rfl w.heap.size 0 p.x rfl HP2.out.lt HP2.out.x ?_
 simp only [zD]
 refine z0m rfl _ rfl (bi) (iz) rfl HI2.out ?_
 refine Qt.z0e rfl 179 #[.agg (fw (p.x)), .agg (fw (iz))] _ (fun _ => by kernel_rfl) (fun w' _ => z3x (p.x) (iz) w') ?_
 refine Qt.z0e rfl 181 #[.agg (fw (p.x * iz))] (.bool (Ed.z5t (p.x * iz))) (fun _ => by kernel_rfl) (fun w' _ => x7t (p.x * iz) w') ?_
 simp only [zD]
 refine Qt.z1a ?_
 intro w3 hb3
 have HX : Hid (Below w2.heap.size w2 w3) := hb3
 have HN3 : Hid (NAt w3 bn (nq (p.y * iz).val)) := HN.out.below HX.out HN.out.lt
 have HB3 : Hid (Below w.heap.size w w3) := HB2.out.trans (HX.out.mono HB2.out.size)
 clear hb3 HX HN HI2 HP2 HB2
 refine Qt.done ?_
 obtain ⟨q, hq⟩ : ∃ q, q = nq (p.y * iz).val := ⟨_, rfl⟩
 have HQ1 : Hid ((q6o q).num = (p.y * iz).val + 57896044618658097711785492504343953926634992332820282019728792003956564819968) := by rw [hq]; exact q5a _
 have HQ0 : Hid (q.num = (p.y * iz).val) := by rw [hq]; exact z4f _
 rw [← hq] at HN3 ⊢
 clear hq
 cases ho : Ed.z5t (p.x * iz) with
 | true =>
  have HE : Hid (Ed.enc (p.x * iz) (p.y * iz) = (q6o q).num) := by
   show _ = _
   rw [HQ1.out]; unfold Ed.enc; rw [ho]; rfl
  have hc3 : w3.cell? ⟨bn, 3, none⟩ = some (.int .u64 (un q.a3)) := z7i HN3.out 3 (by omega)
  have hf3 : w3.frozen? ⟨bn, 3, none⟩ = false := NAt.frozen HN3.out 3
  have HN4 : Hid (NAt (w3.setCell ⟨bn, 3, none⟩ (.int .u64 (un (q.a3 ||| 9223372036854775808#64)))) bn (q6o q)) := NAt.k7v HN3.out _
  have HB4 : Hid (Below w.heap.size w (w3.setCell ⟨bn, 3, none⟩ (.int .u64 (un (q.a3 ||| 9223372036854775808#64))))) := HB3.out.setCell HL.out _
  have hor := j3a q.a3
  clear ho
  go_wp2_with (refine z2d rfl _ rfl bn (q6o q) rfl HN4.out ?_)
  refine (y8g (q6o q) _).mono ?_
  rintro e w5 ⟨rfl, hb5⟩
  have HX5 : Hid _ := hb5
  clear hb5
  go_wp2_with fail
  exact bodyPost_ret (v := .string ⟨(leB (q6o q).num 32).toArray⟩) (by simp [results, Tryz.results113, go_sem]) rfl ⟨by rw [HE.out], HB4.out.trans (HX5.out.mono HB4.out.size)⟩
 | false =>
  have HE : Hid (Ed.enc (p.x * iz) (p.y * iz) = q.num) := by
   show _ = _
   rw [HQ0.out]; unfold Ed.enc; rw [ho]; rfl
  clear ho
  go_wp2_with (refine z2d rfl _ rfl bn q rfl HN3.out ?_)
  refine (y8g q _).mono ?_
  rintro e w5 ⟨rfl, hb5⟩
  have HX5 : Hid _ := hb5
  clear hb5
  go_wp2_with fail
  exact bodyPost_ret (v := .string ⟨(leB q.num 32).toArray⟩) (by simp [results, Tryz.results113, go_sem]) rfl ⟨by rw [HE.out], HB3.out.trans (HX5.out.mono HB3.out.size)⟩
end Cw
open Go Go.RowKit
namespace Qt
section
variable {P : Program} {ops : Array Oper} {n : Nat} {W : World}
theorem z6f {listed : Array Bool} (hc : Region.chainB .any ops (n + 1) = true) (inv : HeadInv .any ops (n + 1) listed) {t : Nat} (ht : n + 1 < t) : t ∉ Region.ready .any ops listed := fun hr => by
 obtain ⟨_, ot, hot, hall⟩ := mem_ready.1 hr
 have htlt : t < ops.size := (aL hot)
 have h1 := List.all_eq_true.1 hc t (List.mem_range.2 htlt)
 simp only [Bool.or_eq_true, decide_eq_true_eq] at h1
 rcases h1 with h1 | h1
 ·omega
 ·obtain ⟨o', ho', e, he, hb, hon⟩ := Region.waitsFor_spec h1
  obtain rfl : o' = ot := Option.some.inj (ho'.symm.trans hot)
  have h2 := hall e he hb
  rw [hon, getD_both (inv.tail (t - 1) (by omega) (by omega))] at h2
  cases h2
def x2k (ops : Array Oper) (n : Nat) : Bool := (List.range (n + 1)).all fun i => decide (i + 1 = n) || Region.waitsFor .any ops (n + 1) i
theorem y1s {listed : Array Bool} (hs : x2k ops n = true) (hr : n + 1 ∈ Region.ready .any ops listed) {i : Nat} (hi : i < n + 1) (hne : i + 1 ≠ n) : listed.getD i false = true := by
 obtain ⟨_, os, hos, hall⟩ := mem_ready.1 hr
 have h1 := List.all_eq_true.1 hs i (List.mem_range.2 hi)
 simp only [Bool.or_eq_true, decide_eq_true_eq] at h1
 rcases h1 with h1 | h1
 ·exact absurd h1 hne
 ·obtain ⟨o', ho', e, he, hb, hon⟩ := Region.waitsFor_spec h1
  obtain rfl : o' = os := Option.some.inj (ho'.symm.trans hos)
  have h2 := hall e he hb
  rwa [hon] at h2
theorem Still.k8s {K : Array Bool → Act → Prop} {R : World → Prop} {Q : Exit → Act → World → Prop} {g : Nat} (hs : x2k ops n = true) (hc : Region.chainB .any ops (n + 1) = true)
  (hR : ∀ w w', R w → Below w.heap.size w w' → R w') (hK : ∀ listed a, K listed a → ∀ w, Below W.heap.size W w → R w → wpAny P .any ops Q (g + 1) listed a w)
  (hS : ∀ listed a oe v, HeadInv .any ops (n + 1) listed → listed.getD n false = true → listed.getD (n - 1) true = false → ops[n - 1]? = some oe → Yb P W oe v a → (∀ j, j < n → (listed.setIfInBounds (n - 1) true).getD j false = true) → K (listed.setIfInBounds (n - 1) true) (a.put oe.dst v) → ∀ w, Below W.heap.size W w → R w →
   wpOp P ops Q (n + 1) (wpAny P .any ops Q (g + 1) (listed.setIfInBounds (n + 1) true)) a w) (f : Nat) :
  ∀ listed a, HeadInv .any ops (n + 1) listed → listed.getD n false = true → Still P ops n W K f listed a → ∀ w, Below W.heap.size W w → R w → wpAny P .any ops Q (g + 1 + f) listed a w := by
 induction f with
 | zero => intro listed a _ _ H w hw hr; exact hK _ _ H.2 w hw hr
 | succ f ih =>
  intro listed a inv hln H w hw hr
  obtain ⟨⟨i0, hi0, hi0n⟩, H2⟩ := H
  refine ⟨fun h0 => (by rw [h0] at hi0; cases hi0), fun i hi => ?_⟩
  rcases Nat.lt_or_ge i n with hin | hin
  ·obtain ⟨oi, v, hoi, hy, hS'⟩ := H2 i hi hin
   unfold wpOp
   simp only [hoi]
   rw [if_pos (by simp [Region.wanted, hy.1])]
   refine .inl (hy.wp hw fun w' hb => ?_)
   exact ih _ _ (inv.set hi (by omega)) (by rw [getD_set_ne false (by omega)]; exact hln) hS' w' (hw.trans (hb.mono hw.size)) (hR w w' hr hb)
  ·by_cases e1 : i = n
   ·subst e1
    have := getD_both (mem_ready.1 hi).1
    rw [hln] at this; cases this
   ·by_cases e2 : i = n + 1
    ·subst e2
     have hall : ∀ j, j < n → j + 1 ≠ n → listed.getD j false = true := fun j hj hne => y1s hs hi (by omega) hne
     have hi0e : i0 = n - 1 := by
      by_cases h : i0 + 1 = n
      ·omega
      ·have h1 := hall i0 hi0n h
       rw [getD_both (mem_ready.1 hi0).1] at h1; cases h1
     obtain ⟨oe, v, hoe, hy, hS'⟩ := H2 i0 hi0 hi0n
     rw [hi0e] at hoe hS' hi0
     have hfull : ∀ j, j < n → (listed.setIfInBounds (n - 1) true).getD j false = true := fun j hj => by
      by_cases h : n - 1 = j
      ·subst h
       have hsz : n - 1 < listed.size := by
        have := (mem_ready.1 hi0).1
        rcases Nat.lt_or_ge (n - 1) listed.size with h | h
        ·exact h
        ·simp [Array.getD_eq_getD_getElem?, Array.getElem?_eq_none h] at this
       simp [Array.getD_eq_getD_getElem?, hsz]
      ·rw [getD_set_ne false h]
       exact hall j hj (by omega)
     cases f with
     | zero => exact hS listed a oe v inv hln (mem_ready.1 hi0).1 hoe hy hfull hS'.2 w hw hr
     | succ f =>
      obtain ⟨⟨i1, hi1, hi1n⟩, _⟩ := hS'
      have h1 := hfull i1 hi1n
      rw [getD_both (mem_ready.1 hi1).1] at h1; cases h1
    ·exact absurd hi (z6f hc inv (by omega))
theorem Still.end1L {K : Array Bool → Act → Prop} {R : Value → World → Prop} {Q : Exit → Act → World → Prop} {g : Nat} (hsel : Region.noSelect ops = true) (hg : ∀ (i : Nat) (o : Oper), ops[i]? = some o → o.guard = none) (hs : x2k ops n = true) (hc : Region.chainB .any ops (n + 1) = true)
  (hwt : (List.range n).all (fun i => !Region.waitsFor .any ops i n) = true) {on : Oper} (hon : ops[n]? = some on) (hap : (List.range n).all (fun i => match ops[i]? with | some oi => oi.apart ops on | none => true) = true) (hfree : on.after = #[])
  (hfl : ∀ a w Kn, Below W.heap.size W w → (∀ u w', R u w' → Below W.heap.size W w' → Kn (a.put on.dst u) w') → on.wp P a w Kn Q)
  (hE : ∀ u f listed a, HeadInv .any ops (n + 1) listed → listed.getD n false = true → Still P ops n W (fun listed' a' => ∃ l0 a0, K l0 a0 ∧ listed' = l0.setIfInBounds n true ∧ a' = a0.put on.dst u) f listed a → ∀ w, Below W.heap.size W w → R u w → wpAny P .any ops Q (g + 1 + f) listed a w) (f : Nat) :
  ∀ listed a, HeadInv .any ops (n + 1) listed → listed.getD n true = false → Still P ops n W K f listed a → ∀ w, Below W.heap.size W w → wpAny P .any ops Q (g + 1 + f + 1) listed a w := by
 have hnr : ∀ listed : Array Bool, listed.getD n true = false → n ∈ Region.ready .any ops listed := fun listed h => mem_ready.2 ⟨h, on, hon, fun e he => by rw [hfree] at he; simp at he⟩
 have hfloat : ∀ f listed a, HeadInv .any ops (n + 1) listed → listed.getD n true = false → Still P ops n W K f listed a → ∀ w, Below W.heap.size W w → wpOp P ops Q n (wpAny P .any ops Q (g + 1 + f) (listed.setIfInBounds n true)) a w := by
  intro f listed a inv hln H w hw
  unfold wpOp
  simp only [hon]
  rw [if_pos (by simp [Region.wanted, hg n on hon])]
  refine .inl (hfl a w _ hw fun u w' hr hb => ?_)
  have hsz : n < listed.size := by
   rcases Nat.lt_or_ge n listed.size with h | h
   ·exact h
   ·simp [Array.getD_eq_getD_getElem?, Array.getElem?_eq_none h] at hln
  have hS := Still.shift (P := P) (W := W) hsel hwt hon hap u f listed a hsz H
  have hset : (listed.setIfInBounds n true).getD n false = true := by simp [Array.getD_eq_getD_getElem?, hsz]
  exact hE u f _ _ (inv.set (hnr listed hln) (by omega)) hset hS w' hb hr
 have hlt : ∀ listed : Array Bool, HeadInv .any ops (n + 1) listed → listed.getD n true = false → ∀ i ∈ Region.ready .any ops listed, i ≤ n := by
  intro listed inv hln i hi
  rcases Nat.lt_or_ge n i with h | h
  ·by_cases e : i = n + 1
   ·subst e
    have h1 := y1s hs hi (i := n) (by omega) (by omega)
    rw [getD_both hln] at h1; cases h1
   ·exact absurd hi (z6f hc inv (by omega))
  ·exact h
 induction f with
 | zero =>
  intro listed a inv hln H w hw
  refine ⟨fun h0 => (by have := hnr listed hln; rw [h0] at this; cases this), fun i hi => ?_⟩
  have hi1 := hlt listed inv hln i hi
  have hin : i = n := by
   rcases Nat.lt_or_ge i n with h | h
   ·have h1 := H.1 i h
    rw [getD_both (mem_ready.1 hi).1] at h1; cases h1
   ·omega
  rw [hin]
  exact hfloat 0 listed a inv hln H w hw
 | succ f ih =>
  intro listed a inv hln H w hw
  refine ⟨fun h0 => (by have := hnr listed hln; rw [h0] at this; cases this), fun i hi => ?_⟩
  have hi1 := hlt listed inv hln i hi
  by_cases e : i = n
  ·rw [e]; exact hfloat (f + 1) listed a inv hln H w hw
  ·have hin : i < n := by omega
   obtain ⟨oi, v, hoi, hy, hS⟩ := H.2 i hi hin
   unfold wpOp
   simp only [hoi]
   rw [if_pos (by simp [Region.wanted, hy.1])]
   refine .inl (hy.wp hw fun w' hb => ?_)
   exact ih _ _ (inv.set hi (by omega)) (by rw [getD_set_ne true e]; exact hln) hS w' (hw.trans (hb.mono hw.size))
end
def z8u (ops : Array Oper) (n : Nat) (listed : Array Bool) : Bool :=
 decide (Region.ready .any ops (listed.setIfInBounds n true) = [n + 1]) && Region.seqB .any ops (ops.size - (n + 2)) (n + 2) ((listed.setIfInBounds n true).setIfInBounds (n + 1) true) &&
 decide (Region.ready .any ops (((listed.setIfInBounds n true).setIfInBounds (n - 1) false).setIfInBounds (n + 1) true) = [n - 1])
def lateB (ops : Array Oper) (n : Nat) : Bool :=
 Region.noSelect ops && decide (0 < n) && decide (n + 2 ≤ ops.size) && ops.all (fun o => o.guard.isNone) && x2k ops n && Region.chainB .any ops (n + 1) && (List.range n).all (fun i => !Region.waitsFor .any ops i n) &&
 (List.range n).all (fun i => match ops[i]?, ops[n]? with | some oi, some on => oi.apart ops on | _, _ => true) && (match ops[n]? with | some on => on.after.isEmpty | none => false) &&
 (match ops[n - 1]?, ops[n + 1]? with | some oe, some os => oe.apart ops os && os.dst.isNone | _, _ => false) &&
 lexF ops (z8u ops n) n 0 (Array.replicate ops.size false)
theorem q4j {l : Array Bool} {e : Nat} (h : l.getD e true = false) : (l.setIfInBounds e true).setIfInBounds e false = l := by
 apply Array.ext_getElem?
 intro j
 rw [Array.getElem?_setIfInBounds, Array.getElem?_setIfInBounds]
 by_cases hj : e = j
 ·subst hj
  rcases Nat.lt_or_ge e l.size with h1 | h1
  ·simp [h1, Array.getD_eq_getD_getElem?] at h ⊢
   exact h
  ·simp [Array.getD_eq_getD_getElem?, Array.getElem?_eq_none h1] at h
 ·simp [hj]
theorem y2n {P : Program} {id : Nat} {Q : Exit → Act → World → Prop} {a : Act} {w : World} {l : List Oper} {R R2 : Value → World → Prop} (n : Nat) (hm : P.follows .mixedOrders = true) (hB : lateB l.toArray n = true) (on os : Oper) (hon : l[n]? = some on) (hos : l[n + 1]? = some os)
  (hR : ∀ u w w', R u w → Below w.heap.size w w' → R u w') (hR2 : ∀ u w w', R2 u w → Below w.heap.size w w' → R2 u w')
  (hfl : ∀ a w1 Kn, Below w.heap.size w w1 → (∀ u w', R u w' → Below w.heap.size w w' → Kn (a.put on.dst u) w') → on.wp P a w1 Kn Q)
  (h : Lex P w (fun a' => ∀ u w', Below w.heap.size w w' → R u w' → ∃ st, (execOp (a'.put on.dst u).eval os).run P w' = .ok .skip st ∧ Below w.heap.size w st ∧ R2 u st ∧ ∀ w2, Below w.heap.size w w2 → R2 u w2 → wpList P l.toArray Q (l.drop (n + 2)) (a'.put on.dst u) w2) (l.take n) a) : (Code.region id l.toArray true).wp P Q a w := by
 simp only [lateB, Bool.and_eq_true, decide_eq_true_eq] at hB
 obtain ⟨⟨⟨⟨⟨⟨⟨⟨⟨⟨hsel, hn0⟩, hn⟩, hgd⟩, hs⟩, hc⟩, hwt⟩, hap⟩, hfr⟩, hes⟩, hlex⟩ := hB
 have hon' : l.toArray[n]? = some on := by simpa using hon
 have hos' : l.toArray[n + 1]? = some os := by simpa using hos
 have hn' : n + 2 ≤ l.length := by simpa using hn
 have htl : (l.take n).length = n := by simp; omega
 have hdl : (l.drop (n + 2)).length = l.toArray.size - (n + 2) := by simp
 have inv0 : HeadInv .any l.toArray (n + 1) (Array.replicate l.toArray.size false) :=
  ⟨by simp, fun j oj _ hl => (by rw [getD_replicate_false] at hl; cases hl), fun t _ ht => getD_in (by simpa using ht) (getD_replicate_false _ _)⟩
 have hguard : ∀ (i : Nat) (o : Oper), l.toArray[i]? = some o → o.guard = none := fun i o ho => by
  have h1 := Array.all_eq_true_iff_forall_mem.1 hgd o (Array.mem_of_getElem? ho)
  simpa using h1
 have hS := Still.lex (P := P) (W := w) (n := n) hsel (l.take n) 0 (Array.replicate l.toArray.size false) a (fun j hj => by rw [htl] at hj; simp [hj]) (by rw [htl]; simp) (by simp; omega) (fun j hj => absurd hj (by omega)) (by rw [htl]; exact hlex) h
 rw [htl] at hS
 simp only [hon'] at hap hfr
 simp only [hos'] at hes
 have tail : ∀ (u : Value) (l0 : Array Bool) (a0 : Act), z8u l.toArray n l0 = true → (∀ w2, Below w.heap.size w w2 → R2 u w2 → wpList P l.toArray Q (l.drop (n + 2)) (a0.put on.dst u) w2) → ∀ w2, Below w.heap.size w w2 → R2 u w2 →
   wpAny P .any l.toArray Q (l.toArray.size - (n + 2)) ((l0.setIfInBounds n true).setIfInBounds (n + 1) true) (a0.put on.dst u) w2 := fun u l0 a0 hb ht w2 hw2 hr2 => by
  simp only [z8u, Bool.and_eq_true, decide_eq_true_eq] at hb
  have := wpAny_of_seq (md := .any) (Q' := Q) (l.drop (n + 2)) (n + 2) ((l0.setIfInBounds n true).setIfInBounds (n + 1) true) (a0.put on.dst u) w2 (fun j => by simp [List.getElem?_drop]) (by rw [hdl]; exact hb.1.2) (ht w2 hw2 hr2)
  rwa [hdl] at this
 have hdst : os.dst = none := by
  cases hoe : l.toArray[n - 1]? with
  | none => rw [hoe] at hes; cases hes
  | some oe => rw [hoe] at hes; simp only [Bool.and_eq_true] at hes; simpa using hes.2
 refine wp_region_any hm ?_
 have hE : ∀ (u : Value) (f : Nat) (listed : Array Bool) (a : Act), HeadInv .any l.toArray (n + 1) listed → listed.getD n false = true → Still P l.toArray n w (fun listed' a' => ∃ (l0 : Array Bool) (a0 : Act), (z8u l.toArray n l0 = true ∧ ∀ u w', Below w.heap.size w w' → R u w' → ∃ st, (execOp (a0.put on.dst u).eval os).run P w' = .ok .skip st ∧ Below w.heap.size w st ∧ R2 u st ∧ ∀ w2, Below w.heap.size w w2 → R2 u w2 → wpList P l.toArray Q (l.drop (n + 2)) (a0.put on.dst u) w2) ∧ listed' = l0.setIfInBounds n true ∧ a' = a0.put on.dst u) f listed a →
   ∀ w1, Below w.heap.size w w1 → R u w1 → wpAny P .any l.toArray Q (l.toArray.size - (n + 2) + 1 + f) listed a w1 := by
  intro u
  refine Still.k8s hs hc (hR u) ?_ ?_
  ·rintro listed a' ⟨l0, a0, ⟨hb, hk⟩, e1, e2⟩ w1 hw1 hr1
   obtain ⟨st, hrun, hst, hr2, ht⟩ := hk u w1 hw1 hr1
   have hb' := hb
   simp only [z8u, Bool.and_eq_true, decide_eq_true_eq] at hb'
   rw [e1, e2]
   refine ⟨fun h0 => (by rw [hb'.1.1] at h0; cases h0), fun i hi => ?_⟩
   rw [hb'.1.1] at hi
   obtain rfl : i = n + 1 := by simpa using hi
   unfold wpOp
   simp only [hos']
   rw [if_pos (by simp [Region.wanted, hguard _ os hos'])]
   refine .inl ?_
   unfold Oper.wp
   rw [hrun]
   show wpAny _ _ _ _ _ _ ((a0.put on.dst u).put os.dst undef) st
   rw [hdst]
   exact tail u l0 a0 hb ht st hst hr2
  ·intro listed a' oe v inv hln hun hoe hy hfull hKK w1 hw1 hr1
   obtain ⟨l0, a0, ⟨hb, hk⟩, e1, e2⟩ := hKK
   obtain ⟨st, hrun, hst, hr2, ht⟩ := hk u w1 hw1 hr1
   have hb' := hb
   simp only [z8u, Bool.and_eq_true, decide_eq_true_eq] at hb'
   rw [hoe] at hes
   simp only [Bool.and_eq_true] at hes
   obtain ⟨x1, x2, x3⟩ := Oper.apart_spec hes.1
   have hlst : listed = (l0.setIfInBounds n true).setIfInBounds (n - 1) false := by rw [← e1]; exact (q4j hun).symm
   have hrun' : (execOp a'.eval os).run P w1 = .ok .skip st := by
    rw [← hrun, ← e2, execOp_put os (fun cs b => Region.noSelect_spec hsel (n + 1) os cs b hos') a' oe.dst v x1]
   unfold wpOp
   simp only [hos']
   rw [if_pos (by simp [Region.wanted, hguard _ os hos'])]
   refine .inl ?_
   unfold Oper.wp
   rw [hrun']
   show wpAny _ _ _ _ _ _ (a'.put os.dst undef) st
   rw [hdst]
   refine ⟨fun h0 => (by rw [hlst, hb'.2] at h0; cases h0), fun i hi => ?_⟩
   rw [hlst, hb'.2] at hi
   obtain rfl : i = n - 1 := by simpa using hi
   unfold wpOp
   simp only [hoe]
   rw [if_pos (by simp [Region.wanted, hy.1])]
   refine .inl (hy.wp hst fun w3 hb3 => ?_)
   have e3 : ((listed.setIfInBounds (n + 1) true).setIfInBounds (n - 1) true) = (l0.setIfInBounds n true).setIfInBounds (n + 1) true := by
    rw [Array.setIfInBounds_comm _ _ (by omega : n + 1 ≠ n - 1), e1]
   show wpAny _ _ _ _ _ _ (Act.put (Act.put a' none undef) oe.dst v) w3
   rw [e3, show Act.put a' none undef = a' from rfl, e2]
   exact tail u l0 a0 hb ht w3 (hst.trans (hb3.mono hst.size)) (hR2 u st w3 hr2 hb3)
 have := Still.end1L (P := P) (W := w) (R := R) (Q := Q) (g := l.toArray.size - (n + 2)) hsel hguard hs hc hwt hon' (by
  rw [List.all_eq_true] at hap ⊢
  intro i hi
  have := hap i hi
  cases hoi : l.toArray[i]? with
  | none => rfl
  | some oi => rw [hoi] at this; exact this) (by simpa using hfr) hfl hE n _ a inv0 (getD_in (by simp; omega) (getD_replicate_false _ _)) hS { w with drawn := w.drawn + 1 } ⟨rfl, rfl, rfl, Nat.le_refl _, fun _ _ => rfl⟩
 rwa [show l.toArray.size - (n + 2) + 1 + n + 1 = l.toArray.size by simp; omega] at this
theorem z9a {P : Program} {id : Nat} {Q : Exit → Act → World → Prop} {a : Act} {w : World} {l : List Oper} (n : Nat) (hm : P.follows .mixedOrders = true) (hB : lateB l.toArray n = true) (on os : Oper) (hon : l[n]? = some on) (hos : l[n + 1]? = some os) (T : TypeId) (hop : on.op = .alloc T) (zs : Array Value) (hz : (P.info? T).map (fun i => i.zero) = some (some (.agg zs)))
  (x y : Operand) (hs : os.op = .store T x y) (cs : Array Value) (hi : (P.info? T).map (·.size) = some cs.size) (hold : zs.size = cs.size) (h1 : cs.all (·.oneCell') = true)
  (h : Lex P w (fun a' => (∀ b, (a'.put on.dst (.pointer (some ⟨b, 0, none⟩))).eval x = .pointer (some ⟨b, 0, none⟩)) ∧ (∀ b, (a'.put on.dst (.pointer (some ⟨b, 0, none⟩))).eval y = .agg cs) ∧
   ∀ b w2, w.heap.size ≤ b → w2.heap[b]? = some (.cells cs T (0, 0)) → Below w.heap.size w w2 → wpList P l.toArray Q (l.drop (n + 2)) (a'.put on.dst (.pointer (some ⟨b, 0, none⟩))) w2) (l.take n) a) : (Code.region id l.toArray true).wp P Q a w := by
 refine y2n (R := fun u w' => ∃ b, u = .pointer (some ⟨b, 0, none⟩) ∧ w.heap.size ≤ b ∧ w'.heap[b]? = some (.cells zs T (0, 0))) (R2 := fun u w' => ∃ b, u = .pointer (some ⟨b, 0, none⟩) ∧ w.heap.size ≤ b ∧ w'.heap[b]? = some (.cells cs T (0, 0))) n hm hB on os hon hos ?_ ?_ ?_ ?_
 ·rintro u w1 w2 ⟨b, e, hb, hr⟩ h12
  exact ⟨b, e, hb, (h12.block b (aL hr)).trans hr⟩
 ·rintro u w1 w2 ⟨b, e, hb, hr⟩ h12
  exact ⟨b, e, hb, (h12.block b (aL hr)).trans hr⟩
 ·intro a' w1 Kn hw1 hK
  obtain ⟨i, hi, hzi⟩ := Option.map_eq_some_iff.1 hz
  unfold Oper.wp
  simp [execOp, hop, Instr.alloc, zeroValue, typeInfo, hi, hzi, newVar, newRow, Value.cells, Result.andThen]
  exact hK _ _ ⟨w1.heap.size, rfl, hw1.size, heap_alloc_new _ _⟩ (hw1.alloc hw1.size _)
 ·have hmono : ∀ (l' : List Oper) (a : Act) (K K' : Act → Prop), (∀ a, K a → K' a) → Lex P w K l' a → Lex P w K' l' a := by
   intro l'
   induction l' with
   | nil => intro a K K' hk h; exact hk _ h
   | cons o l' ih => intro a K K' hk ⟨v, hy, hl⟩; exact ⟨v, hy, ih _ K K' hk hl⟩
  refine hmono _ _ _ _ (fun a' ha' u w' hw' ⟨b, e, hb, hr⟩ => ?_) h
  subst e
  obtain ⟨hx, hy, ht⟩ := ha'
  refine ⟨w'.setRow b cs, ?_, hw'.trans ⟨rfl, rfl, rfl, by simp [World.setRow], fun k hk => setRow_other _ _ _ _ (by omega)⟩, ⟨b, rfl, hb, setRow_heap _ _ _ _ _ _ hr⟩, fun w2 hw2 ⟨c, e2, hc, hr2⟩ => ?_⟩
  ·unfold execOp
   simp only [hs, hx b, hy b, Instr.storeAt, Instr.sureAddr, Sem.run_bind, Sem.run_pure, Result.andThen_ok, run_storeVar_row w' b T T zs cs hr hi hold h1]
  ·obtain rfl : b = c := by simpa using e2
   exact ht b w2 hb hr2 hw2
end Qt
end Go.Proofs.YtbojijefenfbgaaGreatDoor
