/- Walks of the program's own small functions of the hash: RotateLeft64, right, turn, spreadEarly, spreadLate, word, putWord. Walks of the document's own small functions of the hash: turn, word, bytes, roots, cubes. Walks of the program's hash: schedule, mix, take, finish, sum, start, Of. -/
import Derived.Test.YtbojijefenfbgaaGreatDoorTtWideE
import Derived.StillTailTactics
namespace Go.Proofs.YtbojijefenfbgaaGreatDoor
open Go.RowKit
namespace Hs
attribute [local go_sem] UV.z6q UV.z5u UV.z6r UV.z6s UV.z4x UV.y1w UV.z3z UV.z4m UV.z5v UV.z3n UV.z1c
theorem k8l (n : Int) (h1 : 1 ≤ n) (h2 : n ≤ 63) : bits .and .u64 (IntKind.u64.wrap (-n)) 63 = 64 - n := by
 rw [IntKind.wrap_u64]
 have e : (-n) % 18446744073709551616 = ((18446744073709551616 - n.toNat : Nat) : Int) := by omega
 rw [e]
 have := bits_and_u64_nat (18446744073709551616 - n.toNat) 63 (by omega) (by omega)
 rw [show ((63 : Nat) : Int) = 63 from rfl] at this
 rw [this, show (63 : Nat) = 2 ^ 6 - 1 from rfl, Nat.and_two_pow_sub_one_eq_mod]
 omega
theorem x8s {a b : BitVec 64} (h : a = b) : Ending.returned (.int .u64 (un a)) = .returned (.int .u64 (un b)) := by rw [h]
set_option maxHeartbeats 400000 in
theorem k1e (x : BitVec 64) (n : Int) (h1 : 1 ≤ n) (h2 : n ≤ 63) (w : World) :
  Calls Tryz.prog 296 #[.int .u64 (un x), .int .i64 (-n)] w fun e w' => e = .returned (.int .u64 (un (Sha.y8a x n.toNat))) ∧ w' = w := by
 have hb := k8l n h1 h2
 go_enter Tryz.func296, Tryz.ntmps296
 go_wp2
 go_ret
 exact ⟨x8s (by unfold Sha.y8a; rw [show (64 - (64 - n)).toNat = n.toNat by omega, show (64 - n).toNat = 64 - n.toNat by omega, BitVec.or_comm]), rfl⟩
set_option maxHeartbeats 400000 in
theorem y1i (x : BitVec 64) (n : Int) (h1 : 1 ≤ n) (h2 : n ≤ 63) (w : World) :
  Calls Tryz.prog 291 #[.int .u64 (un x), .int .i64 n] w fun e w' => e = .returned (.int .u64 (un (Sha.y8a x n.toNat))) ∧ w' = w := by
 go_enter Tryz.func291, Tryz.ntmps291
 go_wp2_with (go_at_call 296; refine (k1e _ _ h1 h2 _).mono ?_; rintro e w' ⟨rfl, rfl⟩)
 go_ret
 exact ⟨rfl, rfl⟩
set_option maxHeartbeats 400000 in
theorem y5a (x : BitVec 64) (k m n : Int) (k1 : 1 ≤ k) (k2 : k ≤ 63) (m1 : 1 ≤ m) (m2 : m ≤ 63) (n1 : 1 ≤ n) (n2 : n ≤ 63) (w : World) :
  Calls Tryz.prog 272 #[.int .u64 (un x), .int .i64 k, .int .i64 m, .int .i64 n] w fun e w' => e = .returned (.int .u64 (un (Sha.y8a x k.toNat ^^^ Sha.y8a x m.toNat ^^^ Sha.y8a x n.toNat))) ∧ w' = w := by
 go_enter Tryz.func272, Tryz.ntmps272
 go_wp2_with (go_at_call 291; refine (y1i _ _ (by assumption) (by assumption) _).mono ?_; rintro e w' ⟨rfl, rfl⟩)
 go_ret
 exact ⟨rfl, rfl⟩
theorem j0z (x : BitVec 64) : un x / (128 : Int) = un (x >>> 7) := UV.z3z x 7
theorem j0y (x : BitVec 64) : un x / (64 : Int) = un (x >>> 6) := UV.z3z x 6
set_option maxHeartbeats 400000 in
theorem y1r (x : BitVec 64) (w : World) :
  Calls Tryz.prog 290 #[.int .u64 (un x)] w fun e w' => e = .returned (.int .u64 (un (Sha.k9l x))) ∧ w' = w := by
 have hx := j0z x
 go_enter Tryz.func290, Tryz.ntmps290
 go_wp2_with (go_at_call 291; refine (y1i _ _ (by decide) (by decide) _).mono ?_; rintro e w' ⟨rfl, rfl⟩)
 go_ret
 exact ⟨rfl, rfl⟩
set_option maxHeartbeats 400000 in
theorem y2l (x : BitVec 64) (w : World) :
  Calls Tryz.prog 289 #[.int .u64 (un x)] w fun e w' => e = .returned (.int .u64 (un (Sha.q8y x))) ∧ w' = w := by
 have hx := j0y x
 go_enter Tryz.func289, Tryz.ntmps289
 go_wp2_with (go_at_call 291; refine (y1i _ _ (by decide) (by decide) _).mono ?_; rintro e w' ⟨rfl, rfl⟩)
 go_ret
 exact ⟨rfl, rfl⟩
theorem k6k (x : BitVec 64) (c : UInt8) : x <<< 8 ||| BitVec.ofNat 64 c.toNat = Sha.more x c := by
 apply BitVec.eq_of_toNat_eq
 have hc : c.toNat < 256 := c.toNat_lt
 have hx := x.isLt
 simp only [Sha.more, BitVec.toNat_or, BitVec.toNat_shiftLeft, BitVec.toNat_add, BitVec.toNat_mul, BitVec.toNat_ofNat]
 rw [Nat.shiftLeft_eq]
 have e1 : x.toNat * 2 ^ 8 % 2 ^ 64 = (x.toNat % 2 ^ 56) <<< 8 := by rw [Nat.shiftLeft_eq]; omega
 rw [e1, Nat.mod_eq_of_lt (show c.toNat < 2 ^ 64 by omega), ← Nat.shiftLeft_add_eq_or_of_lt (show c.toNat < 2 ^ 8 by omega), Nat.shiftLeft_eq]
 omega
theorem x9z (x : BitVec 64) (c : UInt8) : bits .or .u64 (IntKind.u64.wrap (un x * 256)) (IntKind.u64.wrap (c.toNat : Int)) = un (Sha.more x c) := by
 rw [show IntKind.u64.wrap (un x * 256) = un (x <<< 8) from UV.z4m x 8, UV.x9w, UV.y1w, k6k]
set_option maxHeartbeats 400000 in
theorem q5e (w : World) (b o len cap : Nat) (l : List UInt8) (hl : l.length = 8) (_hlen : len ≤ 1000) (hcap : cap ≤ 1000) (h8 : 8 ≤ cap) (hc : ∀ j (h : j < l.length), w.cell? ⟨b, o + j, none⟩ = some (.int .u8 (l[j].toNat : Int))) :
  Calls Tryz.prog 288 #[.slice (some ⟨b, o, none⟩) len cap] w fun e w' => e = .returned (.int .u64 (un (Sha.z9p l))) ∧ w' = w := by
 have HC : Hid _ := hc
 clear hc
 go_enter Tryz.func288, Tryz.ntmps288
 go_wp2
 go_loop [3, 9] (fun x i => ∃ k : Nat, k ≤ 8 ∧ i = .int .i64 k ∧ x = .int .u64 (un (Sha.z9p (l.take k)))) (fun _ i => 8 - (intOf i).toNat)
 case atStart => exact ⟨0, Nat.zero_le _, rfl, rfl⟩
 case round =>
  obtain ⟨k, hk, rfl, rfl⟩ := hrel
  by_cases hlt : k < 8
  ·have hk' : k < l.length := by omega
   have z3s := HC.out k hk'
   have hsn : Hid (Sha.z9p (l.take (k + 1)) = Sha.more (Sha.z9p (l.take k)) l[k]) := by
    show _ = _
    rw [List.take_succ_eq_append_getElem hk', Sha.z9p, List.foldl_append]; rfl
   clear hl
   generalize l[k] = c at *
   go_wp2
   exact ⟨⟨k + 1, by omega, by go_num, by rw [hsn.out, ← x9z]⟩, by simp [intOf]; omega⟩
  ·obtain rfl : k = 8 := by omega
   go_wp2
   go_ret
   exact ⟨x8s (by rw [List.take_of_length_le (by omega)]), rfl⟩
structure z5q (b : Nat) (w w' : World) : Prop where
 os : w'.os = w.os
 tape : w'.tape = w.tape
 output : w'.output = w.output
 size : w.heap.size ≤ w'.heap.size
 block : ∀ k, k < w.heap.size → k ≠ b → w'.heap[k]? = w.heap[k]?
theorem z5q.refl (b : Nat) (w : World) : z5q b w w := ⟨rfl, rfl, rfl, Nat.le_refl _, fun _ _ _ => rfl⟩
theorem z5q.trans {b : Nat} {u v w : World} (h : z5q b u v) (k : z5q b v w) : z5q b u w :=
 ⟨k.os.trans h.os, k.tape.trans h.tape, k.output.trans h.output, Nat.le_trans h.size k.size, fun i hi hb => (k.block i (Nat.lt_of_lt_of_le hi h.size) hb).trans (h.block i hi hb)⟩
theorem z5q.z0z {b : Nat} {u v : World} (h : Below u.heap.size u v) : z5q b u v := ⟨h.os, h.tape, h.output, h.size, fun k hk _ => h.block k hk⟩
theorem z5q.below {b : Nat} {u v : World} (h : z5q b u v) (B : Nat) (hB : B ≤ b) (hs : B ≤ u.heap.size) : Below B u v := ⟨h.os, h.tape, h.output, h.size, fun k hk => h.block k (by omega) (by omega)⟩
theorem z5q.setCell (w : World) (b i : Nat) (v : Value) : z5q b w (w.setCell ⟨b, i, none⟩ v) :=
 ⟨rfl, rfl, rfl, by simp [World.setCell], fun k _ hb => heap_setCell_other _ _ _ _ hb⟩
theorem z5q.drew {b : Nat} {u v : World} (h : z5q b u v) : z5q b u v.drew := ⟨h.os, h.tape, h.output, h.size, h.block⟩
def x4l (f : Nat → Value) (o : Nat) (x : BitVec 64) (k j : Nat) : Value := if o ≤ j ∧ j < o + k then .int .u8 ((Sha.byteOf x (j - o)).toNat : Int) else f j
theorem q3y {n o k : Nat} {f : Nat → Value} {x : BitVec 64} : Own.z0f n (fun j => if j = o + k then .int .u8 ((Sha.byteOf x k).toNat : Int) else x4l f o x k j) = Own.z0f n (x4l f o x (k + 1)) := by
 refine Own.z0k (fun j hj => ?_)
 unfold x4l
 by_cases e : j = o + k
 ·rw [if_pos e, if_pos (by omega), show j - o = k by omega]
 ·rw [if_neg e]
  by_cases h : o ≤ j ∧ j < o + k
  ·rw [if_pos h, if_pos (by omega)]
  ·rw [if_neg h, if_neg (by omega)]
theorem q4a (x : BitVec 64) (k : Nat) : un (x >>> (56 - 8 * k)) % 256 = ((Sha.byteOf x k).toNat : Int) := by
 unfold un Sha.byteOf; simp
set_option maxHeartbeats 400000 in
theorem z7p (w : World) (b o len cap n : Nat) (f : Nat → Value) (t : TypeId) (x : BitVec 64) (hlen : len ≤ 1000) (h8 : 8 ≤ len) (hn : o + 8 ≤ n) (_hn2 : n ≤ 1000)
  (hf : ∀ j, o ≤ j → j < o + 8 → ∃ v : Int, f j = .int .u8 v)
  (hrow : w.heap[b]? = some (.cells (Own.z0f n f) t (0, 0))) :
  Calls Tryz.prog 237 #[.slice (some ⟨b, o, none⟩) len cap, .int .u64 (un x)] w fun e w' => e = .returned (.tuple #[]) ∧ z5q b w w' ∧ w'.heap[b]? = some (.cells (Own.z0f n (x4l f o x 8)) t (0, 0)) := by
 have HR : Hid _ := hrow
 have HF : Hid _ := hf
 clear hrow hf
 go_enter Tryz.func237, Tryz.ntmps237
 go_wp2
 go_loopw [5] (fun i wr => ∃ k : Nat, k ≤ 8 ∧ i = .int .i64 k ∧ z5q b w wr ∧ wr.heap[b]? = some (.cells (Own.z0f n (x4l f o x k)) t (0, 0))) (fun i _ => 8 - (intOf i).toNat)
 case atStart => exact ⟨0, Nat.zero_le _, rfl, z5q.refl _ _, by rw [HR.out, Own.z0k (g := x4l f o x 0) (fun j _ => by unfold x4l; rw [if_neg (by omega)])]⟩
 case round =>
  obtain ⟨k, hk, rfl, ho, hr⟩ := hrel
  have HO : Hid _ := ho
  have HR2 : Hid _ := hr
  clear ho hr HR
  by_cases hlt : k < 8
  ·have hz := Own.z1o HR2.out (o + k)
   have hc := Own.z0o HR2.out (o + k) (by omega)
   obtain ⟨v, hv⟩ := HF.out (o + k) (by omega) (by omega)
   have hv2 : x4l f o x k (o + k) = .int .u8 v := by unfold x4l; rw [if_neg (by omega), hv]
   rw [hv2] at hc
   clear hv hv2
   go_wp2
   exact ⟨⟨k + 1, by omega, by go_num, HO.out.trans (z5q.setCell _ _ _ _), by rw [Own.z1p HR2.out, q4a, q3y]⟩, by simp [intOf]; omega⟩
  ·obtain rfl : k = 8 := by omega
   go_wp2
   go_end0
   exact ⟨rfl, HO.out, HR2.out⟩
end Hs
open Go.RowKit
attribute [local go_sem] UV.z6q UV.z5u UV.z6r UV.z6s UV.z4x UV.y1w UV.z3z UV.z4m UV.z5v UV.x9v UV.z1c
theorem y0w : (Tryz.prog.info? 5).map (fun i => (i.zero, i.size, i.bytes)) = some (some (.int .u8 0), 1, 1) := by kernel_rfl
theorem y8f (x : BitVec 64) (j : Nat) (h : j < (Sha.bytesOf x).length) : (Sha.bytesOf x)[j] = Sha.byteOf x j := by
 have h' : j < 8 := h
 rcases j with _ | _ | _ | _ | _ | _ | _ | _ | j
 all_goals first | rfl | omega
def z8s (s : Sha.St) (j : Nat) : Value := .int .u64 (un (s.list.getD j 0#64))
def k9d (j : Nat) : Value := .int .u64 (un (Sha.kAt j))
open Go.RowKit
namespace Hs
attribute [local go_sem] UV.z6q UV.z5u UV.z6r UV.z6s UV.z4x UV.y1w UV.z3z UV.z4m UV.z5v UV.z3n UV.z1c
def stF (s : Sha.St) (bs : Nat → UInt8) (m : Nat) (j : Nat) : Value :=
 if j < 8 then .int .u64 (un (s.list.getD j 0#64)) else if j < 136 then .int .u8 ((bs (j - 8)).toNat : Int) else .int .i64 (m : Int)
def z1u (w : World) (b : Nat) (s : Sha.St) (bs : Nat → UInt8) (m : Nat) : Prop := w.heap[b]? = some (.cells (Own.z0f 137 (stF s bs m)) 270 (0, 0))
theorem z5p {w : World} {b : Nat} {s : Sha.St} {bs : Nat → UInt8} {m : Nat} (h : z1u w b s bs m) (j : Nat) (hj : j < 8) : w.cell? ⟨b, j, none⟩ = some (.int .u64 (un (s.list[j]?.getD 0#64))) := by
 rw [Own.z0o h j (by omega)]; unfold stF; rw [if_pos hj, List.getD_eq_getElem?_getD]
theorem k1n {w : World} {b : Nat} {s : Sha.St} {bs : Nat → UInt8} {m : Nat} (h : z1u w b s bs m) (j : Nat) (hj : j < 128) : w.cell? ⟨b, 8 + j, none⟩ = some (.int .u8 ((bs j).toNat : Int)) := by
 rw [Own.z0o h (8 + j) (by omega)]; unfold stF; rw [if_neg (by omega), if_pos (by omega), show 8 + j - 8 = j by omega]
theorem z6m {w : World} {b : Nat} {s : Sha.St} {bs : Nat → UInt8} {m : Nat} (h : z1u w b s bs m) : w.cell? ⟨b, 136, none⟩ = some (.int .i64 (m : Int)) := by
 rw [Own.z0o h 136 (by omega)]; unfold stF; rw [if_neg (by omega), if_neg (by omega)]
theorem y7s {w : World} {b : Nat} {s : Sha.St} {bs : Nat → UInt8} {m : Nat} (h : z1u w b s bs m) (j : Nat) : w.frozen? ⟨b, j, none⟩ = false := Own.z1o h j
theorem k1o {w : World} {b : Nat} {s : Sha.St} {bs : Nat → UInt8} {m : Nat} (h : z1u w b s bs m) : b < w.heap.size := (aL h)
def eight (bs : Nat → UInt8) (p : Nat) : List UInt8 := [bs p, bs (p + 1), bs (p + 2), bs (p + 3), bs (p + 4), bs (p + 5), bs (p + 6), bs (p + 7)]
theorem y5x (bs : Nat → UInt8) (p j : Nat) (h : j < (eight bs p).length) : (eight bs p)[j] = bs (p + j) := by
 have h' : j < 8 := h
 rcases j with _ | _ | _ | _ | _ | _ | _ | _ | j
 all_goals first | rfl | omega
def z2q (bs : Nat → UInt8) (j : Nat) : BitVec 64 := Sha.z9p (eight bs (8 * j))
def z2p (b : Nat → BitVec 64) (k j : Nat) : Value := if j < k then .int .u64 (un (Sha.W b j)) else .int .u64 0
theorem z8k (b : Nat → BitVec 64) (k : Nat) (v : Value) (hv : v = .int .u64 (un (Sha.W b k))) : Own.z0f 80 (fun j => if j = k then v else z2p b k j) = Own.z0f 80 (z2p b (k + 1)) := by
 refine Own.z0k (fun j hj => ?_)
 by_cases e : j = k
 ·rw [if_pos e, hv, e]; unfold z2p; rw [if_pos (by omega)]
 ·rw [if_neg e]; unfold z2p
  by_cases h : j < k
  ·rw [if_pos h, if_pos (by omega)]
  ·rw [if_neg h, if_neg (by omega)]
theorem z4t (b : Nat → BitVec 64) (k j : Nat) (h : j < k) : z2p b k j = .int .u64 (un (Sha.W b j)) := by unfold z2p; rw [if_pos h]
theorem y5d (b : Nat → BitVec 64) (k j : Nat) (h : k ≤ j) : z2p b k j = .int .u64 0 := by unfold z2p; rw [if_neg (by omega)]
theorem Below.x4q (w : World) (g : Nat) (cs : Array Value) : Below g w (w.setRow g cs) :=
 ⟨rfl, rfl, rfl, by simp [World.setRow], fun k hk => by show (Array.modify _ _ _)[k]? = _; rw [Array.getElem?_modify, if_neg (by omega)]⟩
theorem y0h (W : World) (b o l : Nat) (L : Int) (hL : L = (l : Int)) (hl : l < 128) :
  Sem.run Tryz.prog (Instr.sliceAt 268 (.pointer (some ⟨b, o, none⟩)) (some (.int .i64 L)) none none) W = .ok (.slice (some ⟨b, o + l, none⟩) (128 - l) (128 - l)) W := by
 subst hL
 have e1 : Tryz.prog.arrayLen 268 = 128 := by kernel_rfl
 have e2 : Tryz.prog.elem 268 = 5 := by kernel_rfl
 have h := run_sliceAt_array_l (P := Tryz.prog) W 268 ⟨b, o, none⟩ (by kernel_rfl) .i64 (l : Int) (by omega) (by rw [e1]; omega)
 obtain ⟨i, hi, _, hz1, _⟩ := info_parts y0w
 rw [h, e1, e2]
 simp [sizeOf, typeInfo, hi, hz1, slicedAt, Result.andThen, Addr.add_mid]
 omega
set_option maxHeartbeats 1000000 in
set_option maxRecDepth 100000 in
theorem y7o (w : World) (b : Nat) (s : Sha.St) (bs : Nat → UInt8) (m : Nat) (hst : z1u w b s bs m) :
  Calls Tryz.prog 271 #[.pointer (some ⟨b, 0, none⟩)] w fun e w' => e = .returned (.agg (Own.z0f 80 (z2p (z2q bs) 80))) ∧ Below w.heap.size w w' := by
 have HS : Hid _ := hst
 have hbl := k1o hst
 clear hst
 go_enter Tryz.func271, Tryz.ntmps271
 go_wp2_with (first
  | refine Own.z0t _ rfl 179 rfl (Own.z4z 80 (.int .u64 0)) (by kernel_rfl) ?_)
 go_loopw [6] (fun i wr => ∃ k : Nat, k ≤ 16 ∧ i = .int .i64 (k : Int) ∧ Below (w.heap.size + 1) (w.alloc (.cells (Own.z4z 80 (.int .u64 0)) 179)) wr ∧ wr.heap[w.heap.size + 1]? = some (.cells (Own.z0f 80 (z2p (z2q bs) k)) 179 (0, 0))) (fun i _ => 16 - (intOf i).toNat)
 case atStart =>
  exact ⟨0, by omega, rfl, (Below.refl _ _).alloc (by simp) _, by
   have := heap_alloc_new (w.alloc (.cells (Own.z4z 80 (.int .u64 0)) 179)) (.cells (Own.z4z 80 (.int .u64 0)) 179)
   simp only [World.size_alloc] at this
   rw [this]; rfl⟩
 case round =>
  obtain ⟨k, hk, rfl, hb2, hr2⟩ := hrel
  have HB2 : Hid _ := hb2
  have HR2 : Hid _ := hr2
  clear hb2 hr2
  have HS2 : Hid (z1u wr b s bs m) := ((HB2.out.block b (by omega)).trans (Below.heap_alloc _ _ _ hbl)).trans HS.out
  by_cases hk16 : k < 16
  ·have hfz := Own.z1o HR2.out k
   have hck := Own.z0o HR2.out k (by omega)
   rw [y5d _ _ _ (Nat.le_refl _)] at hck
   have hsl := fun W => y0h W b 8 (8 * k) (8 * (k : Int)) (by omega) (by omega)
   go_wp2_with (first
    | (go_at_call 288; refine (q5e _ _ _ _ _ (eight bs (8 * k)) rfl (by omega) (by omega) (by omega) (fun j hj => by rw [y5x, Nat.add_assoc]; exact k1n HS2.out _ (by have : j < 8 := hj; omega))).mono ?_; rintro e w' ⟨rfl, rfl⟩))
   exact ⟨⟨k + 1, by omega, by go_num, HB2.out.setCell (Nat.le_refl _) _, by rw [Own.z1p HR2.out, z8k _ k _ (by rw [Sha.k8i _ _ hk16]; rfl)]⟩, by simp [intOf]; omega⟩
  ·obtain rfl : k = 16 := by omega
   go_wp2_with fail
   go_loopw [5] (fun i wq => ∃ k : Nat, 16 ≤ k ∧ k ≤ 80 ∧ i = .int .i64 (k : Int) ∧ Below (w.heap.size + 1) (w.alloc (.cells (Own.z4z 80 (.int .u64 0)) 179)) wq ∧ wq.heap[w.heap.size + 1]? = some (.cells (Own.z0f 80 (z2p (z2q bs) k)) 179 (0, 0))) (fun i _ => 80 - (intOf i).toNat)
   case atStart => exact ⟨16, by omega, by omega, rfl, HB2.out, HR2.out⟩
   case round =>
    clear HB2 HR2 HS2 hk16 hk
    rename World => wc
    obtain ⟨k, hk16, hk, rfl, hb2, hr2⟩ := hrel
    have HB2 : Hid _ := hb2
    have HR2 : Hid _ := hr2
    clear hb2 hr2
    by_cases hk80 : k < 80
    ·have hfz := Own.z1o HR2.out k
     have hck := Own.z0o HR2.out k (by omega)
     rw [y5d _ _ _ (Nat.le_refl _)] at hck
     have hr15 := Own.z0o HR2.out (k - 15) (by omega)
     rw [z4t _ k (k - 15) (by omega)] at hr15
     have hr2 := Own.z0o HR2.out (k - 2) (by omega)
     rw [z4t _ k (k - 2) (by omega)] at hr2
     have hr7 := Own.z0o HR2.out (k - 7) (by omega)
     rw [z4t _ k (k - 7) (by omega)] at hr7
     have hr16 := Own.z0o HR2.out (k - 16) (by omega)
     rw [z4t _ k (k - 16) (by omega)] at hr16
     have hw2 : IntKind.i64.wrap ((k : Int) - 2) = (k : Int) - 2 := IntWalk.i64_in _ (by omega)
     have hw7 : IntKind.i64.wrap ((k : Int) - 7) = (k : Int) - 7 := IntWalk.i64_in _ (by omega)
     have hw15 : IntKind.i64.wrap ((k : Int) - 15) = (k : Int) - 15 := IntWalk.i64_in _ (by omega)
     have hw16 : IntKind.i64.wrap ((k : Int) - 16) = (k : Int) - 16 := IntWalk.i64_in _ (by omega)
     have ht2 : ((k : Int) - 2).toNat = k - 2 := by omega
     have ht7 : ((k : Int) - 7).toNat = k - 7 := by omega
     have ht15 : ((k : Int) - 15).toNat = k - 15 := by omega
     have ht16 : ((k : Int) - 16).toNat = k - 16 := by omega
     have hi2 : (2 : Int) ≤ (k : Int) := by omega
     have hj2 : (k : Int) - 2 < 80 := by omega
     have hi7 : (7 : Int) ≤ (k : Int) := by omega
     have hj7 : (k : Int) - 7 < 80 := by omega
     have hi15 : (15 : Int) ≤ (k : Int) := by omega
     have hj15 : (k : Int) - 15 < 80 := by omega
     have hi16 : (16 : Int) ≤ (k : Int) := by omega
     have hj16 : (k : Int) - 16 < 80 := by omega
     go_wp2_with fail
     refine wp_region_still_tail 23 (by kernel_rfl) (by kernel_rfl) ?_
     simp only [List.take_succ_cons, List.take_zero, List.drop_succ_cons, List.drop_zero]
     repeat (first | still_step | still_call (y2l _ _) | still_call (y1r _ _))
     refine wpStill_nil ?_
     go_wp2_with fail
     go_roundw
     case rel =>
      (repeat apply Exists.intro)
      refine ⟨⟨k + 1, by omega, by omega, by go_num, ?_, ?_⟩, rfl⟩
      ·first | exact (HB2.out.setCell (Nat.le_refl _) _).drew | exact HB2.out.drew.setCell (Nat.le_refl _) _
      ·first | rw [heap_drew, Own.z1p HR2.out, z8k _ k _ (by rw [Sha.q5i _ _ hk16])] | rw [Own.z1p (w := wc.drew) HR2.out, z8k _ k _ (by rw [Sha.q5i _ _ hk16])]
     case measure => simp [intOf]; omega
    ·obtain rfl : k = 80 := by omega
     go_wp2_with (first
      | refine wpList_load_row rfl 179 _ rfl (w.heap.size + 1) rfl 179 (Own.z0f 80 (z2p (z2q bs) 80)) (0, 0) _ HR2.out Tryz.underlying179 rfl (by kernel_rfl) ?_
      | refine wpList_store_row rfl 179 _ _ rfl w.heap.size (Own.z0f 80 (z2p (z2q bs) 80)) rfl rfl 179 (Own.z4z 80 (.int .u64 0)) ((HB2.out.block _ (by omega)).trans (heap_alloc_new _ _)) (by kernel_rfl) (by kernel_rfl) (Own.y0n fun j hj => by rw [z4t _ _ _ hj]; rfl) ?_)
     refine Own.z1g Tryz.results271 rfl w.heap.size 179 _ (0, 0) _ rfl (setRow_heap _ _ _ _ _ _ ((HB2.out.block _ (by omega)).trans (heap_alloc_new _ _))) Tryz.underlying179 rfl (by kernel_rfl) ⟨rfl, ?_⟩
     exact (((Below.refl _ _).alloc (Nat.le_refl _) _).trans (HB2.out.mono (by omega))).trans (Below.x4q _ _ _)
end Hs
end Go.Proofs.YtbojijefenfbgaaGreatDoor
