/- Walks of the program's hash: schedule, mix, take, finish, sum, start, Of. -/
import Derived.Test.YtbojijefenfbgaaGreatDoorGgSignA
import Derived.WalkKit
import Derived.WalkSpells
import Derived.WalkLawsBesides
import Derived.BigQuiet
import Derived.KernelRfl
import Derived.StillTailTactics
namespace Go.Proofs.YtbojijefenfbgaaGreatDoor
open Go.RowKit
namespace Hs
attribute [local go_sem] UV.u_add UV.u_mul UV.u_sub UV.u_xor UV.u_and UV.u_or UV.u_shr UV.u_shl UV.u_not UV.u_notm UV.u_wrap_un
def stF (s : Sha.St) (bs : Nat → UInt8) (m : Nat) (j : Nat) : Value :=
 if j < 8 then .int .u64 (un (s.list.getD j 0#64)) else if j < 136 then .int .u8 ((bs (j - 8)).toNat : Int) else .int .i64 (m : Int)
def StateAt (w : World) (b : Nat) (s : Sha.St) (bs : Nat → UInt8) (m : Nat) : Prop := w.heap[b]? = some (.cells (Own.mkRow 137 (stF s bs m)) 270 (0, 0))
theorem st_word {w : World} {b : Nat} {s : Sha.St} {bs : Nat → UInt8} {m : Nat} (h : StateAt w b s bs m) (j : Nat) (hj : j < 8) : w.cell? ⟨b, j, none⟩ = some (.int .u64 (un (s.list[j]?.getD 0#64))) := by
 rw [Own.row_cell h j (by omega)]; unfold stF; rw [if_pos hj, List.getD_eq_getElem?_getD]
theorem st_byte {w : World} {b : Nat} {s : Sha.St} {bs : Nat → UInt8} {m : Nat} (h : StateAt w b s bs m) (j : Nat) (hj : j < 128) : w.cell? ⟨b, 8 + j, none⟩ = some (.int .u8 ((bs j).toNat : Int)) := by
 rw [Own.row_cell h (8 + j) (by omega)]; unfold stF; rw [if_neg (by omega), if_pos (by omega), show 8 + j - 8 = j by omega]
theorem st_filled {w : World} {b : Nat} {s : Sha.St} {bs : Nat → UInt8} {m : Nat} (h : StateAt w b s bs m) : w.cell? ⟨b, 136, none⟩ = some (.int .i64 (m : Int)) := by
 rw [Own.row_cell h 136 (by omega)]; unfold stF; rw [if_neg (by omega), if_neg (by omega)]
theorem st_frozen {w : World} {b : Nat} {s : Sha.St} {bs : Nat → UInt8} {m : Nat} (h : StateAt w b s bs m) (j : Nat) : w.frozen? ⟨b, j, none⟩ = false := Own.row_frozen h j
theorem st_lt {w : World} {b : Nat} {s : Sha.St} {bs : Nat → UInt8} {m : Nat} (h : StateAt w b s bs m) : b < w.heap.size := (Array.getElem?_eq_some_iff.1 h).1
def eight (bs : Nat → UInt8) (p : Nat) : List UInt8 := [bs p, bs (p + 1), bs (p + 2), bs (p + 3), bs (p + 4), bs (p + 5), bs (p + 6), bs (p + 7)]
theorem eight_get (bs : Nat → UInt8) (p j : Nat) (h : j < (eight bs p).length) : (eight bs p)[j] = bs (p + j) := by
 have h' : j < 8 := h
 rcases j with _ | _ | _ | _ | _ | _ | _ | _ | j
 all_goals first | rfl | omega
def blkOf (bs : Nat → UInt8) (j : Nat) : BitVec 64 := Sha.wordOf (eight bs (8 * j))
def wCell (b : Nat → BitVec 64) (k j : Nat) : Value := if j < k then .int .u64 (un (Sha.W b j)) else .int .u64 0
theorem wRow_step (b : Nat → BitVec 64) (k : Nat) (v : Value) (hv : v = .int .u64 (un (Sha.W b k))) : Own.mkRow 80 (fun j => if j = k then v else wCell b k j) = Own.mkRow 80 (wCell b (k + 1)) := by
 refine Own.mkRow_congr (fun j hj => ?_)
 by_cases e : j = k
 ·rw [if_pos e, hv, e]; unfold wCell; rw [if_pos (by omega)]
 ·rw [if_neg e]; unfold wCell
  by_cases h : j < k
  ·rw [if_pos h, if_pos (by omega)]
  ·rw [if_neg h, if_neg (by omega)]
theorem wCell_lt (b : Nat → BitVec 64) (k j : Nat) (h : j < k) : wCell b k j = .int .u64 (un (Sha.W b j)) := by unfold wCell; rw [if_pos h]
theorem wCell_ge (b : Nat → BitVec 64) (k j : Nat) (h : k ≤ j) : wCell b k j = .int .u64 0 := by unfold wCell; rw [if_neg (by omega)]
theorem Below.setRow_new (w : World) (g : Nat) (cs : Array Value) : Below g w (w.setRow g cs) :=
 ⟨rfl, rfl, rfl, by simp [World.setRow], fun k hk => by show (Array.modify _ _ _)[k]? = _; rw [Array.getElem?_modify, if_neg (by omega)]⟩
theorem slice128 (W : World) (b o l : Nat) (L : Int) (hL : L = (l : Int)) (hl : l < 128) :
  Sem.run Tryz.prog (Instr.sliceAt 268 (.pointer (some ⟨b, o, none⟩)) (some (.int .i64 L)) none none) W = .ok (.slice (some ⟨b, o + l, none⟩) (128 - l) (128 - l)) W := by
 subst hL
 have e1 : Tryz.prog.arrayLen 268 = 128 := by kernel_rfl
 have e2 : Tryz.prog.elem 268 = 5 := by kernel_rfl
 have h := run_sliceAt_array_l (P := Tryz.prog) W 268 ⟨b, o, none⟩ (by kernel_rfl) .i64 (l : Int) (by omega) (by rw [e1]; omega)
 obtain ⟨i, hi, _, hz1, _⟩ := info_parts info_u8
 rw [h, e1, e2]
 simp [sizeOf, typeInfo, hi, hz1, slicedAt, Result.andThen, Addr.add_mid]
 omega
set_option maxHeartbeats 1000000 in
set_option maxRecDepth 100000 in
theorem schedule_any (w : World) (b : Nat) (s : Sha.St) (bs : Nat → UInt8) (m : Nat) (hst : StateAt w b s bs m) :
  Calls Tryz.prog 271 #[.pointer (some ⟨b, 0, none⟩)] w fun e w' => e = .returned (.agg (Own.mkRow 80 (wCell (blkOf bs) 80))) ∧ Below w.heap.size w w' := by
 have HS : Hid _ := hst
 have hbl := st_lt hst
 clear hst
 go_enter Tryz.func271, Tryz.ntmps271
 go_wp2_with (first
  | refine Own.wpList_alloc_at _ rfl 179 rfl (Own.zeros 80 (.int .u64 0)) (by kernel_rfl) ?_)
 go_loopw [6] (fun i wr => ∃ k : Nat, k ≤ 16 ∧ i = .int .i64 (k : Int) ∧ Below (w.heap.size + 1) (w.alloc (.cells (Own.zeros 80 (.int .u64 0)) 179)) wr ∧ wr.heap[w.heap.size + 1]? = some (.cells (Own.mkRow 80 (wCell (blkOf bs) k)) 179 (0, 0))) (fun i _ => 16 - (intOf i).toNat)
 case atStart =>
  exact ⟨0, by omega, rfl, (Below.refl _ _).alloc (by simp) _, by
   have := heap_alloc_new (w.alloc (.cells (Own.zeros 80 (.int .u64 0)) 179)) (.cells (Own.zeros 80 (.int .u64 0)) 179)
   simp only [World.size_alloc] at this
   rw [this]; rfl⟩
 case round =>
  obtain ⟨k, hk, rfl, hb2, hr2⟩ := hrel
  have HB2 : Hid _ := hb2
  have HR2 : Hid _ := hr2
  clear hb2 hr2
  have HS2 : Hid (StateAt wr b s bs m) := ((HB2.out.block b (by omega)).trans (Below.heap_alloc _ _ _ hbl)).trans HS.out
  by_cases hk16 : k < 16
  ·have hfz := Own.row_frozen HR2.out k
   have hck := Own.row_cell HR2.out k (by omega)
   rw [wCell_ge _ _ _ (Nat.le_refl _)] at hck
   have hsl := fun W => slice128 W b 8 (8 * k) (8 * (k : Int)) (by omega) (by omega)
   go_wp2_with (first
    | (go_at_call 288; refine (word_any _ _ _ _ _ (eight bs (8 * k)) rfl (by omega) (by omega) (by omega) (fun j hj => by rw [eight_get, Nat.add_assoc]; exact st_byte HS2.out _ (by have : j < 8 := hj; omega))).mono ?_; rintro e w' ⟨rfl, rfl⟩))
   exact ⟨⟨k + 1, by omega, by go_num, HB2.out.setCell (Nat.le_refl _) _, by rw [Own.row_store HR2.out, wRow_step _ k _ (by rw [Sha.W_low _ _ hk16]; rfl)]⟩, by simp [intOf]; omega⟩
  ·obtain rfl : k = 16 := by omega
   go_wp2_with fail
   go_loopw [5] (fun i wq => ∃ k : Nat, 16 ≤ k ∧ k ≤ 80 ∧ i = .int .i64 (k : Int) ∧ Below (w.heap.size + 1) (w.alloc (.cells (Own.zeros 80 (.int .u64 0)) 179)) wq ∧ wq.heap[w.heap.size + 1]? = some (.cells (Own.mkRow 80 (wCell (blkOf bs) k)) 179 (0, 0))) (fun i _ => 80 - (intOf i).toNat)
   case atStart => exact ⟨16, by omega, by omega, rfl, HB2.out, HR2.out⟩
   case round =>
    clear HB2 HR2 HS2 hk16 hk
    rename World => wc
    obtain ⟨k, hk16, hk, rfl, hb2, hr2⟩ := hrel
    have HB2 : Hid _ := hb2
    have HR2 : Hid _ := hr2
    clear hb2 hr2
    by_cases hk80 : k < 80
    ·have hfz := Own.row_frozen HR2.out k
     have hck := Own.row_cell HR2.out k (by omega)
     rw [wCell_ge _ _ _ (Nat.le_refl _)] at hck
     have hr15 := Own.row_cell HR2.out (k - 15) (by omega)
     rw [wCell_lt _ k (k - 15) (by omega)] at hr15
     have hr2 := Own.row_cell HR2.out (k - 2) (by omega)
     rw [wCell_lt _ k (k - 2) (by omega)] at hr2
     have hr7 := Own.row_cell HR2.out (k - 7) (by omega)
     rw [wCell_lt _ k (k - 7) (by omega)] at hr7
     have hr16 := Own.row_cell HR2.out (k - 16) (by omega)
     rw [wCell_lt _ k (k - 16) (by omega)] at hr16
     have hw2 : IntKind.i64.wrap ((k : Int) - 2) = (k : Int) - 2 := IntWalk.i64_in _ (by omega)
     have hw7 : IntKind.i64.wrap ((k : Int) - 7) = (k : Int) - 7 := IntWalk.i64_in _ (by omega)
     have hw15 : IntKind.i64.wrap ((k : Int) - 15) = (k : Int) - 15 := IntWalk.i64_in _ (by omega)
     have hw16 : IntKind.i64.wrap ((k : Int) - 16) = (k : Int) - 16 := IntWalk.i64_in _ (by omega)
     have ht2 : ((k : Int) - 2).toNat = k - 2 := by omega
     have ht7 : ((k : Int) - 7).toNat = k - 7 := by omega
     have ht15 : ((k : Int) - 15).toNat = k - 15 := by omega
     have ht16 : ((k : Int) - 16).toNat = k - 16 := by omega
     have hi2 : (2 : Int) ≤ (k : Int) := by omega
     have hj2 : (k : Int) - 2 < 80 := by omega
     have hi7 : (7 : Int) ≤ (k : Int) := by omega
     have hj7 : (k : Int) - 7 < 80 := by omega
     have hi15 : (15 : Int) ≤ (k : Int) := by omega
     have hj15 : (k : Int) - 15 < 80 := by omega
     have hi16 : (16 : Int) ≤ (k : Int) := by omega
     have hj16 : (k : Int) - 16 < 80 := by omega
     go_wp2_with fail
     refine wp_region_still_tail 23 (by kernel_rfl) (by kernel_rfl) ?_
     simp only [List.take_succ_cons, List.take_zero, List.drop_succ_cons, List.drop_zero]
     repeat (first | still_step | still_call (spreadLate_any _ _) | still_call (spreadEarly_any _ _))
     refine wpStill_nil ?_
     go_wp2_with fail
     go_roundw
     case rel =>
      (repeat apply Exists.intro)
      refine ⟨⟨k + 1, by omega, by omega, by go_num, ?_, ?_⟩, rfl⟩
      ·first | exact (HB2.out.setCell (Nat.le_refl _) _).drew | exact HB2.out.drew.setCell (Nat.le_refl _) _
      ·first | rw [heap_drew, Own.row_store HR2.out, wRow_step _ k _ (by rw [Sha.W_high _ _ hk16])] | rw [Own.row_store (w := wc.drew) HR2.out, wRow_step _ k _ (by rw [Sha.W_high _ _ hk16])]
     case measure => simp [intOf]; omega
    ·obtain rfl : k = 80 := by omega
     go_wp2_with (first
      | refine wpList_load_row rfl 179 _ rfl (w.heap.size + 1) rfl 179 (Own.mkRow 80 (wCell (blkOf bs) 80)) (0, 0) _ HR2.out Tryz.underlying179 rfl (by kernel_rfl) ?_
      | refine wpList_store_row rfl 179 _ _ rfl w.heap.size (Own.mkRow 80 (wCell (blkOf bs) 80)) rfl rfl 179 (Own.zeros 80 (.int .u64 0)) ((HB2.out.block _ (by omega)).trans (heap_alloc_new _ _)) (by kernel_rfl) (by kernel_rfl) (Own.all_one fun j hj => by rw [wCell_lt _ _ _ hj]; rfl) ?_)
     refine Own.ret_row Tryz.results271 rfl w.heap.size 179 _ (0, 0) _ rfl (setRow_heap _ _ _ _ _ _ ((HB2.out.block _ (by omega)).trans (heap_alloc_new _ _))) Tryz.underlying179 rfl (by kernel_rfl) ⟨rfl, ?_⟩
     exact (((Below.refl _ _).alloc (Nat.le_refl _) _).trans (HB2.out.mono (by omega))).trans (Below.setRow_new _ _ _)
end Hs
end Go.Proofs.YtbojijefenfbgaaGreatDoor
