/- Walks of the document's own reckoning: mul. The document's numbers as elements of F; power. -/
import Derived.Test.YtbojijefenfbgaaGreatDoorGgDocD
import Derived.Test.YtbojijefenfbgaaGreatDoorGgQRel
import Derived.Test.YtbojijefenfbgaaGreatDoorGgExt
namespace Go.Proofs.YtbojijefenfbgaaGreatDoor
open Go.RowKit
namespace Dc
open Bt
theorem wrap64 {x : Int} (h1 : -9223372036854775808 ≤ x) (h2 : x ≤ 9223372036854775807) : IntKind.i64.wrap x = x := IntWalk.i64_in x ⟨h1, h2⟩
def num2 (f : Nat → Int) : Array Value := Own.mkRow 32 fun j => .int .i64 (f j)
theorem zed_num2 : num2 (fun _ => 0) = (List.replicate 32 (Value.int .i64 0)).toArray := (Own.mkRow_list _ 32 (by simp) _ fun j hj => (List.getElem_replicate (h := hj)).symm).symm
theorem num2_cell {w : World} {b : Nat} {f : Nat → Int} {t : TypeId} (h : w.heap[b]? = some (.cells (num2 f) t (0, 0))) (j : Nat) (hj : j < 32) : w.cell? ⟨b, j, none⟩ = some (.int .i64 (f j)) := Own.row_cell h j hj
theorem num2_frozen {w : World} {b : Nat} {f : Nat → Int} {t : TypeId} (h : w.heap[b]? = some (.cells (num2 f) t (0, 0))) (j : Nat) : w.frozen? ⟨b, j, none⟩ = false := Own.row_frozen h j
theorem num2_store {w : World} {b : Nat} {f : Nat → Int} {t : TypeId} (h : w.heap[b]? = some (.cells (num2 f) t (0, 0))) (i : Nat) (v : Int) : (w.setCell ⟨b, i, none⟩ (.int .i64 v)).heap[b]? = some (.cells (num2 fun j => if j = i then v else f j) t (0, 0)) := by
 refine (Own.row_store h i _).trans (congrArg (fun r => some (Obj.cells r t (0, 0))) (Own.mkRow_congr fun j _ => ?_))
 by_cases e : j = i
 ·show _ = Value.int .i64 (if j = i then v else f j)
  rw [if_pos e, if_pos e]
 ·show _ = Value.int .i64 (if j = i then v else f j)
  rw [if_neg e, if_neg e]
theorem l_alloc2 (w : World) {ops : Array Oper} {rest : List Oper} {o : Oper} {a : Act} {Q : Exit → Act → World → Prop} (hg : o.guard = none) (hop : o.op = Op.alloc 260)
  (hK : wpList Tryz.prog ops Q rest (a.put o.dst (.pointer (some ⟨w.heap.size, 0, none⟩))) (w.alloc (.cells (num2 fun _ => 0) 260))) : wpList Tryz.prog ops Q (o :: rest) a w :=
 Own.wpList_alloc_at w hg 260 hop _ (by rw [zed_num2]; kernel_rfl) hK
def mRow (a b : Nat → Int) (i : Nat) (W : Nat → Int) : Nat → Nat → Int
 | 0 => W
 | k + 1 => fun j => if j = i + k then mRow a b i W k (i + k) + a i * b k else mRow a b i W k j
def mAll (a b : Nat → Int) : Nat → Nat → Int
 | 0 => fun _ => 0
 | i + 1 => mRow a b i (mAll a b i) 16
theorem mRow_vi (B : Int) (a b : Nat → Int) (i : Nat) (W : Nat → Int) (hi : i < 16) (k : Nat) (hk : k ≤ 16) : vi B (mRow a b i W k) 32 = vi B W 32 + a i * B ^ i * vi B b k := by
 induction k with
 | zero => simp [mRow, vi]
 | succ k ih =>
  rw [mRow, vi_set B (mRow a b i W k) (i + k) 32 _ (by omega), ih (by omega), show vi B b (k + 1) = vi B b k + b k * B ^ k from rfl, Int.mul_add, Int.pow_add]
  generalize B ^ i = p
  generalize B ^ k = q
  rw [show mRow a b i W k (i + k) + a i * b k - mRow a b i W k (i + k) = a i * b k by omega, show a i * b k * (p * q) = a i * p * (b k * q) by rw [Int.mul_assoc, Int.mul_assoc, Int.mul_left_comm (b k)]]
  omega
theorem mAll_vi (B : Int) (a b : Nat → Int) (i : Nat) (hi : i ≤ 16) : vi B (mAll a b i) 32 = vi B a i * vi B b 16 := by
 induction i with
 | zero =>
  show vi B (fun _ => 0) 32 = 0 * _
  rw [Int.zero_mul]
  have : ∀ n, vi B (fun _ => 0) n = 0 := fun n => by
   induction n with
   | zero => rfl
   | succ n ih => rw [vi, ih, Int.zero_mul]; rfl
  exact this 32
 | succ i ih =>
  rw [mAll, mRow_vi B a b i _ (by omega) 16 (Nat.le_refl _), ih (by omega), show vi B a (i + 1) = vi B a i + a i * B ^ i from rfl, Int.add_mul]
def Lo (c : Int) (W : Nat → Int) : Prop := ∀ j, 0 ≤ W j ∧ W j ≤ c * 4294967296
theorem prod_bd {x y : Int} (hx : 0 ≤ x ∧ x < 65536) (hy : 0 ≤ y ∧ y < 65536) : 0 ≤ x * y ∧ x * y ≤ 4294967296 := by
 refine ⟨Int.mul_nonneg hx.1 hy.1, ?_⟩
 have h1 := Int.mul_le_mul_of_nonneg_right (Int.le_of_lt hx.2) hy.1
 omega
theorem mRow_lo {a b : Nat → Int} (ha : ∀ j, 0 ≤ a j ∧ a j < 65536) (hb : ∀ j, 0 ≤ b j ∧ b j < 65536) {i : Nat} {W : Nat → Int} {c : Int} (hW : Lo c W) (k : Nat) : Lo (c + k) (mRow a b i W k) := by
 induction k with
 | zero => exact fun j => by rw [show c + ((0 : Nat) : Int) = c by omega]; exact hW j
 | succ k ih =>
  intro j
  have h1 := prod_bd (ha i) (hb k)
  have h2 := ih (i + k)
  have h3 := ih j
  show 0 ≤ (if j = i + k then mRow a b i W k (i + k) + a i * b k else mRow a b i W k j) ∧ (if j = i + k then mRow a b i W k (i + k) + a i * b k else mRow a b i W k j) ≤ _
  generalize a i * b k = x at *
  split <;> omega
theorem mAll_lo {a b : Nat → Int} (ha : ∀ j, 0 ≤ a j ∧ a j < 65536) (hb : ∀ j, 0 ≤ b j ∧ b j < 65536) (i : Nat) : Lo (16 * i) (mAll a b i) := by
 induction i with
 | zero => exact fun j => ⟨Int.le_refl _, by show (0 : Int) ≤ _; omega⟩
 | succ i ih =>
  have h := mRow_lo ha hb (i := i) ih 16
  intro j
  have := h j
  show 0 ≤ mRow a b i (mAll a b i) 16 j ∧ _
  refine ⟨this.1, ?_⟩
  rw [show mAll a b (i + 1) = mRow a b i (mAll a b i) 16 from rfl]
  omega
def mOut (W : Nat → Int) (k j : Nat) : Int := if j < k then W j + 38 * W (j + 16) else 0
theorem mOut_step (W : Nat → Int) (k j : Nat) : (if j = k then W k + 38 * W (k + 16) else mOut W k j) = mOut W (k + 1) j := by
 unfold mOut
 by_cases e : j = k
 ·subst e
  rw [if_pos rfl, if_pos (by omega)]
 ·rw [if_neg e]
  by_cases h : j < k
  ·rw [if_pos h, if_pos (by omega)]
  ·rw [if_neg h, if_neg (by omega)]
theorem mOut_vi (W : Nat → Int) : vi 65536 (mOut W 16) 16 % pI = vi 65536 W 32 % pI := by
 have h1 : vi 65536 (mOut W 16) 16 = vi 65536 W 16 + 38 * vi 65536 (fun j => W (16 + j)) 16 := by
  rw [← vi_mul, ← vi_add]
  refine vi_congr fun j hj => ?_
  show (if j < 16 then W j + 38 * W (j + 16) else 0) = _
  rw [if_pos hj, Nat.add_comm j 16]
 rw [h1, show (32 : Nat) = 16 + 16 from rfl, vi_more]
 generalize vi 65536 W 16 = x
 generalize vi 65536 (fun j => W (16 + j)) 16 = y
 rw [show x + 65536 ^ 16 * y = (x + 38 * y) + pI * (2 * y) by rw [show (65536 : Int) ^ 16 = pI * 2 + 38 from by decide]; generalize pI = p; rw [Int.add_mul, ← Int.mul_assoc]; omega, Int.add_mul_emod_self_left]
set_option maxRecDepth 100000 in
set_option maxHeartbeats 400000 in
theorem mul_i (n m : Int) (hn : 0 ≤ n ∧ n < 65536 ^ 16) (hm : 0 ≤ m ∧ m < 65536 ^ 16) (w : World) : Calls Tryz.prog 93 #[.agg (nm n), .agg (nm m)] w fun e w' => e = .returned (.agg (nm ((n * m) % pI))) ∧ Below w.heap.size w w' := by
 obtain ⟨r, hR⟩ : ∃ r, num r = nm ((n * m) % pI) := ⟨_, rfl⟩
 have Hset : Hid (∀ w, Calls Tryz.prog 98 #[.agg (num (mOut (mAll (dg n) (dg m) 16) 16))] w fun e w' => e = .returned (.agg (num r)) ∧ Below w.heap.size w w') := by
  have e : vi 65536 (mOut (mAll (dg n) (dg m) 16) 16) 16 % pI = (n * m) % pI := by
   rw [mOut_vi, mAll_vi _ _ _ _ (Nat.le_refl _), vi_dg hn, vi_dg hm]
  rw [hR, ← e]
  refine settled_f _ fun j hj => ?_
  have hl := mAll_lo (dg_bd n) (dg_bd m) 16
  have h1 := hl j
  have h2 := hl (j + 16)
  unfold mOut
  rw [if_pos hj]
  omega
 rw [← hR]
 clear hR hn hm
 go_enter Tryz.func93, Tryz.ntmps93
 go_wp2_with (first | refine l_alloc _ rfl rfl ?_ | refine l_alloc2 _ rfl rfl ?_)
 generalize hw0 : World.alloc _ _ = w0
 obtain ⟨g, hg⟩ : ∃ g, g = w.heap.size := ⟨_, rfl⟩
 have h0 := al4 hw0
 rw [← hg] at h0 ⊢
 have HA0 : Hid _ := h0.1
 have HM0 : Hid _ := h0.2.1
 have HR0 : Hid _ := h0.2.2.1
 have HW0 : Hid _ := h0.2.2.2.1
 have HB0 : Hid _ := h0.2.2.2.2
 have HG : Hid (w.heap.size ≤ g) := Nat.le_of_eq hg.symm
 clear hg hw0 h0
 go_loopw [6] (fun i wq => ∃ k : Nat, k ≤ 16 ∧ i = .int .i64 (k : Int) ∧ wq.heap[g]? = some (.cells (nm n) 95 (0, 0)) ∧ wq.heap[g + 1]? = some (.cells (nm m) 95 (0, 0)) ∧ wq.heap[g + 1 + 1]? = some (.cells (num fun _ => 0) 95 (0, 0)) ∧ wq.heap[g + 1 + 1 + 1]? = some (.cells (num2 (mAll (dg n) (dg m) k)) 260 (0, 0)) ∧ Below g w wq) (fun i _ => 16 - (intOf i).toNat)
 case atStart => exact ⟨0, by omega, rfl, HA0.out, HM0.out, HR0.out, HW0.out, HB0.out⟩
 case round =>
  clear HA0 HM0 HR0 HB0 HW0
  rename World => wa
  obtain ⟨i, hi, rfl, ha, hm, hr, hp, hb⟩ := hrel
  have HA : Hid _ := ha
  have HM : Hid _ := hm
  have HR : Hid _ := hr
  have HW : Hid _ := hp
  have HB : Hid _ := hb
  clear ha hm hr hb hp
  by_cases hi16 : i < 16
  ·go_wp2_with fail
   have HL : Hid (Lo (16 * i) (mAll (dg n) (dg m) i)) := mAll_lo (dg_bd n) (dg_bd m) i
   go_loopw [7] (fun x wq => ∃ k : Nat, k ≤ 16 ∧ x = .int .i64 (k : Int) ∧ wq.heap[g]? = some (.cells (nm n) 95 (0, 0)) ∧ wq.heap[g + 1]? = some (.cells (nm m) 95 (0, 0)) ∧ wq.heap[g + 1 + 1]? = some (.cells (num fun _ => 0) 95 (0, 0)) ∧ wq.heap[g + 1 + 1 + 1]? = some (.cells (num2 (mRow (dg n) (dg m) i (mAll (dg n) (dg m) i) k)) 260 (0, 0)) ∧ Below g w wq) (fun x _ => 16 - (intOf x).toNat)
   case atStart => exact ⟨0, by omega, rfl, HA.out, HM.out, HR.out, HW.out, HB.out⟩
   case round =>
    clear HA HM HR HB HW
    rename World => wa
    obtain ⟨k, hk, rfl, ha, hm, hr, hp, hb⟩ := hrel
    have HA : Hid _ := ha
    have HM : Hid _ := hm
    have HR : Hid _ := hr
    have HW : Hid _ := hp
    have HB : Hid _ := hb
    clear ha hm hr hb hp
    by_cases hk16 : k < 16
    ·have hc1 : wa.cell? ⟨g, i, none⟩ = some (.int .i64 (dg n i)) := num_cell HA.out i hi16
     have hc2 : wa.cell? ⟨g + 1, k, none⟩ = some (.int .i64 (dg m k)) := num_cell HM.out k hk16
     have hc3 := num2_cell HW.out (i + k) (by omega)
     have hfz := num2_frozen HW.out (i + k)
     have hbU := dg_bd n i
     have hbM := dg_bd m k
     have hpr := prod_bd hbU hbM
     have hbW := mRow_lo (dg_bd n) (dg_bd m) (i := i) HL.out k (i + k)
     have Hs : Hid ((fun j => if j = i + k then mRow (dg n) (dg m) i (mAll (dg n) (dg m) i) k (i + k) + dg n i * dg m k else mRow (dg n) (dg m) i (mAll (dg n) (dg m) i) k j) = mRow (dg n) (dg m) i (mAll (dg n) (dg m) i) (k + 1)) := rfl
     generalize dg n i = u at *
     generalize dg m k = v at *
     generalize mRow (dg n) (dg m) i (mAll (dg n) (dg m) i) k (i + k) = z at *
     obtain ⟨p, hp⟩ : ∃ p, p = i + k := ⟨_, rfl⟩
     rw [← hp] at hc3 hfz Hs
     have hp32 : p < 32 := by omega
     have hwp : IntKind.i64.wrap ((i : Int) + (k : Int)) = (p : Int) := by rw [hp, Int.natCast_add]; exact wrap64 (by omega) (by omega)
     have hwm : IntKind.i64.wrap (u * v) = u * v := wrap64 (by omega) (by omega)
     have hws : IntKind.i64.wrap (z + u * v) = z + u * v := wrap64 (by omega) (by omega)
     clear hp hpr hbW hbU hbM
     go_wp2_with fail
     refine Qt.wp_lit_tail 17 (by kernel_rfl) (by kernel_rfl) ?_
     simp only [List.take_succ_cons, List.take_zero, List.drop_succ_cons, List.drop_zero]
     repeat (first | go_big_quiet_step (fail) | quiet_step (fail))
     refine wpQuiet_nil ?_
     intro _ hw'
     obtain ⟨nq, hw''⟩ := hw'
     subst hw''
     go_wp2_with fail
     refine ⟨⟨k + 1, by omega, by rw [Int.natCast_add]; rfl, ?_, ?_, ?_, ?_, ?_⟩, ?_⟩
     ·exact (Below.heap_setCell _ _ _ g (by show g ≠ g + 1 + 1 + 1; omega)).trans HA.out
     ·exact (Below.heap_setCell _ _ _ (g + 1) (by show g + 1 ≠ g + 1 + 1 + 1; omega)).trans HM.out
     ·exact (Below.heap_setCell _ _ _ (g + 1 + 1) (by show g + 1 + 1 ≠ g + 1 + 1 + 1; omega)).trans HR.out
     ·refine (num2_store (w := wa.drewN nq) HW.out p _).trans ?_
      rw [Hs.out]
     ·exact below_cell (HB.out.trans (Fw.below_drewN _ _ _)) _ _ (by omega) _
     ·show 16 - ((k : Int) + 1).toNat < 16 - (k : Int).toNat
      omega
    ·obtain rfl : k = 16 := by omega
     have HW1 : Hid (wa.heap[g + 1 + 1 + 1]? = some (.cells (num2 (mAll (dg n) (dg m) (i + 1))) 260 (0, 0))) := HW.out
     clear HW HL
     go_wp2_with fail
     refine ⟨⟨i + 1, by omega, by rw [Int.natCast_add]; rfl, HA.out, HM.out, HR.out, HW1.out, HB.out⟩, ?_⟩
     show 16 - ((i : Int) + 1).toNat < 16 - (i : Int).toNat
     omega
  ·obtain rfl : i = 16 := by omega
   have HL : Hid (Lo (16 * (16 : Nat)) (mAll (dg n) (dg m) 16)) := mAll_lo (dg_bd n) (dg_bd m) 16
   generalize mAll (dg n) (dg m) 16 = W at *
   obtain ⟨go, hgo⟩ : ∃ x, x = wa.heap.size := ⟨_, rfl⟩
   have hgl : g + 1 + 1 + 1 < go := by
    rw [hgo]
    exact (Array.getElem?_eq_some_iff.1 HW.out).1
   go_wp2_with (refine l_alloc _ rfl rfl ?_)
   generalize hw0 : World.alloc _ _ = w2
   have h0 := al1 hw0
   rw [← hgo] at h0 ⊢
   have HO2 : Hid (w2.heap[go]? = some (.cells (num (mOut W 0)) 95 (0, 0))) := h0.1
   have HR2 : Hid (w2.heap[g + 1 + 1]? = _) := (h0.2.block _ (by omega)).trans HR.out
   have HW2 : Hid (w2.heap[g + 1 + 1 + 1]? = _) := (h0.2.block _ (by omega)).trans HW.out
   have HB2 : Hid (Below g w w2) := HB.out.trans (h0.2.mono (by omega))
   clear hgo hw0 h0 HA HM HR HW HB
   go_loopw [9] (fun x wq => ∃ k : Nat, k ≤ 16 ∧ x = .int .i64 (k : Int) ∧ wq.heap[g + 1 + 1]? = some (.cells (num fun _ => 0) 95 (0, 0)) ∧ wq.heap[g + 1 + 1 + 1]? = some (.cells (num2 W) 260 (0, 0)) ∧ wq.heap[go]? = some (.cells (num (mOut W k)) 95 (0, 0)) ∧ Below g w wq) (fun x _ => 16 - (intOf x).toNat)
   case atStart => exact ⟨0, by omega, rfl, HR2.out, HW2.out, HO2.out, HB2.out⟩
   case round =>
    clear HR2 HW2 HO2 HB2
    rename World => wa
    obtain ⟨k, hk, rfl, hr, hp, ho, hb⟩ := hrel
    have HR : Hid _ := hr
    have HW : Hid _ := hp
    have HO : Hid _ := ho
    have HB : Hid _ := hb
    clear hr hb hp ho
    by_cases hk16 : k < 16
    ·have hc1 := num2_cell HW.out k (by omega)
     have hc2 := num2_cell HW.out (k + 16) (by omega)
     have hc3 := num_cell HO.out k hk16
     have hfz := num_frozen HO.out k
     have hl1 := HL.out k
     have hl2 := HL.out (k + 16)
     have Hs : Hid (∀ j, (if j = k then W k + 38 * W (k + 16) else mOut W k j) = mOut W (k + 1) j) := mOut_step W k
     generalize W k = u at *
     generalize W (k + 16) = v at *
     obtain ⟨p, hp⟩ : ∃ p, p = k + 16 := ⟨_, rfl⟩
     rw [← hp] at hc2
     have hp32 : p < 32 := by omega
     have hwp : IntKind.i64.wrap ((k : Int) + 16) = (p : Int) := by rw [hp, Int.natCast_add]; exact wrap64 (by omega) (by omega)
     have hwm : IntKind.i64.wrap (38 * v) = 38 * v := wrap64 (by omega) (by omega)
     have hws : IntKind.i64.wrap (u + 38 * v) = u + 38 * v := wrap64 (by omega) (by omega)
     clear hp hl1 hl2
     go_wp2_with fail
     refine Qt.wp_lit_tail 11 (by kernel_rfl) (by kernel_rfl) ?_
     simp only [List.take_succ_cons, List.take_zero, List.drop_succ_cons, List.drop_zero]
     repeat (first | go_big_quiet_step (fail) | quiet_step (fail))
     refine wpQuiet_nil ?_
     intro _ hw'
     obtain ⟨nq, hw''⟩ := hw'
     subst hw''
     go_wp2_with fail
     refine ⟨⟨k + 1, by omega, by rw [Int.natCast_add]; rfl, ?_, ?_, ?_, ?_⟩, ?_⟩
     ·exact (Below.heap_setCell _ _ _ (g + 1 + 1) (by show g + 1 + 1 ≠ go; omega)).trans HR.out
     ·exact (Below.heap_setCell _ _ _ (g + 1 + 1 + 1) (by show g + 1 + 1 + 1 ≠ go; omega)).trans HW.out
     ·refine (num_store (w := wa.drewN nq) HO.out k _).trans ?_
      rw [num_congr]
      intro j _
      exact Hs.out j
     ·exact below_cell (HB.out.trans (Fw.below_drewN _ _ _)) _ _ (by omega) _
     ·show 16 - ((k : Int) + 1).toNat < 16 - (k : Int).toNat
      omega
    ·obtain rfl : k = 16 := by omega
     go_wp2_with (refine l_load rfl _ rfl go _ rfl HO.out ?_)
     refine (Hset.out _).mono ?_
     rintro e w1 ⟨rfl, hb1⟩
     have HR1 : Hid (w1.heap[g + 1 + 1]? = some (.cells (num fun _ => 0) 95 (0, 0))) := (hb1.block _ (Array.getElem?_eq_some_iff.1 HR.out).1).trans HR.out
     have HB1 : Hid (Below g w w1) := HB.out.trans (hb1.mono (by have := (Array.getElem?_eq_some_iff.1 HR.out).1; omega))
     clear hb1
     go_wp2_with (refine l_store rfl _ _ rfl (g + 1 + 1) _ _ rfl rfl HR1.out ?_)
     exact Own.ret_row Tryz.results93 rfl (g + 1 + 1) 95 _ (0, 0) _ rfl (setRow_heap _ _ _ _ _ _ HR1.out) Tryz.underlying95 rfl (by rw [num_size]; kernel_rfl) ⟨rfl, (HB1.out.trans ((Fw.below_setRow _ _ _).mono (by omega))).mono HG.out⟩
end Dc
end Go.Proofs.YtbojijefenfbgaaGreatDoor
namespace Go.Proofs.YtbojijefenfbgaaGreatDoor
open Go.RowKit
namespace Dc
open Bt Ed
theorem rn_ex : ∃ f : F → Array Value, ∀ x : F, f x = nm (x.val : Int) := ⟨fun x => nm (x.val : Int), fun _ => rfl⟩
noncomputable def rn : F → Array Value := Classical.choose rn_ex
theorem rn_def (x : F) : rn x = nm (x.val : Int) := Classical.choose_spec rn_ex x
theorem rn_size (x : F) : (rn x).size = 16 := by rw [rn_def]; exact num_size _
theorem rn_one (x : F) : (rn x).all (·.oneCell') = true := by rw [rn_def]; exact num_one _
theorem pI_P : pI = (P : Int) := rfl
theorem val_bd (x : F) : 0 ≤ (x.val : Int) ∧ (x.val : Int) < 65536 ^ 16 := ⟨Int.natCast_nonneg _, Int.lt_trans (show (x.val : Int) < pI by rw [pI_P]; exact Int.ofNat_lt.2 x.isLt) pI_1⟩
theorem add_val (x y : F) : ((x.val : Int) + y.val) % pI = ((x + y).val : Int) := by
 rw [pI_P, ← Int.natCast_add, ← Int.natCast_emod]; rfl
theorem mul_val (x y : F) : ((x.val : Int) * y.val) % pI = ((x * y).val : Int) := by
 rw [pI_P, ← Int.natCast_mul, ← Int.natCast_emod]; rfl
theorem sub_val (x y : F) : ((x.val : Int) - y.val) % pI = ((x - y).val : Int) := by
 have h : ((x - y).val : Int) = (((P - y.val + x.val) % P : Nat) : Int) := rfl
 rw [h, pI_P, Int.natCast_emod, Int.natCast_add, Int.natCast_sub (Nat.le_of_lt y.isLt)]
 rw [show (P : Int) - (y.val : Int) + (x.val : Int) = ((x.val : Int) - y.val) + (P : Int) * 1 by omega, Int.add_mul_emod_self_left]
theorem add_d (x y : F) (w : World) : Calls Tryz.prog 94 #[.agg (rn x), .agg (rn y)] w fun e w' => e = .returned (.agg (rn (x + y))) ∧ Below w.heap.size w w' := by
 have h := add_i x.val y.val (val_bd x) (val_bd y) w
 rw [add_val, ← rn_def, ← rn_def, ← rn_def] at h
 exact h
theorem sub_d (x y : F) (w : World) : Calls Tryz.prog 42 #[.agg (rn x), .agg (rn y)] w fun e w' => e = .returned (.agg (rn (x - y))) ∧ Below w.heap.size w w' := by
 have h := sub_i x.val y.val (val_bd x) (val_bd y) w
 rw [sub_val, ← rn_def, ← rn_def, ← rn_def] at h
 exact h
theorem mul_d (x y : F) (w : World) : Calls Tryz.prog 93 #[.agg (rn x), .agg (rn y)] w fun e w' => e = .returned (.agg (rn (x * y))) ∧ Below w.heap.size w w' := by
 have h := mul_i x.val y.val (val_bd x) (val_bd y) w
 rw [mul_val, ← rn_def, ← rn_def, ← rn_def] at h
 exact h
theorem small_d (n : Nat) (hn : n < 65536) (w : World) : Calls Tryz.prog 43 #[.int .i64 (n : Int)] w fun e w' => e = .returned (.agg (rn (Fin.ofNat P n))) ∧ Below w.heap.size w w' := by
 have h := small_f n (by omega) (by omega) w
 rw [rn_def, show ((Fin.ofNat P n).val : Int) = (n : Int) by show ((n % P : Nat) : Int) = _; rw [Nat.mod_eq_of_lt (Nat.lt_trans hn (by decide))]]
 exact h
def RAt (w : World) (b : Nat) (x : F) : Prop := w.heap[b]? = some (.cells (rn x) 95 (0, 0))
theorem RAt.lt {w : World} {b : Nat} {x : F} (h : RAt w b x) : b < w.heap.size := (Array.getElem?_eq_some_iff.1 h).1
theorem RAt.below {w w' : World} {b B : Nat} {x : F} (h : RAt w b x) (hb : Below B w w') (hlt : b < B) : RAt w' b x := (hb.block b hlt).trans h
theorem RAt.setRow {w : World} {b : Nat} {old : Array Value} (h : w.heap[b]? = some (.cells old 95 (0, 0))) (x : F) : RAt (w.setRow b (rn x)) b x := setRow_heap _ _ _ _ _ _ h
theorem load_r {ops : Array Oper} {rest : List Oper} {o : Oper} {a : Act} {w : World} {Q : Exit → Act → World → Prop} (hg : o.guard = none) (x : Operand) (ho : o.op = .load 95 x) (b : Nat) (v : F) (hx : a.eval x = .pointer (some ⟨b, 0, none⟩)) (hb : RAt w b v)
  (h : wpList Tryz.prog ops Q rest (a.put o.dst (.agg (rn v))) w) : wpList Tryz.prog ops Q (o :: rest) a w :=
 wpList_load_row hg 95 x ho b hx 95 (rn v) (0, 0) _ hb Tryz.underlying95 rfl (by rw [rn_size]; kernel_rfl) h
theorem store_r {ops : Array Oper} {rest : List Oper} {o : Oper} {a : Act} {w : World} {Q : Exit → Act → World → Prop} (hg : o.guard = none) (x y : Operand) (ho : o.op = .store 95 x y) (b : Nat) (v : F) (old : Array Value) (hs : old.size = 16) (hx : a.eval x = .pointer (some ⟨b, 0, none⟩)) (hy : a.eval y = .agg (rn v)) (hb : w.heap[b]? = some (.cells old 95 (0, 0)))
  (h : wpList Tryz.prog ops Q rest (a.put o.dst undef) (w.setRow b (rn v))) : wpList Tryz.prog ops Q (o :: rest) a w :=
 wpList_store_row hg 95 x y ho b (rn v) hx hy 95 old hb (by rw [rn_size]; kernel_rfl) (by rw [rn_size, hs]) (rn_one v) h
theorem new_r {ops : Array Oper} {rest : List Oper} {o : Oper} {a : Act} {w : World} {Q : Exit → Act → World → Prop} (hgd : o.guard = none) (x y : Operand) (ho : o.op = .store 95 x y) (g : Nat → Int) (v : F)
  (hx : a.eval x = .pointer (some ⟨w.heap.size, 0, none⟩)) (hy : a.eval y = .agg (rn v))
  (h : wpList Tryz.prog ops Q rest (a.put o.dst undef) (w.alloc (.cells (rn v) 95))) : wpList Tryz.prog ops Q (o :: rest) a (w.alloc (.cells (num g) 95)) :=
 Own.wpList_store_new hgd 95 x y ho (num g) (rn v) 95 hx hy (by rw [rn_size]; kernel_rfl) (by rw [num_size, rn_size]) (rn_one v) h
theorem ret_r {fn : Func} {p : Tmp} (h : fn.results = #[.cell p 95]) {post : Ending → World → Prop} {a : Act} {w : World} (hd : a.defers = []) (g : Nat) (v : F) (hp : a.tmps.getD p undef = .pointer (some ⟨g, 0, none⟩)) (hg : RAt w g v) (hpost : post (.returned (.agg (rn v))) w) : bodyPost Tryz.prog fn post .ret a w :=
 Own.ret_row h hd g 95 (rn v) (0, 0) _ hp hg Tryz.underlying95 rfl (by rw [rn_size]; kernel_rfl) hpost
theorem bit_low (x r : Nat) (hr : r < 16) : x % 65536 / 2 ^ r % 2 = x / 2 ^ r % 2 := by
 rcases r with _ | _ | _ | _ | _ | _ | _ | _ | _ | _ | _ | _ | _ | _ | _ | _ | r
 all_goals first | omega | simp only [Nat.reduceAdd, Nat.reducePow]; omega
theorem bit_eq (N i : Nat) : dg (N : Int) (i / 16) / 2 ^ (i % 16) % 2 = ((N / 2 ^ i % 2 : Nat) : Int) := by
 have h1 : N / 65536 ^ (i / 16) % 65536 / 2 ^ (i % 16) % 2 = N / 2 ^ i % 2 := by
  rw [bit_low _ _ (Nat.mod_lt _ (by decide)), Nat.div_div_eq_div_mul, show (65536 : Nat) = 2 ^ 16 from rfl, ← Nat.pow_mul, ← Nat.pow_add, Nat.div_add_mod]
 rw [← h1]
 unfold dg
 rw [Int.natCast_emod, Int.natCast_ediv, Int.natCast_emod, Int.natCast_ediv, Int.natCast_pow, Int.natCast_pow]
 rfl
theorem half_eq (N k : Nat) : N / 2 ^ k = 2 * (N / 2 ^ (k + 1)) + N / 2 ^ k % 2 := by
 rw [Nat.pow_succ, ← Nat.div_div_eq_div_mul]
 omega
theorem fpow_dbl (x : F) (n : Nat) : fpow x n * fpow x n = fpow x (2 * n) := by rw [← fpow_add, Nat.two_mul]
set_option maxRecDepth 100000 in
set_option maxHeartbeats 400000 in
theorem power_d (x : F) (N : Nat) (hN : N < 2 ^ 255) (w : World) : Calls Tryz.prog 164 #[.agg (rn x), .agg (nm (N : Int))] w fun e w' => e = .returned (.agg (rn (fpow x N))) ∧ Below w.heap.size w w' := by
 have Hsm : Hid (∀ w, Calls Tryz.prog 43 #[.int .i64 1] w fun e w' => e = .returned (.agg (rn (fpow x (N / 2 ^ 255)))) ∧ Below w.heap.size w w') := by
  rw [Nat.div_eq_of_lt hN, fpow_zero]
  exact small_d 1 (by decide)
 have Hmul : Hid (∀ x y w, Calls Tryz.prog 93 #[.agg (rn x), .agg (rn y)] w fun e w' => e = .returned (.agg (rn (x * y))) ∧ Below w.heap.size w w') := mul_d
 have Hend : Hid (fpow x (N / 2 ^ 0) = fpow x N) := by
  show _ = _
  rw [Nat.pow_zero, Nat.div_one]
 rw [← Hend.out]
 clear Hend hN
 go_enter Tryz.func164, Tryz.ntmps164
 go_wp2_with (refine l_alloc _ rfl rfl ?_)
 generalize hw0 : World.alloc _ _ = w0
 obtain ⟨g, hg⟩ : ∃ g, g = w.heap.size := ⟨_, rfl⟩
 have h0 := al3 hw0
 rw [← hg] at h0 ⊢
 have HA0 : Hid (RAt w0 g x) := h0.1
 have HE0 : Hid _ := h0.2.1
 have HR0 : Hid _ := h0.2.2.1
 have HB0 : Hid _ := h0.2.2.2
 have HG : Hid (w.heap.size ≤ g) := Nat.le_of_eq hg.symm
 clear hg hw0 h0
 refine (Hsm.out _).mono ?_
 rintro e w1 ⟨rfl, hb1⟩
 have HA1 : Hid (RAt w1 g x) := HA0.out.below hb1 HA0.out.lt
 have HE1 : Hid (w1.heap[g + 1]? = _) := (hb1.block _ (Array.getElem?_eq_some_iff.1 HE0.out).1).trans HE0.out
 have HR1 : Hid (w1.heap[g + 1 + 1]? = _) := (hb1.block _ (Array.getElem?_eq_some_iff.1 HR0.out).1).trans HR0.out
 have HB1 : Hid (Below g w w1) := HB0.out.trans (hb1.mono (Nat.le_of_lt HA0.out.lt))
 clear hb1 HA0 HE0 HR0 HB0 Hsm
 obtain ⟨go, hgo⟩ : ∃ x, x = w1.heap.size := ⟨_, rfl⟩
 have hgl : g + 1 + 1 < go := by
  rw [hgo]
  exact (Array.getElem?_eq_some_iff.1 HR1.out).1
 generalize hv : fpow x (N / 2 ^ 255) = v
 have Hv : Hid _ := hv
 clear hv
 go_wp2_with (first | refine l_alloc _ rfl rfl ?_ | refine new_r rfl _ _ rfl _ v rfl rfl ?_)
 generalize hw0 : World.alloc _ _ = w2
 have h0 := al1 hw0
 rw [← hgo] at h0 ⊢
 have HO2 : Hid (RAt w2 go (fpow x (N / 2 ^ 255))) := by rw [Hv.out]; exact h0.1
 have HA2 : Hid (RAt w2 g x) := HA1.out.below h0.2 (by omega)
 have HE2 : Hid (w2.heap[g + 1]? = _) := (h0.2.block _ (by omega)).trans HE1.out
 have HR2 : Hid (w2.heap[g + 1 + 1]? = _) := (h0.2.block _ (by omega)).trans HR1.out
 have HB2 : Hid (Below g w w2) := HB1.out.trans (h0.2.mono (by omega))
 clear hgo hw0 h0 HA1 HE1 HR1 HB1 Hv
 go_loopw [6] (fun i wq => ∃ k : Nat, k ≤ 255 ∧ i = .int .i64 ((k : Int) - 1) ∧ RAt wq g x ∧ wq.heap[g + 1]? = some (.cells (nm (N : Int)) 95 (0, 0)) ∧ wq.heap[g + 1 + 1]? = some (.cells (num fun _ => 0) 95 (0, 0)) ∧ RAt wq go (fpow x (N / 2 ^ k)) ∧ Below g w wq) (fun i _ => (intOf i + 1).toNat)
 case atStart => exact ⟨255, by omega, rfl, HA2.out, HE2.out, HR2.out, HO2.out, HB2.out⟩
 case round =>
  clear HA2 HE2 HR2 HO2 HB2
  rename World => wa
  obtain ⟨k, hk, rfl, ha, he, hr, ho, hb⟩ := hrel
  have HA : Hid (RAt wa g x) := ha
  have HE : Hid _ := he
  have HR : Hid _ := hr
  have HO : Hid (RAt wa go (fpow x (N / 2 ^ k))) := ho
  have HB : Hid _ := hb
  clear ha he hr ho hb
  by_cases hk0 : k = 0
  ·subst hk0
   obtain ⟨v, hv⟩ : ∃ v, v = fpow x (N / 2 ^ 0) := ⟨_, rfl⟩
   rw [← hv] at HO
   have Hv : Hid _ := hv
   clear hv
   go_wp2_with (first | refine load_r rfl _ rfl go v rfl HO.out ?_ | refine store_r rfl _ _ rfl (g + 1 + 1) v _ (num_size _) rfl rfl HR.out ?_)
   exact ret_r Tryz.results164 rfl (g + 1 + 1) v rfl (RAt.setRow HR.out v) ⟨by rw [Hv.out], (HB.out.trans ((Fw.below_setRow _ _ _).mono (by omega))).mono HG.out⟩
  ·obtain ⟨i, rfl⟩ : ∃ i, k = i + 1 := ⟨k - 1, by omega⟩
   have ei : ((i + 1 : Nat) : Int) - 1 = (i : Int) := by omega
   rw [ei]
   have Hd : Hid (fpow x (N / 2 ^ (i + 1)) * fpow x (N / 2 ^ (i + 1)) = fpow x (2 * (N / 2 ^ (i + 1)))) := fpow_dbl _ _
   obtain ⟨v, hv⟩ : ∃ v, v = fpow x (N / 2 ^ (i + 1)) := ⟨_, rfl⟩
   rw [← hv] at HO Hd
   clear hv
   go_wp2_with (refine load_r rfl _ rfl go v rfl HO.out ?_)
   refine (Hmul.out _ _ _).mono ?_
   rintro e w3 ⟨rfl, hb3⟩
   rw [Hd.out]
   have HA3 : Hid (RAt w3 g x) := HA.out.below hb3 HA.out.lt
   have HE3 : Hid (w3.heap[g + 1]? = _) := (hb3.block _ (Array.getElem?_eq_some_iff.1 HE.out).1).trans HE.out
   have HR3 : Hid (w3.heap[g + 1 + 1]? = _) := (hb3.block _ (Array.getElem?_eq_some_iff.1 HR.out).1).trans HR.out
   have HO3 : Hid (RAt w3 go v) := HO.out.below hb3 HO.out.lt
   have HB3 : Hid (Below g w w3) := HB.out.trans (hb3.mono (Nat.le_of_lt HA.out.lt))
   clear hb3 HA HE HR HO HB Hd
   obtain ⟨u, hu⟩ : ∃ u, u = fpow x (2 * (N / 2 ^ (i + 1))) := ⟨_, rfl⟩
   rw [← hu]
   have Hu : Hid _ := hu
   clear hu
   have HB4 : Hid (Below go w3 (w3.setRow go (rn u))) := Fw.below_setRow _ _ _
   have HA4 : Hid (RAt (w3.setRow go (rn u)) g x) := HA3.out.below HB4.out (by omega)
   have HE4 : Hid ((w3.setRow go (rn u)).heap[g + 1]? = _) := (HB4.out.block _ (by omega)).trans HE3.out
   have HR4 : Hid ((w3.setRow go (rn u)).heap[g + 1 + 1]? = _) := (HB4.out.block _ (by omega)).trans HR3.out
   have HO4 : Hid (RAt (w3.setRow go (rn u)) go u) := RAt.setRow HO3.out u
   have HC4 : Hid (Below g w (w3.setRow go (rn u))) := HB3.out.trans (HB4.out.mono (by omega))
   obtain ⟨w4, hw4⟩ : ∃ w4, w4 = w3.setRow go (rn u) := ⟨_, rfl⟩
   rw [← hw4] at HA4 HE4 HR4 HO4 HC4
   have Hw4 : Hid _ := hw4
   clear hw4 HB4 HA3 HE3 HR3 HB3
   have hc : w4.cell? ⟨g + 1, i / 16, none⟩ = some (.int .i64 (dg (N : Int) (i / 16))) := num_cell HE4.out (i / 16) (by omega)
   have hdb := dg_bd (N : Int) (i / 16)
   have hbit := bit_eq N i
   obtain ⟨d, hd⟩ : ∃ d, d = dg (N : Int) (i / 16) := ⟨_, rfl⟩
   rw [← hd] at hc hdb hbit
   clear hd
   have hlt : i < 255 := by omega
   have htm : (d / 2 ^ (i % 16)).tmod 2 = ((N / 2 ^ i % 2 : Nat) : Int) := by
    rw [Int.tmod_eq_emod_of_nonneg (Int.ediv_nonneg hdb.1 (Int.le_of_lt (Int.pow_pos (by decide)))), hbit]
   clear hbit
   have Hh : Hid (N / 2 ^ i = 2 * (N / 2 ^ (i + 1)) + N / 2 ^ i % 2) := half_eq N i
   by_cases h1 : N / 2 ^ i % 2 = 1
   ·rw [h1] at htm Hh
    have Hf : Hid (u * x = fpow x (N / 2 ^ i)) := by
     show _ = _
     rw [Hh.out, fpow_add, fpow_one, Hu.out]
    clear h1 Hh Hu
    go_wp2_with (first | (refine store_r rfl _ _ rfl go u _ (rn_size _) rfl rfl HO3.out ?_; rw [← Hw4.out]) | refine load_r rfl _ rfl go u rfl HO4.out ?_ | refine load_r rfl _ rfl g x rfl HA4.out ?_)
    refine (Hmul.out _ _ _).mono ?_
    rintro e w5 ⟨rfl, hb5⟩
    rw [Hf.out]
    have HA5 : Hid (RAt w5 g x) := HA4.out.below hb5 HA4.out.lt
    have HE5 : Hid (w5.heap[g + 1]? = _) := (hb5.block _ (Array.getElem?_eq_some_iff.1 HE4.out).1).trans HE4.out
    have HR5 : Hid (w5.heap[g + 1 + 1]? = _) := (hb5.block _ (Array.getElem?_eq_some_iff.1 HR4.out).1).trans HR4.out
    have HO5 : Hid (RAt w5 go u) := HO4.out.below hb5 HO4.out.lt
    have HB5 : Hid (Below g w w5) := HC4.out.trans (hb5.mono (Nat.le_of_lt HA4.out.lt))
    clear hb5
    obtain ⟨z, hz⟩ : ∃ z, z = fpow x (N / 2 ^ i) := ⟨_, rfl⟩
    rw [← hz]
    have Hz : Hid _ := hz
    clear hz
    go_wp2_with (refine store_r rfl _ _ rfl go z _ (rn_size _) rfl rfl HO5.out ?_)
    have HB6 : Below go w5 (w5.setRow go (rn z)) := Fw.below_setRow _ _ _
    refine ⟨⟨i, by omega, rfl, HA5.out.below HB6 (by omega), (HB6.block _ (by omega)).trans HE5.out, (HB6.block _ (by omega)).trans HR5.out, by rw [← Hz.out]; exact RAt.setRow HO5.out z, HB5.out.trans (HB6.mono (by omega))⟩, ?_⟩
    show ((i : Int) - 1 + 1).toNat < ((i : Int) + 1).toNat
    omega
   ·have h0 : N / 2 ^ i % 2 = 0 := by omega
    rw [h0] at htm Hh
    have Hf : Hid (u = fpow x (N / 2 ^ i)) := by
     show _ = _
     rw [Hh.out, Hu.out]
     rfl
    clear h1 h0 Hh Hu
    go_wp2_with (refine store_r rfl _ _ rfl go u _ (rn_size _) rfl rfl HO3.out ?_; rw [← Hw4.out])
    refine ⟨⟨i, by omega, rfl, HA4.out, HE4.out, HR4.out, by rw [← Hf.out]; exact HO4.out, HC4.out⟩, ?_⟩
    show ((i : Int) - 1 + 1).toNat < ((i : Int) + 1).toNat
    omega
end Dc
end Go.Proofs.YtbojijefenfbgaaGreatDoor
