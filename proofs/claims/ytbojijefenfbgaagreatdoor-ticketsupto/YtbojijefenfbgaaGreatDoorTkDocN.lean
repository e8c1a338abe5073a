/- Walks of the document's low, parts, order. -/
/- Walk of the document's rest. -/
import Derived.Test.YtbojijefenfbgaaGreatDoorTkDocL
import Derived.Test.YtbojijefenfbgaaGreatDoorTkScalarA
namespace Go.Proofs.YtbojijefenfbgaaGreatDoor
open Go.RowKit
namespace Dc
open Bt Ed Cw
/-- Bytes of which the first m are written. -/
def bF (N m j : Nat) : Nat := if j < m then N / 256 ^ j % 256 else 0
def byt (f : Nat → Nat) : Array Value := Own.mkRow 32 fun j => .int .u8 (f j : Int)
theorem byt_store {w : World} {b : Nat} {f : Nat → Nat} {t : TypeId} (h : w.heap[b]? = some (.cells (byt f) t (0, 0))) (i : Nat) (v : Nat) : (w.setCell ⟨b, i, none⟩ (.int .u8 (v : Int))).heap[b]? = some (.cells (byt fun j => if j = i then v else f j) t (0, 0)) := by
  refine (Own.row_store h i _).trans (congrArg (fun r => some (Obj.cells r t (0, 0))) (Own.mkRow_congr fun j _ => ?_))
  by_cases e : j = i
  · show _ = Value.int .u8 ((if j = i then v else f j : Nat) : Int)
    rw [if_pos e, if_pos e]
  · show _ = Value.int .u8 ((if j = i then v else f j : Nat) : Int)
    rw [if_neg e, if_neg e]
theorem byt_cell {w : World} {b : Nat} {f : Nat → Nat} {t : TypeId} (h : w.heap[b]? = some (.cells (byt f) t (0, 0))) (j : Nat) (hj : j < 32) : w.cell? ⟨b, j, none⟩ = some (.int .u8 (f j : Int)) := Own.row_cell h j hj
theorem byt_frozen {w : World} {b : Nat} {f : Nat → Nat} {t : TypeId} (h : w.heap[b]? = some (.cells (byt f) t (0, 0))) (j : Nat) : w.frozen? ⟨b, j, none⟩ = false := Own.row_frozen h j
theorem bF_step (N m : Nat) : (fun j => if j = m then N / 256 ^ m % 256 else bF N m j) = bF N (m + 1) := by
  funext j
  unfold bF
  by_cases e : j = m
  · subst e
    rw [if_pos rfl, if_pos (by omega)]
  · rw [if_neg e]
    by_cases h : j < m
    · rw [if_pos h, if_pos (by omega)]
    · rw [if_neg h, if_neg (by omega)]
theorem dg_nat (N i : Nat) : dg (N : Int) i = ((N / 65536 ^ i % 65536 : Nat) : Int) := by
  unfold dg
  rw [Int.natCast_emod, Int.natCast_ediv, Int.natCast_pow]
  rfl
theorem pow_two256 (i : Nat) : (65536 : Nat) ^ i = 256 ^ (2 * i) := by rw [show (65536 : Nat) = 256 ^ 2 from rfl, ← Nat.pow_mul]
theorem dg_lo (N i : Nat) : dg (N : Int) i % 256 = ((N / 256 ^ (2 * i) % 256 : Nat) : Int) := by
  rw [dg_nat, pow_two256]
  omega
theorem dg_hi (N i : Nat) : dg (N : Int) i / 256 = ((N / 256 ^ (2 * i + 1) % 256 : Nat) : Int) := by
  rw [dg_nat, pow_two256, Nat.pow_succ, ← Nat.div_div_eq_div_mul]
  omega
set_option maxRecDepth 100000 in
set_option maxHeartbeats 400000 in
theorem low_d (N : Nat) (w : World) : Calls Tryz.prog 104 #[.agg (nm (N : Int))] w fun e w' => e = .returned (.string ⟨(leB N 32).toArray⟩) ∧ Below w.heap.size w w' := by
  obtain ⟨L, hL⟩ : ∃ L, L = leB N 32 := ⟨_, rfl⟩
  have HL : Hid (L.length = 32) := by
    rw [hL]
    exact leB_length _ _
  have HLg : Hid (∀ j (h : j < L.length), ((L[j]).toNat : Int) = ((N / 256 ^ j % 256 : Nat) : Int)) := by
    intro j h
    subst hL
    rw [leB_get]
    simp
  rw [← hL]
  clear hL
  go_enter Tryz.func104, Tryz.ntmps104
  go_wp2_with (at_make; refine Own.wpList_make_at _ rfl _ _ 145 rfl 5 (.int .u8 0) 1 Tryz.underlying145 info_u8 rfl .i64 .i64 _ _ 32 rfl rfl rfl rfl (by decide) (by decide) ?_)
  generalize hw0 : World.alloc _ _ = w0
  obtain ⟨g, hg⟩ : ∃ g, g = w.heap.size := ⟨_, rfl⟩
  have h0 := al2 hw0
  rw [← hg] at h0 ⊢
  have HA0 : Hid (w0.heap[g]? = some (.cells (nm (N : Int)) 95 (0, 0))) := h0.1
  have HM0 : Hid (w0.heap[g + 1]? = some (.cells (byt (bF N (2 * 0))) 5 (0, 0))) := h0.2.1
  have HB0 : Hid _ := h0.2.2
  have HG : Hid (w.heap.size ≤ g) := Nat.le_of_eq hg.symm
  clear hg hw0 h0
  go_loopw [4] (fun i wq => ∃ k : Nat, k ≤ 16 ∧ i = .int .i64 (k : Int) ∧ wq.heap[g]? = some (.cells (nm (N : Int)) 95 (0, 0)) ∧ wq.heap[g + 1]? = some (.cells (byt (bF N (2 * k))) 5 (0, 0)) ∧ Below g w wq) (fun i _ => 16 - (intOf i).toNat)
  case atStart => exact ⟨0, by omega, rfl, HA0.out, HM0.out, HB0.out⟩
  case round =>
    clear HA0 HM0 HB0
    rename World => wa
    obtain ⟨k, hk, rfl, ha, hm, hb⟩ := hrel
    have HA : Hid _ := ha
    have HM : Hid _ := hm
    have HB : Hid _ := hb
    clear ha hm hb
    by_cases hk16 : k < 16
    · have hc1 : wa.cell? ⟨g, k, none⟩ = some (.int .i64 (dg (N : Int) k)) := num_cell HA.out k hk16
      have hbd := dg_bd (N : Int) k
      have Hlo : Hid _ := dg_lo N k
      have Hhi : Hid _ := dg_hi N k
      have hc2 := byt_cell HM.out (2 * k) (by omega)
      have hf2 := byt_frozen HM.out (2 * k)
      obtain ⟨d, hd⟩ : ∃ d, d = dg (N : Int) k := ⟨_, rfl⟩
      rw [← hd] at hc1 hbd Hlo Hhi
      have HM1 : Hid ((wa.setCell ⟨g + 1, 2 * k, none⟩ (.int .u8 (d % 256))).heap[g + 1]? = some (.cells (byt (bF N (2 * k + 1))) 5 (0, 0))) := by
        rw [Hlo.out, ← bF_step]
        exact byt_store HM.out _ _
      have HA1 : Hid ((wa.setCell ⟨g + 1, 2 * k, none⟩ (.int .u8 (d % 256))).heap[g]? = _) := (Below.heap_setCell _ _ _ g (by show g ≠ g + 1; omega)).trans HA.out
      have HB1 : Hid (Below g w (wa.setCell ⟨g + 1, 2 * k, none⟩ (.int .u8 (d % 256)))) := below_cell HB.out _ _ (by omega) _
      have hc3 : (wa.setCell ⟨g + 1, 2 * k, none⟩ (.int .u8 (d % 256))).cell? ⟨g, k, none⟩ = some (.int .i64 d) := by
        refine (num_cell HA1.out k hk16).trans ?_
        rw [hd]
      have hc4 := byt_cell HM1.out (2 * k + 1) (by omega)
      have hf4 := byt_frozen HM1.out (2 * k + 1)
      clear hd
      go_wp2_with fail
      refine ⟨⟨k + 1, by omega, by rw [Int.natCast_add]; rfl, ?_, ?_, ?_⟩, ?_⟩
      · exact (Below.heap_setCell _ _ _ g (by show g ≠ g + 1; omega)).trans HA1.out
      · rw [Hhi.out, show 2 * (k + 1) = 2 * k + 1 + 1 by omega, ← bF_step]
        exact byt_store HM1.out _ _
      · exact below_cell HB1.out _ _ (by omega) _
      · show 16 - ((k : Int) + 1).toNat < 16 - (k : Int).toNat
        omega
    · obtain rfl : k = 16 := by omega
      have HC : Hid (∀ j (h : j < L.length), wa.cell? ⟨g + 1, 0 + j, none⟩ = some (.int .u8 (L[j].toNat : Int))) := fun j hj => by
        have hj' : j < 32 := by have := HL.out; omega
        rw [Nat.zero_add, byt_cell HM.out j hj', HLg.out j hj, bF, if_pos (by omega)]
      have hll := HL.out
      clear HLg
      go_wp2_with (refine Own.wpList_string_at _ rfl _ 145 9 5 rfl Tryz.underlying145 Tryz.underlying5 Tryz.underlying9 (g + 1) 0 32 L (by rw [hll]; rfl) HC.out ?_)
      go_ret
      exact ⟨rfl, HB.out.mono HG.out⟩
def pF (l : List UInt8) (k j : Nat) : Int := if j < k then dg (le l : Int) j else 0
theorem le_byte (l : List UInt8) (j : Nat) (h : j < l.length) : (l[j]).toNat = le l / 256 ^ j % 256 := by
  have h1 := leB_get l.length (le l) j (by rw [leB_length]; exact h)
  have h2 : (leB (le l) l.length)[j]'(by rw [leB_length]; exact h) = l[j] := by simp only [leB_le]
  rw [← h2, h1]
  simp
theorem le_part (l : List UInt8) (k : Nat) (h : 2 * k + 1 < l.length) : ((l[2 * k]).toNat : Int) + 256 * ((l[2 * k + 1]).toNat : Int) = dg (le l : Int) k := by
  rw [dg_nat, pow_two256, le_byte, le_byte, Nat.pow_succ, ← Nat.div_div_eq_div_mul]
  omega
theorem pF_step (l : List UInt8) (k j : Nat) : (if j = k then dg (le l : Int) k else pF l k j) = pF l (k + 1) j := by
  unfold pF
  by_cases e : j = k
  · subst e
    rw [if_pos rfl, if_pos (by omega)]
  · rw [if_neg e]
    by_cases h : j < k
    · rw [if_pos h, if_pos (by omega)]
    · rw [if_neg h, if_neg (by omega)]
theorem run_index_str (W : World) (s : ByteArray) (k : Nat) (h : k < s.size) (i : Int) (hi : i = (k : Int)) : Sem.run Tryz.prog (Instr.index 9 (.string s) (.int .i64 i)) W = .ok (.int .u8 ((s[k]).toNat : Int)) W := by
  subst hi
  have h1 : (0 : Int) ≤ (k : Int) ∧ (k : Int) < (s.size : Int) := by omega
  simp [Instr.index, asIntOf, run_underlying Tryz.underlying9, h]
set_option maxRecDepth 100000 in
set_option maxHeartbeats 400000 in
theorem parts_d (s : ByteArray) (hs : s.size = 32) (w : World) : Calls Tryz.prog 38 #[.string s] w fun e w' => e = .returned (.agg (nm (le s.data.toList : Int))) ∧ Below w.heap.size w w' := by
  go_enter Tryz.func38, Tryz.ntmps38
  go_wp2_with (refine l_alloc _ rfl rfl ?_)
  generalize hw0 : World.alloc _ _ = w0
  obtain ⟨g, hg⟩ : ∃ g, g = w.heap.size := ⟨_, rfl⟩
  have h0 := al2 hw0
  rw [← hg] at h0 ⊢
  have HR0 : Hid _ := h0.1
  have HM0 : Hid (w0.heap[g + 1]? = some (.cells (num (pF s.data.toList 0)) 95 (0, 0))) := h0.2.1
  have HB0 : Hid _ := h0.2.2
  have HG : Hid (w.heap.size ≤ g) := Nat.le_of_eq hg.symm
  clear hg hw0 h0
  go_loopw [4] (fun i wq => ∃ k : Nat, k ≤ 16 ∧ i = .int .i64 (k : Int) ∧ wq.heap[g]? = some (.cells (num fun _ => 0) 95 (0, 0)) ∧ wq.heap[g + 1]? = some (.cells (num (pF s.data.toList k)) 95 (0, 0)) ∧ Below g w wq) (fun i _ => 16 - (intOf i).toNat)
  case atStart => exact ⟨0, by omega, rfl, HR0.out, HM0.out, HB0.out⟩
  case round =>
    clear HR0 HM0 HB0
    rename World => wa
    obtain ⟨k, hk, rfl, hr, hm, hb⟩ := hrel
    have HR : Hid _ := hr
    have HM : Hid _ := hm
    have HB : Hid _ := hb
    clear hr hm hb
    by_cases hk16 : k < 16
    · have hc2 := num_cell HM.out k hk16
      have hf2 := num_frozen HM.out k
      have hk1 : 2 * k + 1 < s.size := by omega
      have Hp := le_part s.data.toList k (by have : s.data.size = s.size := rfl; simp; omega)
      have hb1 := (s[2 * k]).toNat_lt
      have hb2 := (s[2 * k + 1]).toNat_lt
      have hx1 : ∀ W, Sem.run Tryz.prog (Instr.index 9 (.string s) (.int .i64 (2 * (k : Int)))) W = .ok (.int .u8 ((s[2 * k]).toNat : Int)) W := fun W => run_index_str W s (2 * k) (by omega) _ (by omega)
      have hx2 : ∀ W, Sem.run Tryz.prog (Instr.index 9 (.string s) (.int .i64 (2 * (k : Int) + 1))) W = .ok (.int .u8 ((s[2 * k + 1]).toNat : Int)) W := fun W => run_index_str W s (2 * k + 1) (by omega) _ (by omega)
      have Hp : Hid (((s[2 * k]).toNat : Int) + 256 * ((s[2 * k + 1]).toNat : Int) = dg (le s.data.toList : Int) k) := Hp
      generalize (s[2 * k]).toNat = x at *
      generalize (s[2 * k + 1]).toNat = y at *
      go_wp2_with fail
      refine Qt.wp_lit_tail 15 (by kernel_rfl) (by kernel_rfl) ?_
      simp only [List.take_succ_cons, List.take_zero, List.drop_succ_cons, List.drop_zero]
      repeat (first | go_big_quiet_step (fail) | quiet_step (fail))
      refine wpQuiet_nil ?_
      intro _ hw'
      obtain ⟨nq, hw''⟩ := hw'
      subst hw''
      go_wp2_with fail
      refine ⟨⟨k + 1, by omega, by rw [Int.natCast_add]; rfl, ?_, ?_, ?_⟩, ?_⟩
      · exact (Below.heap_setCell _ _ _ g (by show g ≠ g + 1; omega)).trans HR.out
      · rw [Hp.out]
        refine (num_store (w := wa.drewN nq) HM.out k _).trans ?_
        rw [num_congr]
        intro j _
        exact pF_step _ k j
      · exact below_cell (HB.out.trans (Fw.below_drewN _ _ _)) _ _ (by omega) _
      · show 16 - ((k : Int) + 1).toNat < 16 - (k : Int).toNat
        omega
    · obtain rfl : k = 16 := by omega
      have HM2 : Hid (wa.heap[g + 1]? = some (.cells (nm (le s.data.toList : Int)) 95 (0, 0))) := HM.out.trans (congrArg (fun r => some (Obj.cells r 95 (0, 0))) (num_congr fun j hj => if_pos hj))
      clear HM
      go_wp2_with (first | refine l_load rfl _ rfl (g + 1) _ rfl HM2.out ?_ | refine l_store rfl _ _ rfl g _ _ rfl rfl HR.out ?_)
      exact Own.ret_row Tryz.results38 rfl g 95 _ (0, 0) _ rfl (setRow_heap _ _ _ _ _ _ HR.out) Tryz.underlying95 rfl (by rw [num_size]; kernel_rfl) ⟨rfl, (HB.out.trans ((Fw.below_setRow _ _ _).mono (by omega))).mono HG.out⟩
theorem parts_l (l : List UInt8) (hl : l.length = 32) (w : World) : Calls Tryz.prog 38 #[.string ⟨l.toArray⟩] w fun e w' => e = .returned (.agg (nm (le l : Int))) ∧ Below w.heap.size w w' := parts_d ⟨l.toArray⟩ hl w
def oI : Int := 7237005577332262213973186563042994240857116359379907606001950938285454250989
set_option maxHeartbeats 400000 in
theorem order_i (w : World) : Calls Tryz.prog 40 #[] w fun e w' => e = .returned (.agg (nm oI)) ∧ Below w.heap.size w w' := by
  have HE : Hid (nm oI = #[.int .i64 54253, .int .i64 23797, .int .i64 25370, .int .i64 22546, .int .i64 40150, .int .i64 41719, .int .i64 63966, .int .i64 5342, .int .i64 0, .int .i64 0, .int .i64 0, .int .i64 0, .int .i64 0, .int .i64 0, .int .i64 0, .int .i64 4096]) := by
    show _ = _
    rw [lit_num]
    exact num_congr (of_decide_eq_true (by kernel_rfl))
  obtain ⟨x, hx⟩ : ∃ x, x = oI := ⟨_, rfl⟩
  rw [← hx] at HE ⊢
  clear hx
  go_enter Tryz.func40, Tryz.ntmps40
  refine wp_seq (wp_region_list ?_)
  refine l_alloc _ rfl rfl ?_
  simp only [Act.put, List.setIfInBounds_toArray, List.set_cons_zero]
  refine Qt.done ?_
  refine wp_seq (wp_region_list ?_)
  refine Own.wpList_build_at rfl 95 _ rfl (nm x) (by rw [HE.out]; kernel_rfl) ?_
  simp only [Act.put, List.setIfInBounds_toArray, List.set_cons_zero, List.set_cons_succ]
  refine l_store_new rfl _ _ rfl _ (dg x) rfl rfl ?_
  simp only [Act.put]
  refine Qt.done ?_
  go_wp2_with fail
  exact Own.ret_row Tryz.results40 rfl w.heap.size 95 _ (0, 0) _ rfl (heap_alloc_new _ _) Tryz.underlying95 rfl (by rw [num_size]; kernel_rfl) ⟨rfl, (Below.refl _ _).alloc (Nat.le_refl _) _⟩
end Dc
end Go.Proofs.YtbojijefenfbgaaGreatDoor
namespace Go.Proofs.YtbojijefenfbgaaGreatDoor
open Go.RowKit
namespace Dc
open Bt Ed Cw
open Sw (LL)
theorem oI_LL : oI = (LL : Int) := rfl
/-- Twice a number and a bit, in parts. -/
def dD2 (R : Nat) (j : Nat) : Int := 2 * dg (R : Int) j
def cG (R c : Nat) (k j : Nat) : Int := if j < k then (dD2 R j + cF 65536 (c : Int) (dD2 R) j) % 65536 else dg (R : Int) j
theorem cG_step (R c k j : Nat) : (if j = k then (dD2 R k + cF 65536 (c : Int) (dD2 R) k) % 65536 else cG R c k j) = cG R c (k + 1) j := by
  unfold cG
  by_cases e : j = k
  · subst e
    rw [if_pos rfl, if_pos (by omega)]
  · rw [if_neg e]
    by_cases h : j < k
    · rw [if_pos h, if_pos (by omega)]
    · rw [if_neg h, if_neg (by omega)]
theorem cF_dbl (R c : Nat) (hc : c ≤ 1) (k : Nat) : 0 ≤ cF 65536 (c : Int) (dD2 R) k ∧ cF 65536 (c : Int) (dD2 R) k ≤ 1 := by
  induction k with
  | zero => exact ⟨Int.natCast_nonneg _, by show (c : Int) ≤ 1; omega⟩
  | succ k ih =>
    have h := dg_bd (R : Int) k
    have hd : 0 ≤ dD2 R k ∧ dD2 R k ≤ 131070 := by
      unfold dD2
      omega
    show 0 ≤ (dD2 R k + cF 65536 (c : Int) (dD2 R) k) / 65536 ∧ (dD2 R k + cF 65536 (c : Int) (dD2 R) k) / 65536 ≤ 1
    generalize cF 65536 (c : Int) (dD2 R) k = x at *
    generalize dD2 R k = y at *
    omega
theorem cG_all (R c : Nat) (hR : R < 65536 ^ 16) (j : Nat) (hj : j < 16) : cG R c 16 j = dg ((2 * R + c : Nat) : Int) j := by
  have e : vi 65536 (dD2 R) 16 = 2 * (R : Int) := by
    have h := vi_mul 65536 2 (dg (R : Int)) 16
    rw [vi_dg ⟨Int.natCast_nonneg _, by have h := Int.ofNat_lt.2 hR; rw [Int.natCast_pow] at h; exact h⟩] at h
    exact h
  unfold cG
  rw [if_pos hj, dig_eq (by decide) (c : Int) (dD2 R) hj, e]
  unfold dg
  rw [show (c : Int) + 2 * (R : Int) = ((2 * R + c : Nat) : Int) by omega]
theorem LL_lt : LL < 65536 ^ 16 := by decide
theorem rest_lt (R c : Nat) (h : 2 * R + c < LL) : (2 * R + c) % LL = 2 * R + c := Nat.mod_eq_of_lt h
theorem rest_ge (R c : Nat) (hR : R < LL) (hc : c ≤ 1) (h : ¬ 2 * R + c < LL) : (2 * R + c) % LL = 2 * R + c - LL := by
  rw [Nat.mod_eq_sub_mod (Nat.not_lt.1 h), Nat.mod_eq_of_lt (by omega)]
theorem rest_step (N i : Nat) : N / 2 ^ i % LL = (2 * (N / 2 ^ (i + 1) % LL) + N / 2 ^ i % 2) % LL := by
  have h := half_eq N i
  generalize N / 2 ^ i % 2 = b at *
  rw [h]
  generalize N / 2 ^ (i + 1) = q
  rw [Nat.add_mod, Nat.mul_mod, Nat.add_mod (2 * (q % LL)), Nat.mul_mod 2 (q % LL), Nat.mod_mod]
theorem rest_bd (R c : Nat) (hR : R < LL) (hc : c ≤ 1) : 2 * R + c < 65536 ^ 16 := by
  have : 2 * LL + 1 < 65536 ^ 16 := by decide
  omega
set_option maxRecDepth 100000 in
set_option maxHeartbeats 1000000 in
theorem rest_d (b cap n N : Nat) (hN : N < 2 ^ (16 * n)) (hn : n ≤ 100) (w : World) (hc : ∀ j, j < n → w.cell? ⟨b, j, none⟩ = some (.int .i64 (dg (N : Int) j))) (hb : b < w.heap.size) :
    Calls Tryz.prog 44 #[.slice (some ⟨b, 0, none⟩) n cap] w fun e w' => e = .returned (.agg (nm ((N % LL : Nat) : Int))) ∧ Below w.heap.size w w' := by
  have Hor : Hid (∀ w, Calls Tryz.prog 40 #[] w fun e w' => e = .returned (.agg (nm oI)) ∧ Below w.heap.size w w') := order_i
  have Hz : Hid (N / 2 ^ (16 * n) = 0) := Nat.div_eq_of_lt hN
  have Hle : Hid (∀ R : Nat, R < 65536 ^ 16 → ∀ w, Calls Tryz.prog 39 #[.agg (nm (R : Int)), .agg (nm oI)] w fun e w' => e = .returned (.bool (decide (R < LL))) ∧ Below w.heap.size w w') := fun R hR w => by
    have h := less_f (R : Int) oI (Int.natCast_nonneg _) (by have h := Int.ofNat_lt.2 hR; rw [Int.natCast_pow] at h; exact h) (by decide) (by decide) w
    rw [oI_LL, show decide ((R : Int) < (LL : Int)) = decide (R < LL) from decide_eq_decide.2 Int.ofNat_lt] at h
    exact h
  have HO : Hid (oI = (LL : Int)) := oI_LL
  have HC : Hid _ := hc
  have HBb : Hid _ := hb
  obtain ⟨P, hP⟩ : ∃ P, P = oI := ⟨_, rfl⟩
  rw [← hP] at Hor Hle HO
  clear hP hc hb hN
  go_enter Tryz.func44, Tryz.ntmps44
  go_wp2_with (refine l_alloc _ rfl rfl ?_)
  generalize hw0 : World.alloc _ _ = w0
  obtain ⟨g, hg⟩ : ∃ g, g = w.heap.size := ⟨_, rfl⟩
  have h0 := al1 hw0
  rw [← hg] at h0 ⊢
  have HR0 : Hid _ := h0.1
  have HB0 : Hid _ := h0.2
  have HG : Hid (w.heap.size ≤ g) := Nat.le_of_eq hg.symm
  have HS0 : Hid (b < g ∧ ∀ j, j < n → w0.cell? ⟨b, j, none⟩ = some (.int .i64 (dg (N : Int) j))) := ⟨by rw [hg]; exact HBb.out, fun j hj => (h0.2.cell (by show b < g; rw [hg]; exact HBb.out)).trans (HC.out j hj)⟩
  clear hg hw0 h0 HC HBb
  refine (Hor.out _).mono ?_
  rintro e w1 ⟨rfl, hb1⟩
  have HR1 : Hid (w1.heap[g]? = _) := (hb1.block _ (Array.getElem?_eq_some_iff.1 HR0.out).1).trans HR0.out
  have HB1 : Hid (Below g w w1) := HB0.out.trans (hb1.mono (Nat.le_of_lt (Array.getElem?_eq_some_iff.1 HR0.out).1))
  have HS1 : Hid (b < g ∧ ∀ j, j < n → w1.cell? ⟨b, j, none⟩ = some (.int .i64 (dg (N : Int) j))) := ⟨HS0.out.1, fun j hj => (hb1.cell (Nat.lt_trans HS0.out.1 (Array.getElem?_eq_some_iff.1 HR0.out).1)).trans (HS0.out.2 j hj)⟩
  clear hb1 HR0 HB0 HS0 Hor
  obtain ⟨gp, hgp⟩ : ∃ x, x = w1.heap.size := ⟨_, rfl⟩
  have hgl : g < gp := by
    rw [hgp]
    exact (Array.getElem?_eq_some_iff.1 HR1.out).1
  generalize hw0 : (w1.alloc (.cells (num (dg P)) 95)).alloc (.cells (num fun _ => 0) 95) = w2
  have h0 := al2 hw0
  rw [← hgp] at h0
  have HR2 : Hid (w2.heap[g]? = _) := (h0.2.2.block _ (by omega)).trans HR1.out
  have HP2 : Hid _ := h0.1
  have HQ2 : Hid (w2.heap[gp + 1]? = some (.cells (nm ((N / 2 ^ (16 * n) % LL : Nat) : Int)) 95 (0, 0))) := by
    rw [Hz.out]
    exact h0.2.1.trans (congrArg (fun r => some (Obj.cells r 95 (0, 0))) (num_congr (by decide)))
  have HB2 : Hid (Below g w w2) := HB1.out.trans (h0.2.2.mono (by omega))
  have HS2 : Hid (b < g ∧ ∀ j, j < n → w2.cell? ⟨b, j, none⟩ = some (.int .i64 (dg (N : Int) j))) := ⟨HS1.out.1, fun j hj => (h0.2.2.cell (by have := HS1.out.1; show b < gp; omega)).trans (HS1.out.2 j hj)⟩
  have Hw0 : Hid _ := hw0
  have Hgp : Hid _ := hgp
  clear hw0 h0 hgp HR1 HB1 HS1
  go_wp2_with (first | refine l_alloc _ rfl rfl ?_ | refine l_store_new rfl _ _ rfl _ (dg P) rfl rfl ?_)
  rw [Hw0.out, ← Hgp.out]
  clear Hw0 Hgp
  go_loopw [5] (fun i wq => ∃ k : Nat, k ≤ 16 * n ∧ i = .int .i64 ((k : Int) - 1) ∧ wq.heap[g]? = some (.cells (num fun _ => 0) 95 (0, 0)) ∧ wq.heap[gp]? = some (.cells (num (dg P)) 95 (0, 0)) ∧ wq.heap[gp + 1]? = some (.cells (nm ((N / 2 ^ k % LL : Nat) : Int)) 95 (0, 0)) ∧ (b < g ∧ ∀ j, j < n → wq.cell? ⟨b, j, none⟩ = some (.int .i64 (dg (N : Int) j))) ∧ Below g w wq) (fun i _ => (intOf i + 1).toNat)
  case atStart => exact ⟨16 * n, by omega, by simp, HR2.out, HP2.out, HQ2.out, HS2.out, HB2.out⟩
  case round =>
    clear HR2 HP2 HQ2 HS2 HB2 Hz
    rename World => wa
    obtain ⟨k, hk, rfl, hr, hp, hq, hs, hb⟩ := hrel
    have HR : Hid _ := hr
    have HP : Hid _ := hp
    have HQ : Hid _ := hq
    have HS : Hid _ := hs
    have HB : Hid _ := hb
    clear hr hp hq hs hb
    by_cases hk0 : k = 0
    · subst hk0
      have HQ1 : Hid (wa.heap[gp + 1]? = some (.cells (num (dg ((N % LL : Nat) : Int))) 95 (0, 0))) := by
        have := HQ.out
        rw [Nat.pow_zero, Nat.div_one] at this
        exact this
      clear HQ
      go_wp2_with (first | refine l_load rfl _ rfl (gp + 1) _ rfl HQ1.out ?_ | refine l_store rfl _ _ rfl g _ _ rfl rfl HR.out ?_)
      exact Own.ret_row Tryz.results44 rfl g 95 _ (0, 0) _ rfl (setRow_heap _ _ _ _ _ _ HR.out) Tryz.underlying95 rfl (by rw [num_size]; kernel_rfl) ⟨rfl, (HB.out.trans ((Fw.below_setRow _ _ _).mono (by omega))).mono HG.out⟩
    · obtain ⟨i, rfl⟩ : ∃ i, k = i + 1 := ⟨k - 1, by omega⟩
      have ei : ((i + 1 : Nat) : Int) - 1 = (i : Int) := by omega
      rw [ei]
      obtain ⟨R, hR⟩ : ∃ R, R = N / 2 ^ (i + 1) % LL := ⟨_, rfl⟩
      have HRL : Hid (R < LL) := by
        rw [hR]
        exact Nat.mod_lt _ (by decide)
      have HRs : Hid (N / 2 ^ i % LL = (2 * R + N / 2 ^ i % 2) % LL) := by
        rw [hR]
        exact rest_step N i
      rw [← hR] at HQ
      clear hR ei hk0
      have hc : wa.cell? ⟨b, i / 16, none⟩ = some (.int .i64 (dg (N : Int) (i / 16))) := HS.out.2 (i / 16) (by omega)
      have hdb := dg_bd (N : Int) (i / 16)
      have hbit := bit_eq N i
      obtain ⟨d, hd⟩ : ∃ d, d = dg (N : Int) (i / 16) := ⟨_, rfl⟩
      rw [← hd] at hc hdb hbit
      clear hd
      have htm : (d / 2 ^ (i % 16)).tmod 2 = ((N / 2 ^ i % 2 : Nat) : Int) := by
        rw [Int.tmod_eq_emod_of_nonneg (Int.ediv_nonneg hdb.1 (Int.le_of_lt (Int.pow_pos (by decide)))), hbit]
      clear hbit
      have hbt : N / 2 ^ i % 2 ≤ 1 := by omega
      generalize N / 2 ^ i % 2 = c at *
      go_wp2_with fail
      go_loopw [6, 7] (fun x y wq => ∃ k : Nat, k ≤ 16 ∧ y = .int .i64 (k : Int) ∧ x = .int .i64 (cF 65536 (c : Int) (dD2 R) k) ∧ wq.heap[g]? = some (.cells (num fun _ => 0) 95 (0, 0)) ∧ wq.heap[gp]? = some (.cells (num (dg P)) 95 (0, 0)) ∧ wq.heap[gp + 1]? = some (.cells (num (cG R c k)) 95 (0, 0)) ∧ (b < g ∧ ∀ j, j < n → wq.cell? ⟨b, j, none⟩ = some (.int .i64 (dg (N : Int) j))) ∧ Below g w wq) (fun _ y _ => 16 - (intOf y).toNat)
      case atStart => exact ⟨0, by omega, rfl, rfl, HR.out, HP.out, HQ.out, HS.out, HB.out⟩
      case round =>
        clear HR HP HQ HS HB
        rename World => wa
        obtain ⟨k, hk, rfl, rfl, hr, hp, hq, hs, hb⟩ := hrel
        have HR : Hid _ := hr
        have HP : Hid _ := hp
        have HQ : Hid _ := hq
        have HS : Hid _ := hs
        have HB : Hid _ := hb
        clear hr hp hq hs hb hc htm hdb
        by_cases hk16 : k < 16
        · have hc1 := num_cell HQ.out k hk16
          have hfz := num_frozen HQ.out k
          rw [cG, if_neg (Nat.lt_irrefl k)] at hc1
          have hbR := dg_bd (R : Int) k
          have hbC := cF_dbl R c hbt k
          have Hs1 : Hid ((2 * dg (R : Int) k + cF 65536 (c : Int) (dD2 R) k) / 65536 = cF 65536 (c : Int) (dD2 R) (k + 1)) := rfl
          have Hs2 : Hid (∀ j, (if j = k then (2 * dg (R : Int) k + cF 65536 (c : Int) (dD2 R) k) % 65536 else cG R c k j) = cG R c (k + 1) j) := cG_step R c k
          generalize dg (R : Int) k = u at *
          generalize cF 65536 (c : Int) (dD2 R) k = v at *
          go_wp2_with fail
          refine ⟨⟨k + 1, by omega, by rw [Int.natCast_add]; rfl, by rw [Hs1.out], ?_, ?_, ?_, ⟨HS.out.1, fun j hj => ?_⟩, ?_⟩, ?_⟩
          · exact (Below.heap_setCell _ _ _ g (by show g ≠ gp + 1; omega)).trans HR.out
          · exact (Below.heap_setCell _ _ _ gp (by show gp ≠ gp + 1; omega)).trans HP.out
          · refine (num_store HQ.out k _).trans ?_
            rw [num_congr]
            intro j _
            exact Hs2.out j
          · exact ((below_cell (Below.refl g wa) (gp + 1) k (by omega) _).cell HS.out.1).trans (HS.out.2 j hj)
          · exact below_cell HB.out _ _ (by omega) _
          · show 16 - ((k : Int) + 1).toNat < 16 - (k : Int).toNat
            omega
        · obtain rfl : k = 16 := by omega
          have HQ1 : Hid (wa.heap[gp + 1]? = some (.cells (nm ((2 * R + c : Nat) : Int)) 95 (0, 0))) := HQ.out.trans (congrArg (fun r => some (Obj.cells r 95 (0, 0))) (num_congr fun j hj => cG_all R c (Nat.lt_trans HRL.out LL_lt) j hj))
          have Hlt2 : Hid (2 * R + c < 65536 ^ 16) := rest_bd R c HRL.out hbt
          have Hle1 : Hid (∀ w, Calls Tryz.prog 39 #[.agg (nm ((2 * R + c : Nat) : Int)), .agg (nm P)] w fun e w' => e = .returned (.bool (decide (2 * R + c < LL))) ∧ Below w.heap.size w w') := Hle.out (2 * R + c) Hlt2.out
          clear HQ
          generalize cF 65536 (c : Int) (dD2 R) 16 = cx at *
          have Hend1 : Hid (2 * R + c < LL → (2 * R + c) % LL = 2 * R + c) := rest_lt R c
          have Hend2 : Hid (¬ 2 * R + c < LL → (2 * R + c) % LL = 2 * R + c - LL) := rest_ge R c HRL.out hbt
          obtain ⟨U, hU⟩ : ∃ U, U = 2 * R + c := ⟨_, rfl⟩
          rw [← hU] at HQ1 Hlt2 Hle1 HRs Hend1 Hend2
          clear hU hbt
          go_wp2_with (first | refine l_load rfl _ rfl (gp + 1) (dg (U : Int)) rfl HQ1.out ?_ | refine l_load rfl _ rfl gp (dg P) rfl HP.out ?_)
          refine (Hle1.out _).mono ?_
          rintro e w3 ⟨rfl, hb3⟩
          have hgw : gp + 1 < wa.heap.size := (Array.getElem?_eq_some_iff.1 HQ1.out).1
          have HR3 : Hid (w3.heap[g]? = _) := (hb3.block _ (by omega)).trans HR.out
          have HP3 : Hid (w3.heap[gp]? = _) := (hb3.block _ (by omega)).trans HP.out
          have HQ3 : Hid (w3.heap[gp + 1]? = _) := (hb3.block _ hgw).trans HQ1.out
          have HS3 : Hid (b < g ∧ ∀ j, j < n → w3.cell? ⟨b, j, none⟩ = some (.int .i64 (dg (N : Int) j))) := ⟨HS.out.1, fun j hj => (hb3.cell (by have := HS.out.1; show b < wa.heap.size; omega)).trans (HS.out.2 j hj)⟩
          have HB3 : Hid (Below g w w3) := HB.out.trans (hb3.mono (by omega))
          clear hb3 hgw HR HP HQ1 HS HB Hle1
          by_cases hlt : U < LL
          · have hdl := decide_eq_true hlt
            have HE : Hid (U = N / 2 ^ i % LL) := by
              show _ = _
              rw [HRs.out, Hend1.out hlt]
            clear hlt
            go_wp2_with fail
            refine ⟨⟨i, by omega, rfl, HR3.out, HP3.out, by rw [← HE.out]; exact HQ3.out, HS3.out, HB3.out⟩, ?_⟩
            show ((i : Int) - 1 + 1).toNat < ((i : Int) + 1).toNat
            omega
          · have hdl := decide_eq_false hlt
            have HE : Hid ((U : Int) - P = ((N / 2 ^ i % LL : Nat) : Int)) := by
              show _ = _
              rw [HRs.out, Hend2.out hlt, HO.out, Int.natCast_sub (Nat.not_lt.1 hlt)]
            have HU : Hid (0 ≤ (U : Int) ∧ (U : Int) < 65536 ^ 16) := ⟨Int.natCast_nonneg _, by have h := Int.ofNat_lt.2 Hlt2.out; rw [Int.natCast_pow] at h; exact h⟩
            have HPb : Hid (0 ≤ P ∧ P < 65536 ^ 16) := by rw [HO.out]; exact ⟨by decide, by decide⟩
            clear hlt
            generalize (U : Int) = V at *
            go_wp2_with fail
            go_loopw [6, 10] (fun x y wq => ∃ k : Nat, k ≤ 16 ∧ y = .int .i64 (k : Int) ∧ x = .int .i64 (cF 65536 0 (dd V P) k) ∧ wq.heap[g]? = some (.cells (num fun _ => 0) 95 (0, 0)) ∧ wq.heap[gp]? = some (.cells (num (dg P)) 95 (0, 0)) ∧ wq.heap[gp + 1]? = some (.cells (num (cE (dd V P) (dg V) k)) 95 (0, 0)) ∧ (b < g ∧ ∀ j, j < n → wq.cell? ⟨b, j, none⟩ = some (.int .i64 (dg (N : Int) j))) ∧ Below g w wq) (fun _ y _ => 16 - (intOf y).toNat)
            case atStart => exact ⟨0, by omega, rfl, rfl, HR3.out, HP3.out, HQ3.out, HS3.out, HB3.out⟩
            case round =>
              clear HR3 HP3 HQ3 HS3 HB3
              rename World => wa
              obtain ⟨k, hk, rfl, rfl, hr, hp, hq, hs, hb⟩ := hrel
              have HR : Hid _ := hr
              have HP : Hid _ := hp
              have HQ : Hid _ := hq
              have HS : Hid _ := hs
              have HB : Hid _ := hb
              clear hr hp hq hs hb
              by_cases hk16 : k < 16
              · have hc1 := num_cell HQ.out k hk16
                have hfz := num_frozen HQ.out k
                have hc2 := num_cell HP.out k hk16
                rw [cE, if_neg (Nat.lt_irrefl k)] at hc1
                have hbU := dg_bd V k
                have hbP := dg_bd P k
                have hbC := cF_bound (c0 := 0) (dd_bd V P) (by omega) k (by omega)
                have Hs : Hid (∀ j, (if j = k then dg V k - dg P k + cF 65536 0 (dd V P) k - (dg V k - dg P k + cF 65536 0 (dd V P) k) / 65536 * 65536 else cE (dd V P) (dg V) k j) = cE (dd V P) (dg V) (k + 1) j) := cE_step (dd V P) (dg V) k
                have Hs2 : Hid ((dg V k - dg P k + cF 65536 0 (dd V P) k) / 65536 = cF 65536 0 (dd V P) (k + 1)) := rfl
                generalize dg V k = u at *
                generalize dg P k = v at *
                generalize cF 65536 0 (dd V P) k = y at *
                go_wp2_with fail
                refine wp_region_quiet_lit (by kernel_rfl) (by kernel_rfl) ?_
                repeat (first | go_big_quiet_step (fail) | quiet_step (fail))
                refine wpQuiet_nil ?_
                intro _ hw'
                obtain ⟨nq, hw''⟩ := hw'
                subst hw''
                have hfz : (wa.drewN nq).frozen? ⟨gp + 1, k, none⟩ = false := hfz
                have hc1 : (wa.drewN nq).cell? ⟨gp + 1, k, none⟩ = some (.int .i64 u) := hc1
                have HR : Hid ((wa.drewN nq).heap[g]? = _) := HR.out
                have HP : Hid ((wa.drewN nq).heap[gp]? = _) := HP.out
                have HQ : Hid ((wa.drewN nq).heap[gp + 1]? = _) := HQ.out
                have HS : Hid (b < g ∧ ∀ j, j < n → (wa.drewN nq).cell? ⟨b, j, none⟩ = some (.int .i64 (dg (N : Int) j))) := HS.out
                have HB : Hid (Below g w (wa.drewN nq)) := HB.out.trans (Fw.below_drewN _ _ _)
                clear hc2
                generalize wa.drewN nq = wb at *
                go_wp2_with fail
                refine ⟨⟨k + 1, by omega, by rw [Int.natCast_add]; rfl, by rw [Hs2.out], ?_, ?_, ?_, ⟨HS.out.1, fun j hj => ?_⟩, ?_⟩, ?_⟩
                · exact (Below.heap_setCell _ _ _ g (by show g ≠ gp + 1; omega)).trans HR.out
                · exact (Below.heap_setCell _ _ _ gp (by show gp ≠ gp + 1; omega)).trans HP.out
                · refine (num_store HQ.out k _).trans ?_
                  rw [num_congr]
                  intro j _
                  exact Hs.out j
                · exact ((below_cell (Below.refl g wb) (gp + 1) k (by omega) _).cell HS.out.1).trans (HS.out.2 j hj)
                · exact below_cell HB.out _ _ (by omega) _
                · show 16 - ((k : Int) + 1).toNat < 16 - (k : Int).toNat
                  omega
              · obtain rfl : k = 16 := by omega
                have HQ5 : Hid (wa.heap[gp + 1]? = some (.cells (nm ((N / 2 ^ i % LL : Nat) : Int)) 95 (0, 0))) := by
                  rw [← HE.out]
                  exact HQ.out.trans (congrArg (fun r => some (Obj.cells r 95 (0, 0))) (num_congr (cE_all V P HPb.out HU.out)))
                clear HQ
                generalize cF 65536 0 (dd V P) 16 = cy at *
                go_wp2_with fail
                refine ⟨⟨i, by omega, rfl, HR.out, HP.out, HQ5.out, HS.out, HB.out⟩, ?_⟩
                show ((i : Int) - 1 + 1).toNat < ((i : Int) + 1).toNat
                omega
end Dc
end Go.Proofs.YtbojijefenfbgaaGreatDoor
