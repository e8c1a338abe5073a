/- Walks of the program's hash: sum, start. -/
import Derived.Test.YtkmpokneflgmbaaDoorFinishWalk
import Derived.Deep.MidRow
namespace Go.Proofs.YtkmpokneflgmbaaDoor
open Go.RowKit
namespace Hs
attribute [local go_sem] UV.u_add UV.u_mul UV.u_sub UV.u_xor UV.u_and UV.u_or UV.u_shr UV.u_shl UV.u_not UV.u_notm UV.u_wrap_un

theorem slice64 (W : World) (b l : Nat) (L : Int) (hL : L = (l : Int)) (hl : l < 64) :
    Sem.run Tryd.prog (Instr.sliceAt 100 (.pointer (some ⟨b, 0, none⟩)) (some (.int .i64 L)) none none) W = .ok (.slice (some ⟨b, l, none⟩) (64 - l) (64 - l)) W := by
  subst hL
  have e1 : Tryd.prog.arrayLen 100 = 64 := by kernel_rfl
  have e2 : Tryd.prog.elem 100 = 5 := by kernel_rfl
  have h := run_sliceAt_array_l (P := Tryd.prog) W 100 ⟨b, 0, none⟩ (by kernel_rfl) .i64 (l : Int) (by omega) (by rw [e1]; omega)
  obtain ⟨i, hi, _, hz1, _⟩ := info_parts info_u8
  rw [h, e1, e2]
  simp [sizeOf, typeInfo, hi, hz1, slicedAt, Result.andThen, Addr.add_mid]
  omega
theorem slice64_all (W : World) (b : Nat) :
    Sem.run Tryd.prog (Instr.sliceAt 100 (.pointer (some ⟨b, 0, none⟩)) none none none) W = .ok (.slice (some ⟨b, 0, none⟩) 64 64) W := by
  have e1 : Tryd.prog.arrayLen 100 = 64 := by kernel_rfl
  have e2 : Tryd.prog.elem 100 = 5 := by kernel_rfl
  have h := run_sliceAt_array_all (P := Tryd.prog) W 100 ⟨b, 0, none⟩ (by kernel_rfl)
  obtain ⟨i, hi, _, hz1, _⟩ := info_parts info_u8
  rw [h, e1, e2]
  simp [sizeOf, typeInfo, hi, hz1, slicedAt, Result.andThen, Addr.add_mid]

def outB (s : Sha.St) (j : Nat) : UInt8 := Sha.byteOf (s.list.getD (j / 8) 0#64) (j % 8)
theorem out_get (s : Sha.St) (j : Nat) (h : j < (Sha.out s).length) : (Sha.out s)[j] = outB s j := by
  have h' : j < 64 := by rw [Sha.out_length] at h; exact h
  have e : Sha.out s = (List.range 64).map (outB s) := by rfl
  simp [e]
def outF (s : Sha.St) (k j : Nat) : Value := if j < 8 * k then .int .u8 ((outB s j).toNat : Int) else .int .u8 0
theorem outF_step (s : Sha.St) (k : Nat) (_hk : k < 8) : Own.mkRow 64 (putF (outF s k) (8 * k) (s.list[k]?.getD 0#64) 8) = Own.mkRow 64 (outF s (k + 1)) := by
  refine Own.mkRow_congr (fun j hj => ?_)
  unfold putF outF
  by_cases h1 : 8 * k ≤ j ∧ j < 8 * k + 8
  · rw [if_pos h1, if_pos (by omega)]
    unfold outB
    rw [show j / 8 = k by omega, show j % 8 = j - 8 * k by omega, List.getD_eq_getElem?_getD]
  · rw [if_neg h1]
    by_cases h2 : j < 8 * k
    · rw [if_pos h2, if_pos (by omega)]
    · rw [if_neg h2, if_neg (by omega)]
theorem outF_byte (s : Sha.St) (k j : Nat) : ∃ v : Int, outF s k j = .int .u8 v := by
  unfold outF
  by_cases h : j < 8 * k
  · exact ⟨_, by rw [if_pos h]⟩
  · exact ⟨_, by rw [if_neg h]⟩
theorem state_range {w : World} {b : Nat} {s : Sha.St} {bs : Nat → UInt8} {m : Nat} (h : StateAt w b s bs m) : w.rangeAt b 0 (Own.mkRow 8 (hCell s)).toList := fun j v hv => by
  have hj : j < 8 := by have := (List.getElem?_eq_some_iff.1 hv).1; simpa [Own.mkRow_size] using this
  have h1 := Own.mkRow_get (f := hCell s) hj
  rw [Array.getElem?_toList, h1] at hv
  rw [Nat.zero_add, st_word h j hj, ← Option.some.inj hv]
  unfold hCell; rw [List.getD_eq_getElem?_getD]

set_option maxHeartbeats 2000000 in
set_option maxRecDepth 100000 in
theorem sum_any (w : World) (b : Nat) (s : Sha.St) (bs : Nat → UInt8) (m : Nat) (hst : StateAt w b s bs m) :
    Calls Tryd.prog 40 #[.pointer (some ⟨b, 0, none⟩)] w fun e w' => e = .returned (.string ⟨(Sha.out s).toArray⟩) ∧ Below w.heap.size w w' := by
  have HS : Hid _ := hst
  have hbl := st_lt hst
  clear hst
  have HS1 : Hid (StateAt (w.alloc (.cells (Own.zeros 64 (.int .u8 0)) 100)) b s bs m) := (Below.heap_alloc _ _ _ hbl).trans HS.out
  go_enter Tryd.func40, Tryd.ntmps40
  go_wp2_with (first
    | refine Own.wpList_alloc_at _ rfl 100 rfl (Own.zeros 64 (.int .u8 0)) (by kernel_rfl) ?_
    | refine wpList_load_mid rfl 45 _ rfl b 0 rfl (Own.mkRow 8 (hCell s)).toList _ (state_range HS1.out) Tryd.underlying45 rfl (by kernel_rfl) ?_)
  go_loopw [10] (fun i wq => ∃ k : Nat, k ≤ 8 ∧ i = .int .i64 (k : Int) ∧ Below w.heap.size w wq ∧ wq.heap[w.heap.size]? = some (.cells (Own.mkRow 64 (outF s k)) 100 (0, 0))) (fun i _ => 8 - (intOf i).toNat)
  case atStart => exact ⟨0, by omega, rfl, (Below.refl _ _).alloc (Nat.le_refl _) _, by rw [heap_alloc_new]; rfl⟩
  case round =>
    clear HS1
    rename World => wa
    obtain ⟨k, hk, rfl, hb, hr⟩ := hrel
    have HB : Hid _ := hb
    have HR : Hid _ := hr
    clear hb hr
    by_cases hk8 : k < 8
    · have hix : ∀ W : World, Sem.run Tryd.prog (Instr.index 45 (.agg (Own.mkRow 8 (hCell s))) (.int .i64 (k : Int))) W = .ok (.int .u64 (un (s.list[k]?.getD 0#64))) W := fun W => by rw [run_index_u64 W _ k hk8]; unfold hCell; rw [List.getD_eq_getElem?_getD]
      have hsl := fun W => slice64 W w.heap.size (8 * k) (8 * (k : Int)) (by omega) (by omega)
      go_wp2_with (first
        | (go_at_call 63; refine (putWord_any _ w.heap.size (8 * k) _ _ 64 (outF s k) 100 (s.list[k]?.getD 0#64) (by omega) (by omega) (by omega) (by decide) (fun j _ _ => outF_byte s k j) HR.out).mono ?_; rintro e w2 ⟨rfl, ho2, hr2⟩; rw [outF_step s k hk8] at hr2; have HO2 : Hid _ := ho2; have HR2 : Hid _ := hr2; clear ho2 hr2))
      exact ⟨⟨k + 1, by omega, by go_num, HB.out.trans (HO2.out.below _ (Nat.le_refl _) HB.out.size), HR2.out⟩, by simp [intOf]; omega⟩
    · obtain rfl : k = 8 := by omega
      have hsl := fun W => slice64_all W w.heap.size
      have HC : Hid (∀ j (h : j < (Sha.out s).length), wa.cell? ⟨w.heap.size, 0 + j, none⟩ = some (.int .u8 ((Sha.out s)[j].toNat : Int))) := fun j hj => by
        have hj' : j < 64 := by rw [Sha.out_length] at hj; exact hj
        rw [Nat.zero_add, Own.row_cell HR.out j hj', out_get]
        unfold outF
        rw [if_pos (by omega)]
      go_wp2_with (refine Own.wpList_string_at _ rfl _ 38 9 5 rfl Tryd.underlying38 Tryd.underlying5 Tryd.underlying9 w.heap.size 0 64 (Sha.out s) rfl HC.out ?_)
      go_ret
      exact ⟨rfl, HB.out⟩

/-- The state ahead of the first block. -/
def startRow : Array Value := Own.mkRow 137 (stF Sha.start (fun _ => 0) 0)
def zeroRow : Array Value := Own.mkRow 137 (stF ⟨0#64, 0#64, 0#64, 0#64, 0#64, 0#64, 0#64, 0#64⟩ (fun _ => 0) 0)
theorem startRow_one : startRow.all (·.oneCell') = true := Own.all_one fun j _ => by
  unfold stF
  by_cases h : j < 8
  · rw [if_pos h]; rfl
  · rw [if_neg h]
    by_cases h2 : j < 136
    · rw [if_pos h2]; rfl
    · rw [if_neg h2]; rfl
set_option maxHeartbeats 2000000 in
set_option maxRecDepth 100000 in
theorem start_any (w : World) :
    Calls Tryd.prog 37 #[] w fun e w' => e = .returned (.agg startRow) ∧ Below w.heap.size w w' := by
  go_enter Tryd.func37, Tryd.ntmps37
  go_wp2_with (first
    | refine Own.wpList_alloc_at _ rfl 69 rfl zeroRow (by kernel_rfl) ?_
    | refine Own.wpList_build_at rfl 45 _ rfl (Own.mkRow 8 (hCell Sha.start)) (by kernel_rfl) ?_
    | refine Own.wpList_build_at rfl 69 _ rfl startRow (by kernel_rfl) ?_
    | refine Own.wpList_store_new rfl 69 _ _ rfl zeroRow startRow 69 rfl rfl (by kernel_rfl) (by kernel_rfl) startRow_one ?_)
  exact Own.ret_row Tryd.results37 rfl _ _ _ _ _ rfl (heap_alloc_new _ _) Tryd.underlying69 rfl (by kernel_rfl) ⟨rfl, (Below.refl _ _).alloc (Nat.le_refl _) _⟩
end Hs
end Go.Proofs.YtkmpokneflgmbaaDoor
