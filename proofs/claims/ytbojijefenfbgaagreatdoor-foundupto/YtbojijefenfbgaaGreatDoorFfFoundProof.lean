/- Proved here: whatever seed and steps are handed in (together of bulk at most 1048576), the statement Found answers true: just the tickets that more than one gate has let in are found, and by whom.
  Conditions: the row's own ('upto': the bulk; 'laid': the program's table of round words starts as its text lays it, tied by the card). -/
import Derived.Test.YtbojijefenfbgaaGreatDoorFfGatesA
namespace Go.Proofs.YtbojijefenfbgaaGreatDoor.FoundP
open Go.ChangeShapes Go.WideShapes Go.ChangeAt Go.RowKit
theorem q7h : Tryz.pinned.checked.prog.funcNamed z2q.func = some 8 := by kernel_rfl
theorem x8f : z2q.holds Tryz.pinned (Rows.OpenSpec.upto Rows.foundSpec) :=
 OpenClaim.holds_of_cond 8 Tryz.f8 rfl rfl rfl rfl rfl rfl rfl ⟨rfl, rfl, rfl, rfl, rfl⟩ rfl rfl rfl rfl rfl q7h Tryz.func8 q7g
  (of_decide_eq_true (by kernel_rfl)) (by unfold Func.isWrapper; first | (rw [if_pos (by decide +kernel)]; kernel_rfl) | (rw [if_neg (by decide +kernel)]; exact ⟨rfl, rfl⟩))
  (fun os started H enc _ F => by rw [OpenClaim.pre_eq_preRow]; exact q8m os started H enc F)
theorem q3m : Rows.FoundUptoSaid := GatesP.q2n rfl rfl rfl rfl x8f
theorem plain (f : FuncId) (fn : Func) (hf : Tryz.pinned.checked.prog.funcNamed "postern/posternkeep.Found" = some f) (hfn : Tryz.pinned.checked.prog.funcs[f]? = some fn) :
  false = Tryz.pinned.checked.prog.looks [] ∧ ∀ (j : Nat) t, fn.params[j]? = some t → Tryz.pinned.checked.prog.wantsStandIn t = false := by
 obtain rfl : f = 8 := Option.some.inj ((show Tryz.prog.funcNamed "postern/posternkeep.Found" = some 8 by kernel_rfl).symm.trans hf) |>.symm
 obtain rfl : fn = Tryz.f8 := (Option.some.inj (Tryz.func8.symm.trans hfn)).symm
 refine ⟨by kernel_rfl, fun j t ht => ?_⟩
 rw [Tryz.params8] at ht
 have hm := Array.mem_of_getElem? ht
 simp only [List.mem_toArray, List.mem_cons, List.not_mem_nil, or_false] at hm
 rcases hm with rfl | rfl
 ·exact (show Tryz.prog.wantsStandIn 9 = false by kernel_rfl)
 ·exact (show Tryz.prog.wantsStandIn 56 = false by kernel_rfl)
theorem q3u : ∀ r : OpenClaim, Claim7.isSixth { stood := { row := r, standIns := [], harness := (true, "8169f78751686a46a4e5448e96568acf274fe63c514f1493ca154dfef54a7b32"), looks := false }, kinds := [] } = false := fun _ => rfl
theorem q7v : true = Rows.foundUptoRow.goesBy Tryz.pinned.checked.prog := by kernel_rfl
theorem q0j : Rows.FoundUptoCardSaid := by
 refine ⟨?_, fun D hD => ?_, foundUpto_row_tie, fun h => ?_, q7v⟩
 ·exact Claim7.tied_new_at .later [.data] true (Claim7.new_of_sixth q3m (true, "8169f78751686a46a4e5448e96568acf274fe63c514f1493ca154dfef54a7b32") false rfl ⟨rfl, rfl⟩ (by kernel_rfl) (q3u _) plain) (by kernel_rfl)
 ·cases hD
 ·cases h
end Go.Proofs.YtbojijefenfbgaaGreatDoor.FoundP
namespace Go.Proofs.YtbojijefenfbgaaGreatDoor
theorem foundUpto_card : Rows.FoundUptoCardSaid := FoundP.q0j
end Go.Proofs.YtbojijefenfbgaaGreatDoor
