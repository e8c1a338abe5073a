/- Proved here: whatever seed, steps and turn are handed in (together of bulk at most 1048576), the statement Turned answers true: news without orders may be heard in any order, and twice.
  Conditions: the row's own ('upto': the bulk; 'laid': the program's table of round words starts as its text lays it, tied by the card). -/
import Derived.Test.YtbojijefenfbgaaGreatDoorTtGatesA
namespace Go.Proofs.YtbojijefenfbgaaGreatDoor.TurnP
open Go.ChangeShapes Go.WideShapes Go.ChangeAt Go.RowKit
theorem q8e : Tryz.pinned.checked.prog.funcNamed z2s.func = some 9 := by kernel_rfl
theorem x8y : z2s.holds Tryz.pinned (Rows.OpenSpec.upto Rows.turnedSpec) :=
 OpenClaim.holds_of_cond 9 Tryz.f9 rfl rfl rfl rfl rfl rfl rfl ⟨rfl, rfl, rfl, rfl, rfl⟩ rfl rfl rfl rfl rfl q8e Tryz.func9 q8d
  (of_decide_eq_true (by kernel_rfl)) (by unfold Func.isWrapper; first | (rw [if_pos (by decide +kernel)]; kernel_rfl) | (rw [if_neg (by decide +kernel)]; exact ⟨rfl, rfl⟩))
  (fun os started H enc _ F => by rw [OpenClaim.pre_eq_preRow]; exact q9l os started H enc F)
theorem q4f : Rows.TurnedUptoSaid := GatesP.q3c rfl rfl rfl rfl x8y
theorem plain (f : FuncId) (fn : Func) (hf : Tryz.pinned.checked.prog.funcNamed "postern/posternkeep.Turned" = some f) (hfn : Tryz.pinned.checked.prog.funcs[f]? = some fn) :
  false = Tryz.pinned.checked.prog.looks [] ∧ ∀ (j : Nat) t, fn.params[j]? = some t → Tryz.pinned.checked.prog.wantsStandIn t = false := by
 obtain rfl : f = 9 := Option.some.inj ((show Tryz.prog.funcNamed "postern/posternkeep.Turned" = some 9 by kernel_rfl).symm.trans hf) |>.symm
 obtain rfl : fn = Tryz.f9 := (Option.some.inj (Tryz.func9.symm.trans hfn)).symm
 refine ⟨by kernel_rfl, fun j t ht => ?_⟩
 rw [Tryz.params9] at ht
 have hm := Array.mem_of_getElem? ht
 simp only [List.mem_toArray, List.mem_cons, List.not_mem_nil, or_false] at hm
 rcases hm with rfl | rfl | rfl
 ·exact (show Tryz.prog.wantsStandIn 9 = false by kernel_rfl)
 ·exact (show Tryz.prog.wantsStandIn 56 = false by kernel_rfl)
 ·exact (show Tryz.prog.wantsStandIn 3 = false by kernel_rfl)
theorem q4m : ∀ r : OpenClaim, Claim7.isSixth { stood := { row := r, standIns := [], harness := (true, "8169f78751686a46a4e5448e96568acf274fe63c514f1493ca154dfef54a7b32"), looks := false }, kinds := [] } = false := fun _ => rfl
theorem q8s : true = Rows.turnedUptoRow.goesBy Tryz.pinned.checked.prog := by kernel_rfl
theorem q1d : Rows.TurnedUptoCardSaid := by
 refine ⟨?_, fun D hD => ?_, turnedUpto_row_tie, fun h => ?_, q8s⟩
 ·exact Claim7.tied_new_at .later [.data] true (Claim7.new_of_sixth q4f (true, "8169f78751686a46a4e5448e96568acf274fe63c514f1493ca154dfef54a7b32") false rfl ⟨rfl, rfl⟩ (by kernel_rfl) (q4m _) plain) (by kernel_rfl)
 ·cases hD
 ·cases h
end Go.Proofs.YtbojijefenfbgaaGreatDoor.TurnP
namespace Go.Proofs.YtbojijefenfbgaaGreatDoor
theorem turnedUpto_card : Rows.TurnedUptoCardSaid := TurnP.q1d
end Go.Proofs.YtbojijefenfbgaaGreatDoor
