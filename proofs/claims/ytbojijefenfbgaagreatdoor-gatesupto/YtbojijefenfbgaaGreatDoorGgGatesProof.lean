/- Proved here: whatever script is handed in (of bulk at most 1048576), the statement Gates answers true: gates of the program's and of the document's, made, asked to admit, to close and how they stand, answer the same at every step and at the end.
  Conditions: the row's own ('upto': the bulk; 'laid': the program's table of round words starts as its text lays it, tied by the card). -/
import Derived.Test.YtbojijefenfbgaaGreatDoorGgLawF
namespace Go.Proofs.YtbojijefenfbgaaGreatDoor.GatesP
open Go.ChangeShapes Go.WideShapes Go.ChangeAt Go.RowKit
theorem f_named : Tryz.pinned.checked.prog.funcNamed aloneRow.func = some 5 := by kernel_rfl
theorem saidAlone : aloneRow.holds Tryz.pinned (Rows.OpenSpec.upto Rows.gatesSpec) :=
 OpenClaim.holds_of_cond 5 Tryz.f5 rfl rfl rfl rfl rfl rfl rfl ⟨rfl, rfl, rfl, rfl, rfl⟩ rfl rfl rfl rfl rfl f_named Tryz.func5 f_facts
  (of_decide_eq_true (by kernel_rfl)) (by unfold Func.isWrapper; first | (rw [if_pos (by decide +kernel)]; kernel_rfl) | (rw [if_neg (by decide +kernel)]; exact ⟨rfl, rfl⟩))
  (fun os started H enc _ F => by rw [OpenClaim.pre_eq_preRow]; exact liftedUpto os started H enc F)
theorem saidUpto : Rows.GatesUptoSaid := of_alone rfl rfl rfl rfl saidAlone
theorem plain (f : FuncId) (fn : Func) (hf : Tryz.pinned.checked.prog.funcNamed "postern/posternlaw.Gates" = some f) (hfn : Tryz.pinned.checked.prog.funcs[f]? = some fn) :
  false = Tryz.pinned.checked.prog.looks [] ∧ ∀ (j : Nat) t, fn.params[j]? = some t → Tryz.pinned.checked.prog.wantsStandIn t = false := by
 obtain rfl : f = 5 := Option.some.inj ((show Tryz.prog.funcNamed "postern/posternlaw.Gates" = some 5 by kernel_rfl).symm.trans hf) |>.symm
 obtain rfl : fn = Tryz.f5 := (Option.some.inj (Tryz.func5.symm.trans hfn)).symm
 refine ⟨by kernel_rfl, fun j t ht => ?_⟩
 rw [Tryz.params5] at ht
 have hm := Array.mem_of_getElem? ht
 simp only [List.mem_toArray, List.mem_cons, List.not_mem_nil, or_false] at hm
 rcases hm with rfl
 exact (show Tryz.prog.wantsStandIn 53 = false by kernel_rfl)
theorem sixth_no : ∀ r : OpenClaim, Claim7.isSixth { stood := { row := r, standIns := [], harness := (true, "8169f78751686a46a4e5448e96568acf274fe63c514f1493ca154dfef54a7b32"), looks := false }, kinds := [] } = false := fun _ => rfl
theorem goes_by : true = Rows.gatesUptoRow.goesBy Tryz.pinned.checked.prog := by kernel_rfl
theorem cardUpto : Rows.GatesUptoCardSaid := by
 refine ⟨?_, fun D hD => ?_, gatesUpto_row_tie, fun h => ?_, goes_by⟩
 ·exact Claim7.tied_new_at .later [.data] true (Claim7.new_of_sixth saidUpto (true, "8169f78751686a46a4e5448e96568acf274fe63c514f1493ca154dfef54a7b32") false rfl ⟨rfl, rfl⟩ (by kernel_rfl) (sixth_no _) plain) (by kernel_rfl)
 ·cases hD
 ·cases h
end Go.Proofs.YtbojijefenfbgaaGreatDoor.GatesP
namespace Go.Proofs.YtbojijefenfbgaaGreatDoor
theorem gatesUpto_card : Rows.GatesUptoCardSaid := GatesP.cardUpto
end Go.Proofs.YtbojijefenfbgaaGreatDoor
