/- Proved here: whatever seed and steps are handed in (together of bulk at most 1048576), the statement Met answers true: when all gates of a town have told one another all they know, they know the same, and let none of it in again.
  Conditions: the row's own ('upto': the bulk; 'laid': the program's table of round words starts as its text lays it, tied by the card). -/
import Derived.Test.YtbojijefenfbgaaGreatDoorMmMetP
namespace Go.Proofs.YtbojijefenfbgaaGreatDoor.MetP
open Go.ChangeShapes Go.WideShapes Go.ChangeAt Go.RowKit
theorem k0l : Tryz.pinned.checked.prog.funcNamed z2w.func = some 7 := by kernel_rfl
theorem x7z : z2w.holds Tryz.pinned (Rows.OpenSpec.upto Rows.metSpec) :=
 OpenClaim.holds_of_cond 7 Tryz.f7 rfl rfl rfl rfl rfl rfl rfl ⟨rfl, rfl, rfl, rfl, rfl⟩ rfl rfl rfl rfl rfl k0l Tryz.func7 k1h
  (of_decide_eq_true (by kernel_rfl)) (by unfold Func.isWrapper; first | (rw [if_pos (by decide +kernel)]; kernel_rfl) | (rw [if_neg (by decide +kernel)]; exact ⟨rfl, rfl⟩))
  (fun os started H enc _ F => by rw [OpenClaim.pre_eq_preRow]; exact q6y os started H enc F)
theorem q1f : Rows.MetUptoSaid := GatesP.q2v rfl rfl rfl rfl x7z
theorem plain (f : FuncId) (fn : Func) (hf : Tryz.pinned.checked.prog.funcNamed "postern/posternkeep.Met" = some f) (hfn : Tryz.pinned.checked.prog.funcs[f]? = some fn) :
  false = Tryz.pinned.checked.prog.looks [] ∧ ∀ (j : Nat) t, fn.params[j]? = some t → Tryz.pinned.checked.prog.wantsStandIn t = false := by
 obtain rfl : f = 7 := Option.some.inj ((show Tryz.prog.funcNamed "postern/posternkeep.Met" = some 7 by kernel_rfl).symm.trans hf) |>.symm
 obtain rfl : fn = Tryz.f7 := (Option.some.inj (Tryz.func7.symm.trans hfn)).symm
 refine ⟨by kernel_rfl, fun j t ht => ?_⟩
 rw [Tryz.params7] at ht
 have hm := Array.mem_of_getElem? ht
 simp only [List.mem_toArray, List.mem_cons, List.not_mem_nil, or_false] at hm
 rcases hm with rfl | rfl
 ·exact (show Tryz.prog.wantsStandIn 9 = false by kernel_rfl)
 ·exact (show Tryz.prog.wantsStandIn 56 = false by kernel_rfl)
theorem q2l : ∀ r : OpenClaim, Claim7.isSixth { stood := { row := r, standIns := [], harness := (true, "8169f78751686a46a4e5448e96568acf274fe63c514f1493ca154dfef54a7b32"), looks := false }, kinds := [] } = false := fun _ => rfl
theorem q9y : true = Rows.metUptoRow.goesBy Tryz.pinned.checked.prog := by kernel_rfl
theorem q1c : Rows.MetUptoCardSaid := by
 refine ⟨?_, fun D hD => ?_, metUpto_row_tie, fun h => ?_, q9y⟩
 ·exact Claim7.tied_new_at .later [.data] true (Claim7.new_of_sixth q1f (true, "8169f78751686a46a4e5448e96568acf274fe63c514f1493ca154dfef54a7b32") false rfl ⟨rfl, rfl⟩ (by kernel_rfl) (q2l _) plain) (by kernel_rfl)
 ·cases hD
 ·cases h
end Go.Proofs.YtbojijefenfbgaaGreatDoor.MetP
namespace Go.Proofs.YtbojijefenfbgaaGreatDoor
theorem metUpto_card : Rows.MetUptoCardSaid := MetP.q1c
end Go.Proofs.YtbojijefenfbgaaGreatDoor
