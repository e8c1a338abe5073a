/- Proved here: whatever script is handed in (of bulk at most 1048576), the statement All answers true: gates of the program's and of the document's, made, asked to admit, to close, how they stand, for digests, news and what was let in twice, told and heard, answer the same at every step and at the end, and no list that came out is changed behind its owner's back.
  Conditions: the row's own ('upto': the bulk; 'laid': the program's table of round words starts as its text lays it, tied by the card). -/
import Derived.Test.YtbojijefenfbgaaGreatDoorAaLwF
open Option renaming some->Z
set_option maxHeartbeats 4000000
open Go Go.RowKit Go.Proofs.Tryz
namespace Go.Proofs.YtbojijefenfbgaaGreatDoor.AllP
open Go.ChangeShapes Go.WideShapes Go.ChangeAt Go.RowKit
theorem QY:Tryz.pinned.checked.prog.funcNamed qB.func=Z 6:=kr
theorem TJ:qB.holds Tryz.pinned (Rows.OpenSpec.upto Rows.allSpec):=
 OpenClaim.holds_of_cond 6 Tryz.f6 rfl rfl rfl rfl rfl rfl rfl ⟨rfl,rfl,rfl,rfl,rfl⟩ rfl rfl rfl rfl rfl QY func6 QX
  (of_decide_eq_true kr) (by unfold Func.isWrapper;first|(rw[if_pos (by decide+kernel)];kernel_rfl)|(rw[if_neg (by decide+kernel)];exact⟨rfl,rfl⟩))
  (fun os b a enc _ F=>by rw[OpenClaim.pre_eq_preRow];exact XS os b a enc F)
theorem PV:Rows.AllUptoSaid:=Pv rfl rfl rfl rfl TJ
theorem plain(f:FuncId)(a:Func)(d:Tryz.pinned.checked.prog.funcNamed "postern/posternlaw.All" =Z f)(e:Tryz.pinned.checked.prog.funcs[f]? =Z a):
  false=Tryz.pinned.checked.prog.looks []/\∀(j:Nat) t,a.params[j]? =Z t->Tryz.pinned.checked.prog.wantsStandIn t=false:=by
 obtain rfl:f=6:=Option.some.inj ((show prog.funcNamed "postern/posternlaw.All" =Z 6 by kernel_rfl).symm.trans d)|>.symm;obtain rfl:a=Tryz.f6:=(Option.some.inj (func6.symm.trans e)).symm;refine⟨kr,fun j t c=> ?_⟩;rw[Tryz.params6] at c;have b:=Array.mem_of_getElem? c;simp only[List.mem_toArray,List.mem_cons,List.not_mem_nil,or_false] at b;rcases b with rfl;exact(show prog.wantsStandIn 53=false by kernel_rfl)
theorem PY:∀r:OpenClaim,Claim7.isSixth {stood:={row:=r,standIns:=[],harness:=(true, "8169f78751686a46a4e5448e96568acf274fe63c514f1493ca154dfef54a7b32"),looks:=false},kinds:=[]}=false:=fun _=>rfl
theorem Rc:true=Rows.allUptoRow.goesBy Tryz.pinned.checked.prog:=kr
theorem Uu:Rows.AllUptoCardSaid:=by
 refine⟨?_,fun a hD=> ?_,allUpto_row_tie,fun h=> ?_,Rc⟩
 ·exact Claim7.tied_new_at .later [.data] true (Claim7.new_of_sixth PV (true, "8169f78751686a46a4e5448e96568acf274fe63c514f1493ca154dfef54a7b32") false rfl ⟨rfl,rfl⟩ kr (PY _) plain) kr
 ·cases hD
 ·cases h
end Go.Proofs.YtbojijefenfbgaaGreatDoor.AllP
namespace Go.Proofs.YtbojijefenfbgaaGreatDoor
theorem allUpto_card:Rows.AllUptoCardSaid:=AllP.Uu
