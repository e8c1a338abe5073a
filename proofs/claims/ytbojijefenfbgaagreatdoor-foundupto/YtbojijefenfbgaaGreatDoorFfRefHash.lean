/-  -/
import Derived.Test.YtbojijefenfbgaaGreatDoorFfHashWalks
import Derived.Test.YtbojijefenfbgaaGreatDoorFfOwn
import Derived.WalkKit
import Derived.WalkSpells
import Derived.WalkLawsBesides
import Derived.BigQuiet
import Derived.KernelRfl
import Derived.Deep.CutRange
import Derived.Deep.DeepCutAuto
import Derived.Deep.RegionWith
import Derived.Deep.LoopGhost
import Derived.Deep.QuietTactic
namespace Go.Proofs.YtbojijefenfbgaaGreatDoor
open Go.RowKit
attribute [local go_sem] UV.z6k UV.z5r UV.z6l UV.z6m UV.z4s UV.y1i UV.z4a UV.z4i UV.z5s UV.z3m UV.z1a
theorem k9r (x : BitVec 64) : un x / (128 : Int) = un (x >>> 7) := UV.z4a x 7
theorem k9q (x : BitVec 64) : un x / (64 : Int) = un (x >>> 6) := UV.z4a x 6
def z2l (b : Nat → BitVec 64) (k j : Nat) : Value := if j < k then .int .u64 (un (Sha.W b j)) else .int .u64 0
theorem z8e (b : Nat → BitVec 64) (k : Nat) (v : Value) (hv : v = .int .u64 (un (Sha.W b k))) : Own.z0g 80 (fun j => if j = k then v else z2l b k j) = Own.z0g 80 (z2l b (k + 1)) := by
 refine Own.z0k (fun j hj => ?_)
 by_cases e : j = k
 ·rw [if_pos e, hv, e]; unfold z2l; rw [if_pos (by omega)]
 ·rw [if_neg e]; unfold z2l
  by_cases h : j < k
  ·rw [if_pos h, if_pos (by omega)]
  ·rw [if_neg h, if_neg (by omega)]
theorem z4n (b : Nat → BitVec 64) (k j : Nat) (h : j < k) : z2l b k j = .int .u64 (un (Sha.W b j)) := by unfold z2l; rw [if_pos h]
theorem y4h (b : Nat → BitVec 64) (k j : Nat) (h : k ≤ j) : z2l b k j = .int .u64 0 := by unfold z2l; rw [if_neg (by omega)]
def x4k (c s : Sha.St) (k j : Nat) : Value := .int .u64 (un (if j < k then c.list.getD j 0#64 + s.list.getD j 0#64 else c.list.getD j 0#64))
theorem z3b {w : World} {g : Nat} {s : Sha.St} {t : TypeId} {k : Nat} (h : w.heap[g]? = some (.cells (Own.z0g 8 (z8l s)) t (0, 0))) (hk : k < 8) : w.cell? ⟨g, k, none⟩ = some (.int .u64 (un (s.list[k]?.getD 0#64))) := by
 rw [Own.z0p h k hk]; unfold z8l; rw [List.getD_eq_getElem?_getD]
end Go.Proofs.YtbojijefenfbgaaGreatDoor
