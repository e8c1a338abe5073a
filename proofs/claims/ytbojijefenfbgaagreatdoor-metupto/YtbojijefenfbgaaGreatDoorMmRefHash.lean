/-  -/
import Derived.Test.YtbojijefenfbgaaGreatDoorMmHashWalks
import Derived.Test.YtbojijefenfbgaaGreatDoorMmOwn
import Derived.WalkKit
import Derived.WalkSpells
import Derived.WalkLawsBesides
import Derived.BigQuiet
import Derived.KernelRfl
import Derived.Deep.CutRange
import Derived.Deep.DeepCutAuto
import Derived.Deep.RegionWith
import Derived.Deep.LoopGhost
import Derived.Deep.QuietTactic
namespace Go.Proofs.YtbojijefenfbgaaGreatDoor
open Go.RowKit
attribute [local go_sem] UV.z6m UV.z5x UV.z6g UV.z6i UV.z4w UV.y1l UV.z4a UV.z4j UV.z5u UV.z3l UV.z1b
theorem k9h (x : BitVec 64) : un x / (128 : Int) = un (x >>> 7) := UV.z4a x 7
theorem k9p (x : BitVec 64) : un x / (64 : Int) = un (x >>> 6) := UV.z4a x 6
def z2n (b : Nat → BitVec 64) (k j : Nat) : Value := if j < k then .int .u64 (un (Sha.W b j)) else .int .u64 0
theorem z8h (b : Nat → BitVec 64) (k : Nat) (v : Value) (hv : v = .int .u64 (un (Sha.W b k))) : Own.z0g 80 (fun j => if j = k then v else z2n b k j) = Own.z0g 80 (z2n b (k + 1)) := by
 refine Own.z0k (fun j hj => ?_)
 by_cases e : j = k
 ·rw [if_pos e, hv, e]; unfold z2n; rw [if_pos (by omega)]
 ·rw [if_neg e]; unfold z2n
  by_cases h : j < k
  ·rw [if_pos h, if_pos (by omega)]
  ·rw [if_neg h, if_neg (by omega)]
theorem z4p (b : Nat → BitVec 64) (k j : Nat) (h : j < k) : z2n b k j = .int .u64 (un (Sha.W b j)) := by unfold z2n; rw [if_pos h]
theorem y3x (b : Nat → BitVec 64) (k j : Nat) (h : k ≤ j) : z2n b k j = .int .u64 0 := by unfold z2n; rw [if_neg (by omega)]
def x9i (c s : Sha.St) (k j : Nat) : Value := .int .u64 (un (if j < k then c.list.getD j 0#64 + s.list.getD j 0#64 else c.list.getD j 0#64))
theorem z2h {w : World} {g : Nat} {s : Sha.St} {t : TypeId} {k : Nat} (h : w.heap[g]? = some (.cells (Own.z0g 8 (z8r s)) t (0, 0))) (hk : k < 8) : w.cell? ⟨g, k, none⟩ = some (.int .u64 (un (s.list[k]?.getD 0#64))) := by
 rw [Own.z0q h k hk]; unfold z8r; rw [List.getD_eq_getElem?_getD]
end Go.Proofs.YtbojijefenfbgaaGreatDoor
