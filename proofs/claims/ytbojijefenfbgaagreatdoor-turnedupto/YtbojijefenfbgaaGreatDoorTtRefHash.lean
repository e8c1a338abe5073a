/-  -/
import Derived.Test.YtbojijefenfbgaaGreatDoorTtHashWalks
import Derived.Deep.CutRange
import Derived.Deep.DeepCutAuto
import Derived.Deep.RegionWith
import Derived.Deep.LoopGhost
import Derived.Deep.QuietTactic
namespace Go.Proofs.YtbojijefenfbgaaGreatDoor
open Go.RowKit
attribute [local go_sem] UV.z6q UV.z5u UV.z6r UV.z6s UV.z4x UV.y1w UV.z3z UV.z4m UV.z5v UV.z3n UV.z1c
theorem j0z (x : BitVec 64) : un x / (128 : Int) = un (x >>> 7) := UV.z3z x 7
theorem j0y (x : BitVec 64) : un x / (64 : Int) = un (x >>> 6) := UV.z3z x 6
def z2p (b : Nat → BitVec 64) (k j : Nat) : Value := if j < k then .int .u64 (un (Sha.W b j)) else .int .u64 0
theorem z8k (b : Nat → BitVec 64) (k : Nat) (v : Value) (hv : v = .int .u64 (un (Sha.W b k))) : Own.z0f 80 (fun j => if j = k then v else z2p b k j) = Own.z0f 80 (z2p b (k + 1)) := by
 refine Own.z0k (fun j hj => ?_)
 by_cases e : j = k
 ·rw [if_pos e, hv, e]; unfold z2p; rw [if_pos (by omega)]
 ·rw [if_neg e]; unfold z2p
  by_cases h : j < k
  ·rw [if_pos h, if_pos (by omega)]
  ·rw [if_neg h, if_neg (by omega)]
theorem z4t (b : Nat → BitVec 64) (k j : Nat) (h : j < k) : z2p b k j = .int .u64 (un (Sha.W b j)) := by unfold z2p; rw [if_pos h]
theorem y5d (b : Nat → BitVec 64) (k j : Nat) (h : k ≤ j) : z2p b k j = .int .u64 0 := by unfold z2p; rw [if_neg (by omega)]
def x5h (c s : Sha.St) (k j : Nat) : Value := .int .u64 (un (if j < k then c.list.getD j 0#64 + s.list.getD j 0#64 else c.list.getD j 0#64))
theorem z3s {w : World} {g : Nat} {s : Sha.St} {t : TypeId} {k : Nat} (h : w.heap[g]? = some (.cells (Own.z0f 8 (z8s s)) t (0, 0))) (hk : k < 8) : w.cell? ⟨g, k, none⟩ = some (.int .u64 (un (s.list[k]?.getD 0#64))) := by
 rw [Own.z0o h k hk]; unfold z8s; rw [List.getD_eq_getElem?_getD]
end Go.Proofs.YtbojijefenfbgaaGreatDoor
