/- Walks of the document's own reckoning: add, sub. Walks of the document's own reckoning: sub. Walks of the document's own reckoning: mul. The document's numbers as elements of F; power. Walks of the document's own reckoning: divided, under, curve. -/
import Derived.Test.YtbojijefenfbgaaGreatDoorFfDocM
import Derived.StillTailTactics
import Derived.Test.YtbojijefenfbgaaGreatDoorFfSignD
import Derived.Test.YtbojijefenfbgaaGreatDoorFfPrimes
import Derived.Test.YtbojijefenfbgaaGreatDoorFfOwn
namespace Go.Proofs.YtbojijefenfbgaaGreatDoor
open Go.RowKit
namespace Dc
open Bt
theorem al1 {w w0 : World} {A : Array Value} {s : TypeId} (h : w.alloc (.cells A s) = w0) : w0.heap[w.heap.size]? = some (.cells A s (0, 0)) ∧ Below w.heap.size w w0 := by
 subst h
 exact ⟨heap_alloc_new _ _, (Below.refl _ _).alloc (Nat.le_refl _) _⟩
end Dc
end Go.Proofs.YtbojijefenfbgaaGreatDoor
namespace Go.Proofs.YtbojijefenfbgaaGreatDoor
open Go.RowKit
namespace Dc
open Bt
end Dc
end Go.Proofs.YtbojijefenfbgaaGreatDoor
namespace Go.Proofs.YtbojijefenfbgaaGreatDoor
open Go.RowKit
namespace Dc
open Bt
end Dc
end Go.Proofs.YtbojijefenfbgaaGreatDoor
namespace Go.Proofs.YtbojijefenfbgaaGreatDoor
open Go.RowKit
namespace Dc
open Bt Ed
theorem k5g : ∃ f : F → Array Value, ∀ x : F, f x = nm (x.val : Int) := ⟨fun x => nm (x.val : Int), fun _ => rfl⟩
noncomputable def rn : F → Array Value := Classical.choose k5g
theorem q5q (x : F) : rn x = nm (x.val : Int) := Classical.choose_spec k5g x
end Dc
end Go.Proofs.YtbojijefenfbgaaGreatDoor
namespace Go.Proofs.YtbojijefenfbgaaGreatDoor
open Go.RowKit
namespace Dc
open Bt Ed
end Dc
end Go.Proofs.YtbojijefenfbgaaGreatDoor
