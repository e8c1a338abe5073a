/- Walks of the document's own reckoning: add, sub. Walks of the document's own reckoning: sub. Walks of the document's own reckoning: mul. The document's numbers as elements of F; power. Walks of the document's own reckoning: divided, under, curve. -/
import Derived.Test.YtbojijefenfbgaaGreatDoorTtDocM
import Derived.Test.YtbojijefenfbgaaGreatDoorTtSignD
namespace Go.Proofs.YtbojijefenfbgaaGreatDoor
open Go.RowKit
namespace Dc
open Bt
theorem al1 {w w0 : World} {A : Array Value} {s : TypeId} (h : w.alloc (.cells A s) = w0) : w0.heap[w.heap.size]? = some (.cells A s (0, 0)) ∧ Below w.heap.size w w0 := by
 subst h
 exact ⟨heap_alloc_new _ _, (Below.refl _ _).alloc (Nat.le_refl _) _⟩
end Dc
open Go.RowKit
namespace Dc
open Bt
end Dc
open Go.RowKit
namespace Dc
open Bt
end Dc
open Go.RowKit
namespace Dc
open Bt Ed
theorem k6h : ∃ f : F → Array Value, ∀ x : F, f x = nm (x.val : Int) := ⟨fun x => nm (x.val : Int), fun _ => rfl⟩
noncomputable def rn : F → Array Value := Classical.choose k6h
theorem q6j (x : F) : rn x = nm (x.val : Int) := Classical.choose_spec k6h x
end Dc
open Go.RowKit
namespace Dc
open Bt Ed
end Dc
end Go.Proofs.YtbojijefenfbgaaGreatDoor
