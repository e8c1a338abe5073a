/- Walks of the document's gate: high, ahead, gone. Walk of the document's gate: put. As QRel, over any order of worlds: an operation may write what the order lets it. -/
import Derived.Test.YtbojijefenfbgaaGreatDoorTtGateG
import Derived.Test.YtbojijefenfbgaaGreatDoorTtDocX
namespace Go.Proofs.YtbojijefenfbgaaGreatDoor
open Go Go.RowKit
namespace Gt
open Mp Bk Tk
end Gt
open Go Go.RowKit
namespace Gt
open Mp Bk Tk
end Gt
open Go Go.RowKit
namespace Qt
structure Ord (T : World → World → Prop) : Prop where
 trans : ∀ {u v w}, T u v → T v w → T u w
 drawn : ∀ w : World, T w { w with drawn := w.drawn + 1 }
section
variable {P : Program} {T : Nat → World → World → Prop} {G : Bool → World → Prop} {m : Nat} {l : List Oper} {n : Nat} {R : Nat → Value → World → Prop} {a0 : Act} {Q : Exit → Act → World → Prop}
end
end Qt
end Go.Proofs.YtbojijefenfbgaaGreatDoor
