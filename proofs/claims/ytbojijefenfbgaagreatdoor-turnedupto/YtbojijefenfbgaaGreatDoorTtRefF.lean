/- Walk of the document's gate: Admit. Walk of the document's gate: Close. -/
import Derived.Test.YtbojijefenfbgaaGreatDoorTtRefC
namespace Go.Proofs.YtbojijefenfbgaaGreatDoor
open Go Go.RowKit
namespace Gt
open Mp Bk Tk
section
variable {ops : Array Oper} {rest : List Oper} {o : Oper} {a : Act} {w : World} {Q : Exit → Act → World → Prop}
end
end Gt
open Go Go.RowKit
namespace Gt
open Mp Bk Tk
end Gt
end Go.Proofs.YtbojijefenfbgaaGreatDoor
