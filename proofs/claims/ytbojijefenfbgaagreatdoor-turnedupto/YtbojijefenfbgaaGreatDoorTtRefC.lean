/- Walk of the document's book of signatures that were asked. Walks of the document's gate: New, Look. Walk of the document's gate: Look. -/
import Derived.Test.YtbojijefenfbgaaGreatDoorTtRefA
namespace Go.Proofs.YtbojijefenfbgaaGreatDoor
open Go Go.RowKit
namespace Gt
open Mp Bk Tk
end Gt
open Go Go.RowKit
namespace Gt
open Mp Bk Tk
end Gt
open Go Go.RowKit
namespace Gt
open Mp Bk Tk
end Gt
end Go.Proofs.YtbojijefenfbgaaGreatDoor
