/- A region that draws its order: its first m operations leave the worlds of a class and yield one value each; the next one may make new blocks (a slice written out, a conversion, ..), of its value and the world something is said that lasts; the others stand in a row behind them. An element appended to a slice of the call's own: the law in one form. Walk of the document's long. Walk of the document's summed. Walk of the document's Bytes. -/
import Derived.Test.YtbojijefenfbgaaGreatDoorFfSignD
import Derived.Laws.AppendOwn
import Derived.OwnWalk
import Derived.Below
import Derived.Test.YtbojijefenfbgaaGreatDoorFfDocN
namespace Go.Proofs.YtbojijefenfbgaaGreatDoor
open Go Go.RowKit
namespace Qt
end Qt
end Go.Proofs.YtbojijefenfbgaaGreatDoor
namespace Go.Proofs.YtbojijefenfbgaaGreatDoor
open Go Go.RowKit
namespace Ap
end Ap
end Go.Proofs.YtbojijefenfbgaaGreatDoor
namespace Go.Proofs.YtbojijefenfbgaaGreatDoor
open Go.RowKit
namespace Dc
open Bt Ed Cw
end Dc
end Go.Proofs.YtbojijefenfbgaaGreatDoor
namespace Go.Proofs.YtbojijefenfbgaaGreatDoor
open Go.RowKit
namespace Dc
open Bt Ed Cw
end Dc
end Go.Proofs.YtbojijefenfbgaaGreatDoor
namespace Go.Proofs.YtbojijefenfbgaaGreatDoor
open Go.RowKit
namespace Dc
open Bt Ed Cw
end Dc
end Go.Proofs.YtbojijefenfbgaaGreatDoor
