/- Walk of the document's own reckoning: Pointed, of 32 bytes. The document's point of bytes is the one that has them. Walk of the document's Right. -/
import Derived.Test.YtbojijefenfbgaaGreatDoorTtQStore2
import Derived.Test.YtbojijefenfbgaaGreatDoorTtGateB
import Derived.Test.YtbojijefenfbgaaGreatDoorTtQSeq
namespace Go.Proofs.YtbojijefenfbgaaGreatDoor
open Go.RowKit
namespace Dc
open Bt Ed
end Dc
open Go.RowKit
namespace Dc
open Bt Ed Gw Sw Cw
end Dc
open Go.RowKit
namespace Dc
open Bt Ed Gw Sw Cw
end Dc
end Go.Proofs.YtbojijefenfbgaaGreatDoor
