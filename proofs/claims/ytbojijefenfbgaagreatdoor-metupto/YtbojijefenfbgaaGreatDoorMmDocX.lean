/- Walk of the document's own reckoning: Pointed, of 32 bytes. The document's point of bytes is the one that has them. Walk of the document's Right. -/
import Derived.Test.YtbojijefenfbgaaGreatDoorMmQStore2
import Derived.Test.YtbojijefenfbgaaGreatDoorMmGateB
import Derived.Test.YtbojijefenfbgaaGreatDoorMmQApp
import Derived.Test.YtbojijefenfbgaaGreatDoorMmOwn
import Derived.Test.YtbojijefenfbgaaGreatDoorMmPartStore
import Derived.Test.YtbojijefenfbgaaGreatDoorMmDocN
import Derived.Test.YtbojijefenfbgaaGreatDoorMmDocS
import Derived.Test.YtbojijefenfbgaaGreatDoorMmQSeq
namespace Go.Proofs.YtbojijefenfbgaaGreatDoor
open Go.RowKit
namespace Dc
open Bt Ed
end Dc
end Go.Proofs.YtbojijefenfbgaaGreatDoor
namespace Go.Proofs.YtbojijefenfbgaaGreatDoor
open Go.RowKit
namespace Dc
open Bt Ed Gw Sw Cw
end Dc
end Go.Proofs.YtbojijefenfbgaaGreatDoor
namespace Go.Proofs.YtbojijefenfbgaaGreatDoor
open Go.RowKit
namespace Dc
open Bt Ed Gw Sw Cw
end Dc
end Go.Proofs.YtbojijefenfbgaaGreatDoor
