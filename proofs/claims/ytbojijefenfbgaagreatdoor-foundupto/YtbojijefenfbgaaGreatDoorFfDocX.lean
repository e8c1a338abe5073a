/- Walk of the document's own reckoning: Pointed, of 32 bytes. The document's point of bytes is the one that has them. Walk of the document's Right. -/
import Derived.Test.YtbojijefenfbgaaGreatDoorFfQStore2
import Derived.Test.YtbojijefenfbgaaGreatDoorFfGateB
import Derived.Test.YtbojijefenfbgaaGreatDoorFfQApp
import Derived.Test.YtbojijefenfbgaaGreatDoorFfOwn
import Derived.Test.YtbojijefenfbgaaGreatDoorFfPartStore
import Derived.Test.YtbojijefenfbgaaGreatDoorFfDocN
import Derived.Test.YtbojijefenfbgaaGreatDoorFfDocS
import Derived.Test.YtbojijefenfbgaaGreatDoorFfQSeq
namespace Go.Proofs.YtbojijefenfbgaaGreatDoor
open Go.RowKit
namespace Dc
open Bt Ed
end Dc
end Go.Proofs.YtbojijefenfbgaaGreatDoor
namespace Go.Proofs.YtbojijefenfbgaaGreatDoor
open Go.RowKit
namespace Dc
open Bt Ed Gw Sw Cw
end Dc
end Go.Proofs.YtbojijefenfbgaaGreatDoor
namespace Go.Proofs.YtbojijefenfbgaaGreatDoor
open Go.RowKit
namespace Dc
open Bt Ed Gw Sw Cw
end Dc
end Go.Proofs.YtbojijefenfbgaaGreatDoor
