/- Points by three coordinates, as the document holds them; under. Walk of the document's Sum. (Laid by wip/gen/docsum.py.) Walks of the document's Base, Times. -/
import Derived.Test.YtbojijefenfbgaaGreatDoorTtDocE
namespace Go.Proofs.YtbojijefenfbgaaGreatDoor
open Go.RowKit
namespace Dc
open Bt Ed
end Dc
open Go.RowKit
namespace Dc
open Bt Ed
end Dc
open Go.RowKit
namespace Dc
open Bt Ed Cw
end Dc
end Go.Proofs.YtbojijefenfbgaaGreatDoor
