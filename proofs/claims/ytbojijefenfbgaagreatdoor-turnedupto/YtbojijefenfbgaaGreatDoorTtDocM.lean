/- Numbers in parts to a base, with carries: what the document's own reckoning in parts of 16 bits comes to. Walks of the document's own reckoning: prime, small. Walks of the document's own reckoning: prime. Walks of the document's own reckoning: below, less. Walk of the document's own reckoning: settled. -/
import Derived.Test.YtbojijefenfbgaaGreatDoorTtPrimes
namespace Go.Proofs.YtbojijefenfbgaaGreatDoor
namespace Dc
end Dc
open Go.RowKit
namespace Dc
open Bt
def num (f : Nat → Int) : Array Value := Own.z0f 16 fun j => .int .i64 (f j)
def dg (n : Int) (j : Nat) : Int := n / 65536 ^ j % 65536
def nm (n : Int) : Array Value := num (dg n)
end Dc
open Go.RowKit
namespace Dc
open Bt
theorem x3g {B : Nat} {a w : World} (h : Below B a w) (b i : Nat) (hb : B ≤ b) (v : Value) : Below B a (w.setCell ⟨b, i, none⟩ v) := h.setCell (p := ⟨b, i, none⟩) hb v
end Dc
open Go.RowKit
namespace Dc
open Bt
end Dc
open Go.RowKit
namespace Dc
open Bt
end Dc
end Go.Proofs.YtbojijefenfbgaaGreatDoor
