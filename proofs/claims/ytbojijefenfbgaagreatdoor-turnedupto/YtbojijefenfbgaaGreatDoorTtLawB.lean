/- The world of a script: its gates, which blocks are whose, and what a turned gate leaves of it. Walks of posternlaw: makes. Walk of posternlaw: one step of a script. Walks of posternlaw: an empty book is looked at; the script is played. -/
import Derived.Test.YtbojijefenfbgaaGreatDoorTtRefF
namespace Go.Proofs.YtbojijefenfbgaaGreatDoor
open Go Go.RowKit
namespace Gt
open Mp Bk Tk
structure Pr where
 x : Nat
 y : Nat
 s : St
 t : St
def prC (p : Pr) : List Value := [.pointer (some ⟨p.x, 0, none⟩), .pointer (some ⟨p.y, 0, none⟩)]
def prL (l : List Pr) : List Value := l.flatMap prC
def k8p : Array Value := #[.slice none 0 0, .slice none 0 0, .slice none 0 0, .slice none 0 0, .slice none 0 0, .slice none 0 0, .slice none 0 0, .slice none 0 0, .slice none 0 0, .slice none 0 0, .int .i64 0]
def k7i (B K : Nat) (lv : Value) : Array Value := #[.pointer (some ⟨B, 0, none⟩), lv, .pointer (some ⟨K, 0, none⟩)]
structure WIn (O : Nat → Nat → Prop) (N : Nat) (w : World) (W B K : Nat) (ps : List Pr) (n : Nat) (lv : Value) (ks : List x2y) : Prop where
 one : ∀ b i j, O b i → O b j → i = j
 lt : ∀ b i, O b i → N ≤ b ∧ b < w.heap.size
 wN : N ≤ w.heap.size
 oW : O W 1
 oB : O B 2
 world : w.heap[W]? = some (.cells (k7i B K lv) 123 (0, 0))
 book : w.heap[B]? = some (.cells k8p 32 (0, 0))
 row : Row (fun b => O b 3) w 132 2 lv ps.length (prL ps)
 known : KAt Gw.z0n (fun b => O b 4) w K ks
 nk : ks.length ≤ n
 np : ps.length ≤ n
 gates : ∀ i p, ps[i]? = some p → z0h (fun b => O b (5 + 2 * i)) w p.x p.s ∧ k8d (fun b => O b (6 + 2 * i)) w p.y p.t K ∧ Inv p.s ∧ Inv p.t
namespace WIn
variable {O : Nat → Nat → Prop} {N : Nat} {w w' : World} {W B K : Nat} {ps : List Pr} {n : Nat} {lv : Value} {ks : List x2y}
end WIn
end Gt
open Go Go.RowKit
namespace Gt
open Mp Bk Tk
def made (num : Int) (k : List UInt8) : Prop := bet 0 num 15 = true ∧ (Cw.z9s k).2 = true
end Gt
open Go Go.RowKit
namespace Gt
open Mp Bk Tk
structure Sp where
 kind : Int
 on : Int
 tgt : Int
 n : Int
 text : List UInt8
 floor : Value
 seen : Value
 order : Value
 heard : Value
end Gt
open Go Go.RowKit
namespace Ks
end Ks
namespace Gt
open Mp Bk Tk
end Gt
end Go.Proofs.YtbojijefenfbgaaGreatDoor
