/- Walks of the program's signing: halves. Walks of the program's signing: Key. Walks of the program's signing: Sign. -/
import Derived.Test.YtbojijefenfbgaaGreatDoorGgSignA
import Derived.Test.YtbojijefenfbgaaGreatDoorGgTakeMath
namespace Go.Proofs.YtbojijefenfbgaaGreatDoor
open Go.RowKit
namespace Gw
open Fw Bt Ww Sw Cw Ed
def secN (N : Nat) : Nat := (N - N % 8) % 28948022309329048855892746252171976963317496166410141009864396001978282409984 + 28948022309329048855892746252171976963317496166410141009864396001978282409984
theorem sha_len (l : List UInt8) : (Sha.sha l).length = 64 := Sha.sha_length l
end Gw
end Go.Proofs.YtbojijefenfbgaaGreatDoor
namespace Go.Proofs.YtbojijefenfbgaaGreatDoor
open Go.RowKit
namespace Gw
open Fw Bt Ww Sw Cw Ed
def sec (l : List UInt8) : Nat := secN (le ((Sha.sha l).take 32))
def keyB (l : List UInt8) : List UInt8 := encP (mulP bP (sec l))
end Gw
end Go.Proofs.YtbojijefenfbgaaGreatDoor
namespace Go.Proofs.YtbojijefenfbgaaGreatDoor
open Go.RowKit
namespace Gw
open Fw Bt Ww Sw Cw Ed
theorem joined_map (ss : List (List UInt8)) : Hs.joined (ss.map fun l => ⟨l.toArray⟩) = ss.flatten := by
 induction ss with
 | nil => rfl
 | cons a ss ih =>
  have : Hs.joined (List.map (fun l : List UInt8 => (⟨l.toArray⟩ : ByteArray)) (a :: ss)) = a ++ Hs.joined (ss.map fun l => ⟨l.toArray⟩) := by simp [Hs.joined]
  rw [this, ih]; rfl
theorem of_l (ss : List (List UInt8)) (b : Nat) (w : World) (hb : w.heap[b]? = some (.cells (ss.map fun l => Value.string ⟨l.toArray⟩).toArray 9 (0, 0))) (ht : Hs.TabAt w) (hlen : ss.flatten.length ≤ 1000000000) (hn : ss.length ≤ 1000000000) :
  Calls Tryz.prog 109 #[.slice (some ⟨b, 0, none⟩) ss.length ss.length] w fun e w' => e = .returned (.string ⟨(Sha.sha ss.flatten).toArray⟩) ∧ Below w.heap.size w w' := by
 have h := Hs.of_any w (some ⟨b, 0, none⟩) ss.length (ss.map fun l => ⟨l.toArray⟩) (.inr ⟨b, 0, rfl, fun j hj => by
  rw [cell_of_row w b _ _ _ _ hb]
  simp at hj
  simp [hj]⟩) ht (by rw [joined_map]; exact hlen) (by simpa using hn)
 rw [joined_map, List.length_map] at h
 exact h
theorem of_new (ss : List (List UInt8)) (w : World) (ht : Hs.TabAt w) (hlen : ss.flatten.length ≤ 1000000000) (hn : ss.length ≤ 1000000000) :
  Calls Tryz.prog 109 #[.slice (some ⟨w.heap.size, 0, none⟩) ss.length ss.length] (w.alloc (.cells (ss.map fun l => Value.string ⟨l.toArray⟩).toArray 9)) fun e w' => e = .returned (.string ⟨(Sha.sha ss.flatten).toArray⟩) ∧ Below w.heap.size w w' :=
 (of_l ss w.heap.size _ (heap_alloc_new _ _) (ht.below ((Below.refl w.heap.size w).alloc (Nat.le_refl _) _) ht.lt) hlen hn).mono fun e w' ⟨he, hb⟩ => ⟨he, ((Below.refl w.heap.size w).alloc (Nat.le_refl _) _).trans (hb.mono (by simp))⟩
theorem app_str (a b : List UInt8) : (⟨a.toArray⟩ : ByteArray) ++ ⟨b.toArray⟩ = ⟨(a ++ b).toArray⟩ := by
 apply ByteArray.ext
 simp
def kN (R A t : List UInt8) : Nat := le (Sha.sha (R ++ A ++ t)) % LL
theorem encP_len (p : Pt) : (encP p).length = 32 := leB_length _ _
theorem modL_lt (n : Nat) : n % LL < LL := Nat.mod_lt _ (by decide)
theorem LL_lt {n : Nat} (h : n < LL) : n < 115792089237316195423570985008687907853269984665640564039457584007913129639936 := Nat.lt_trans h (by decide)
end Gw
end Go.Proofs.YtbojijefenfbgaaGreatDoor
