/- Walks of the document's secret. Walks of the document's Key, Sign. Walk of the document's Sign. Walks of the package posternkeep: seed, pick. The known answers, reckoned by the kernel. Small walks of posternlaw, and what Key and Sign answer on both sides. Walks of bounds, of the document's in, of digits and High. -/
import Derived.Test.YtbojijefenfbgaaGreatDoorGgApp
import Derived.Test.YtbojijefenfbgaaGreatDoorGgRefHash
import Derived.Test.YtbojijefenfbgaaGreatDoorGgSignB
import Derived.Test.YtbojijefenfbgaaGreatDoorGgSignN
namespace Go.Proofs.YtbojijefenfbgaaGreatDoor
open Go.RowKit
namespace Dc
open Bt Ed Cw Sw Gw
theorem y_num {W : World} {K : Act → Prop} {l : List Oper} {o : Oper} {a : Act} (hg : o.guard = none) (x : Operand) (ho : o.op = .load 95 x) (b : Nat) (f : Nat → Int) (hx : a.eval x = .pointer (some ⟨b, 0, none⟩)) (hb : W.heap[b]? = some (.cells (num f) 95 (0, 0)))
  (h : Qt.Lex Tryz.prog W K l (a.put o.dst (.agg (num f)))) : Qt.Lex Tryz.prog W K (o :: l) a :=
 Qt.y_row hg 95 x ho b hx 95 (num f) (0, 0) _ hb Tryz.underlying95 rfl (by rw [num_size]; kernel_rfl) h
theorem refHash_l (l : List UInt8) (hl : l.length ≤ 1000000000) (w : World) : Calls Tryz.prog 46 #[.string ⟨l.toArray⟩] w fun e w' => e = .returned (.string ⟨(Sha.sha l).toArray⟩) ∧ Below w.heap.size w w' := refHash_any ⟨l.toArray⟩ (by show l.toArray.size ≤ _; simp; omega) w
end Dc
end Go.Proofs.YtbojijefenfbgaaGreatDoor
namespace Go.Proofs.YtbojijefenfbgaaGreatDoor
open Go.RowKit
namespace Dc
open Bt Ed Cw Sw Gw
theorem baseN (N : Nat) (hN : N < 2 ^ 256) : ∃ e : T3, (∀ w, Calls Tryz.prog 48 #[.agg (tp (taff bX bY)), .agg (nm (N : Int))] w fun e' w' => e' = .returned (.agg (tp e)) ∧ Below w.heap.size w w') ∧ RepT e (mulP bP N) := by
 have h := tmul_rep bP_on (taff_rep bX bY) N hN 256 (Nat.le_refl _)
 rw [Nat.sub_self, Nat.pow_zero, Nat.div_one] at h
 exact ⟨tmul (taff bX bY) N 256, times_d _ N, h⟩
end Dc
end Go.Proofs.YtbojijefenfbgaaGreatDoor
namespace Go.Proofs.YtbojijefenfbgaaGreatDoor
open Go.RowKit
namespace Dc
open Bt Ed Cw Sw Gw
theorem le_lt64 (h : List UInt8) (hl : h.length = 64) (n : Nat) (hn : n = 32) : le h < 2 ^ (16 * n) := by
 have h1 := le_lt h
 rw [hl] at h1
 have e : (2 : Nat) ^ (16 * n) = 256 ^ 64 := by
  rw [Nat.pow_mul, hn, show (256 : Nat) ^ 64 = (256 ^ 2) ^ 32 by rw [← Nat.pow_mul]]
 rw [e]
 exact h1
theorem long_h (h : List UInt8) (hl : h.length = 64) (w : World) : Calls Tryz.prog 45 #[.string ⟨h.toArray⟩] w fun e w' => ∃ v, e = .returned v ∧ (∀ w'', Below w'.heap.size w' w'' → Calls Tryz.prog 44 #[v] w'' fun e w3 => e = .returned (.agg (nm ((le h % LL : Nat) : Int))) ∧ Below w''.heap.size w'' w3) ∧ Below w.heap.size w w' := by
 refine (long_d ⟨h.toArray⟩ 32 (by show h.toArray.size = _; simp [hl]) (by decide) (by decide) w).mono ?_
 rintro e w' ⟨v, rfl, ho, hb⟩
 exact ⟨v, rfl, fun w'' hw => long_rest (by decide) ho (le_lt64 h hl 32 rfl) (by decide) hw, hb⟩
end Dc
end Go.Proofs.YtbojijefenfbgaaGreatDoor
namespace Go.Proofs.YtbojijefenfbgaaGreatDoor
open Go.RowKit
namespace Gw
open Fw Bt Ww Sw Cw Ed
end Gw
end Go.Proofs.YtbojijefenfbgaaGreatDoor
namespace Go.Proofs.YtbojijefenfbgaaGreatDoor
open Go.RowKit
namespace Gw
open Fw Bt Ww Sw Cw Ed
def seedA : List UInt8 := [157, 97, 177, 157, 239, 253, 90, 96, 186, 132, 74, 244, 146, 236, 44, 196, 68, 73, 197, 105, 123, 50, 105, 25, 112, 59, 172, 3, 28, 174, 127, 96]
def keyA : List UInt8 := [215, 90, 152, 1, 130, 177, 10, 183, 213, 75, 254, 211, 201, 100, 7, 58, 14, 225, 114, 243, 218, 166, 35, 37, 175, 2, 26, 104, 247, 7, 81, 26]
theorem secA : sec seedA = 36144925721603087658594284515452164870581325872720374094707712194495455132720 := by kernel_rfl
theorem key_A : keyB seedA = keyA := by
 rw [key_eq, secA, mul_is bP_on (aff_rep bX bY) 36144925721603087658594284515452164870581325872720374094707712194495455132720 255 (by decide) ⟨38815646466658113194383306759739515082307681141926459231621296960732224964046, by decide⟩ ⟨11903303657706407974989296177215005343713679411332034699907763981919547054807, by decide⟩ (by kernel_rfl)]
 kernel_rfl
end Gw
end Go.Proofs.YtbojijefenfbgaaGreatDoor
namespace Go.Proofs.YtbojijefenfbgaaGreatDoor
open Go.RowKit
namespace Gw
open Fw Bt Ww Sw Cw Ed
theorem num_f (n : Int) (w : World) : Calls Tryz.prog 22 #[.int .i64 n] w fun e w' => e = .returned (.int .i64 n) ∧ Below w.heap.size w w' := by
 go_enter Tryz.func22, Tryz.ntmps22
 go_wp2_with fail
 exact bodyPost_ret (v := .int .i64 n) (by simp [results, Tryz.results22, go_sem]) rfl ⟨rfl, Below.refl _ _⟩
theorem lkey_f (w : World) : Calls Tryz.prog 16 #[] w fun e w' => e = .returned (.string ⟨keyA.toArray⟩) ∧ Below w.heap.size w w' := by
 go_enter Tryz.func16, Tryz.ntmps16
 go_wp2_with fail
 exact bodyPost_ret (v := .string ⟨keyA.toArray⟩) (by simp [results, Tryz.results16, go_sem, keyA]) rfl ⟨rfl, Below.refl _ _⟩
end Gw
end Go.Proofs.YtbojijefenfbgaaGreatDoor
namespace Go.Proofs.YtbojijefenfbgaaGreatDoor
open Go.RowKit
namespace Tk
open Bt
def bet (lo n hi : Int) : Bool := decide (lo ≤ n) && decide (n ≤ hi)
theorem between_f (lo n hi : Int) (w : World) : Calls Tryz.prog 123 #[.int .i64 lo, .int .i64 n, .int .i64 hi] w fun e w' => e = .returned (.bool (bet lo n hi)) ∧ w' = w := by
 go_enter Tryz.func123, Tryz.ntmps123
 by_cases h : lo ≤ n
 ·go_wp2_with fail
  exact bodyPost_ret (v := .bool (bet lo n hi)) (by simp [results, Tryz.results123, go_sem, bet, h]) rfl ⟨rfl, rfl⟩
 ·go_wp2_with fail
  exact bodyPost_ret (v := .bool (bet lo n hi)) (by simp [results, Tryz.results123, go_sem, bet]; omega) rfl ⟨rfl, rfl⟩
theorem in_f (lo n hi : Int) (w : World) : Calls Tryz.prog 60 #[.int .i64 n, .int .i64 lo, .int .i64 hi] w fun e w' => e = .returned (.bool (bet lo n hi)) ∧ w' = w := by
 go_enter Tryz.func60, Tryz.ntmps60
 by_cases h : lo ≤ n
 ·go_wp2_with fail
  exact bodyPost_ret (v := .bool (bet lo n hi)) (by simp [results, Tryz.results60, go_sem, bet, h]) rfl ⟨rfl, rfl⟩
 ·go_wp2_with fail
  exact bodyPost_ret (v := .bool (bet lo n hi)) (by simp [results, Tryz.results60, go_sem, bet]; omega) rfl ⟨rfl, rfl⟩
end Tk
end Go.Proofs.YtbojijefenfbgaaGreatDoor
