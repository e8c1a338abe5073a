/- Walk of the document's own reckoning: Pointed. A region that draws its order, walked in the text's order: of each value of its head something is said that lasts (one value, or a block that was made); an operation that looks at a block that was made waits for what made it. Walks of the program's digits and of the document's High. Walks of the program's tickets and orders. -/
import Derived.Test.YtbojijefenfbgaaGreatDoorGgQStore2
import Derived.Test.YtbojijefenfbgaaGreatDoorGgDocL
import Derived.Test.YtbojijefenfbgaaGreatDoorGgSignN
import Derived.Test.YtbojijefenfbgaaGreatDoorGgDocS
namespace Go.Proofs.YtbojijefenfbgaaGreatDoor
open Go.RowKit
namespace Dc
open Bt Ed
theorem pow_cut (j : Nat) (hj : j < 16) : 2 ^ 255 = 65536 ^ j * 2 ^ (255 - 16 * j) := by
 rw [show (65536 : Nat) = 2 ^ 16 from rfl, ← Nat.pow_mul, ← Nat.pow_add]
 congr 1
 omega
theorem cut_div (n B c : Nat) : n % (B * c) / B = n / B % c := Nat.mod_mul_right_div_self n B c
theorem dg_top (n : Nat) (h : n < 65536 ^ 16) : dg (n : Int) 15 / 32768 = ((n / 2 ^ 255 : Nat) : Int) := by
 rw [dg_nat, pow_cut 15 (by decide), ← Nat.div_div_eq_div_mul]
 have h1 : n / 65536 ^ 15 < 65536 := Nat.div_lt_of_lt_mul (by rw [← Nat.pow_succ]; exact h)
 rw [Nat.mod_eq_of_lt h1]
 generalize n / 65536 ^ 15 = X
 omega
theorem dg_cut (n j : Nat) (hj : j < 16) : (if j = 15 then dg (n : Int) 15 % 32768 else dg (n : Int) j) = dg ((n % 2 ^ 255 : Nat) : Int) j := by
 rw [dg_nat (n % 2 ^ 255), pow_cut j hj, cut_div]
 by_cases e : j = 15
 ·subst e
  rw [if_pos rfl, dg_nat]
  generalize n / 65536 ^ 15 = X
  rw [show 2 ^ (255 - 16 * 15) = 32768 from rfl]
  omega
 ·rw [if_neg e, dg_nat]
  generalize n / 65536 ^ j = X
  rw [Nat.mod_mod_of_dvd]
  rw [show (65536 : Nat) = 2 ^ 16 from rfl]
  exact Nat.pow_dvd_pow 2 (by omega)
theorem ret_tb {fn : Func} {p q : Tmp} (h : fn.results = #[.cell p 100, .tmp q]) {post : Ending → World → Prop} {a : Act} {w : World} (hd : a.defers = []) (g : Nat) (v : T3) (b : Bool) (hp : a.tmps.getD p undef = .pointer (some ⟨g, 0, none⟩)) (hq : a.tmps.getD q undef = .bool b) (hg : TAt w g v) (hpost : post (.returned (.tuple #[.agg (tp v), .bool b])) w) :
  bodyPost Tryz.prog fn post .ret a w := by
 refine bodyPost_ret (v := .tuple #[.agg (tp v), .bool b]) ?_ hd hpost
 have hl := run_loadVar_row (P := Tryz.prog) w g 100 100 (tp v) (0, 0) _ hg Tryz.underlying100 rfl (by rw [tp_size]; kernel_rfl)
 have hp' : a.tmps[p]?.getD undef = .pointer (some ⟨g, 0, none⟩) := by simpa using hp
 have hq' : a.tmps[q]?.getD undef = .bool b := by simpa using hq
 simp [results, h, hp', hq', asAddr, hl]
theorem l_bz {ops : Array Oper} {rest : List Oper} {o : Oper} {a : Act} {w : World} {Q : Exit → Act → World → Prop} (hg : o.guard = none) (ho : o.op = .build 100 #[])
  (h : wpList Tryz.prog ops Q rest (a.put o.dst (.agg (tp t0))) w) : wpList Tryz.prog ops Q (o :: rest) a w :=
 Own.wpList_build_at hg 100 #[] ho (tp t0) (by rw [tp_zero]; kernel_rfl) h
noncomputable def ptR (y : F) (o : Bool) : T3 × Bool := if (acrossR y o).2 = false then (t0, false) else (⟨(acrossR y o).1, y, 1⟩, true)
noncomputable def ptN (N : Nat) : T3 × Bool := if h : N % 2 ^ 255 < P then ptR ⟨N % 2 ^ 255, h⟩ (decide (N / 2 ^ 255 = 1)) else (t0, false)
noncomputable def ptD (l : List UInt8) : T3 × Bool := if l.length = 32 then ptN (le l) else (t0, false)
theorem ptR_def (y : F) (o : Bool) : ptR y o = if (acrossR y o).2 = false then (t0, false) else (⟨(acrossR y o).1, y, 1⟩, true) := rfl
set_option maxRecDepth 100000 in
set_option maxHeartbeats 400000 in
theorem pointed_short (l : List UInt8) (hl : l.length ≠ 32) (w : World) : Calls Tryz.prog 41 #[.string ⟨l.toArray⟩] w fun e w' => e = .returned (.tuple #[.agg (tp t0), .bool false]) ∧ Below w.heap.size w w' := by
 have hz : ¬ (((⟨l.toArray⟩ : ByteArray).size : Int) = 32) := by
  show ¬ ((l.length : Int) = 32)
  omega
 have hd := bne_iff_ne.2 hz
 generalize (⟨l.toArray⟩ : ByteArray) = S at *
 clear hl
 go_enter Tryz.func41, Tryz.ntmps41
 go_wp2_with (first | refine l_allocT _ rfl rfl ?_ | refine l_bz rfl rfl ?_ | refine new_t' rfl _ _ rfl t0 rfl _ rfl rfl ?_)
 exact ret_tb Tryz.results41 rfl w.heap.size t0 false rfl rfl (heap_alloc_new _ _) ⟨rfl, (Below.refl _ _).alloc (Nat.le_refl _) _⟩
end Dc
end Go.Proofs.YtbojijefenfbgaaGreatDoor
namespace Go.Proofs.YtbojijefenfbgaaGreatDoor
open Go Go.RowKit
namespace Qt
section
variable {P : Program} {ops : Array Oper} {W : World} {R : Nat → Value → World → Prop} {K : Act → World → Prop}
end
end Qt
end Go.Proofs.YtbojijefenfbgaaGreatDoor
namespace Go.Proofs.YtbojijefenfbgaaGreatDoor
open Go.RowKit
namespace Tk
open Bt
def dF (n size k j : Nat) : Value := if size ≤ j + k then .int .u8 ((n / 256 ^ (size - 1 - j) % 256 : Nat) : Int) else .int .u8 0
end Tk
end Go.Proofs.YtbojijefenfbgaaGreatDoor
namespace Go.Proofs.YtbojijefenfbgaaGreatDoor
open Go.RowKit
namespace Tk
open Bt Gw
end Tk
end Go.Proofs.YtbojijefenfbgaaGreatDoor
