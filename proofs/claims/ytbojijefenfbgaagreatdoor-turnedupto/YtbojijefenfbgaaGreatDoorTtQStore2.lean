/- As QStore, where the last operations of the head may read what the store leaves: S is what they ask of the world. Two numbers of the document's reckoning compared; root. The x of a point by its y, in the document's manner: a root of u / v. Walk of the document's own reckoning: Pointed. -/
import Derived.Test.YtbojijefenfbgaaGreatDoorTtDocN
namespace Go.Proofs.YtbojijefenfbgaaGreatDoor
open Go Go.RowKit
namespace Qu
open Qt
section
variable {P : Program} {S : World → Prop} {ops : Array Oper} {n p : Nat} {W : World}
end
section
variable {P : Program} {S : World → Prop} {W : World} {K : Act → Prop} {l : List Oper} {o : Oper} {a : Act} {p k : Nat}
end
end Qu
end Go.Proofs.YtbojijefenfbgaaGreatDoor
namespace Go.Proofs.YtbojijefenfbgaaGreatDoor
open Go.RowKit
namespace Dc
open Bt Ed
theorem x6g (a : Int) : dg a 0 = a % 65536 := by
 unfold dg
 rw [Int.pow_zero, Int.ediv_one]
theorem x6f (a : Int) (j : Nat) : dg a (j + 1) = dg (a / 65536) j := by
 unfold dg
 rw [Int.pow_succ, Int.mul_comm, Int.ediv_ediv_of_nonneg (by decide)]
theorem k3l (k : Nat) : ∀ a b : Int, 0 ≤ a → a < 65536 ^ k → 0 ≤ b → b < 65536 ^ k → (∀ j, j < k → dg a j = dg b j) → a = b := by
 induction k with
 | zero =>
  intro a b h0 h1 h2 h3 _
  rw [Int.pow_zero] at h1 h3
  omega
 | succ k ih =>
  intro a b h0 h1 h2 h3 h
  rw [Int.pow_succ] at h1 h3
  have e0 := h 0 (by omega)
  rw [x6g, x6g] at e0
  have e1 := ih (a / 65536) (b / 65536) (by omega) (by omega) (by omega) (by omega) fun j hj => by
   rw [← x6f, ← x6f]
   exact h (j + 1) (by omega)
  omega
theorem q7y (w : World) (xs ys : Array Value) (f g : Nat → Int) (l : List Nat) (hx : ∀ i ∈ l, xs[i]? = some (.int .i64 (f i))) (hy : ∀ i ∈ l, ys[i]? = some (.int .i64 (g i))) :
  (Op.eqItems 9999 3 1 xs ys l).run Tryz.prog w = .ok (l.all fun i => decide (f i = g i)) w := by
 induction l with
 | nil => simp [Op.eqItems]
 | cons i l ih =>
  have ih := ih (fun j hj => hx j (by simp [hj])) (fun j hj => hy j (by simp [hj]))
  have e1 := run_part_plain (P := Tryz.prog) w (e := 3) (by kernel_rfl) (hx i (by simp))
  have e2 := run_part_plain (P := Tryz.prog) w (e := 3) (by kernel_rfl) (hy i (by simp))
  have e3 := run_equalIn_int (P := Tryz.prog) (w := w) 9998 3 .i64 .i64 (f i) (g i) Tryz.underlying3
  simp only [Op.eqItems, Nat.mul_one, Sem.run_bind, e1, e2, e3, Result.andThen_ok]
  by_cases h : f i = g i
  ·have hb : (f i == g i) = true := by rw [h]; simp
   rw [hb]
   simp only [Bool.not_true, Bool.false_eq_true, if_false, ih, List.all_cons, h, decide_true, Bool.true_and]
  ·have hb : (f i == g i) = false := by
    rw [beq_eq_false_iff_ne]
    exact h
   rw [hb]
   simp [h]
theorem k3r (f g : Nat → Int) (w : World) : Sem.run Tryz.prog (Op.equalIn 10000 95 (.agg (num f)) (.agg (num g))) w = .ok ((List.range 16).all fun i => decide (f i = g i)) w := by
 obtain ⟨i, hi⟩ := Option.isSome_iff_exists.1 (show (Tryz.prog.info? 3).isSome = true by kernel_rfl)
 have h1 := run_equalIn_array (P := Tryz.prog) w 9999 (t := 95) (e := 3) (n := 16) (num f) (num g) Tryz.underlying95 hi
 rw [h1, show Tryz.prog.cellsOf 3 = 1 by kernel_rfl]
 exact q7y w _ _ f g _ (fun i h => Own.z1f (List.mem_range.1 h)) (fun i h => Own.z1f (List.mem_range.1 h))
theorem j2t (x y : F) (w : World) : Sem.run Tryz.prog (Op.equalIn 10000 95 (.agg (rn x)) (.agg (rn y))) w = .ok (decide (x = y)) w := by
 rw [q6j, q6j]
 refine (k3r _ _ w).trans ?_
 congr 1
 by_cases h : x = y
 ·subst h
  simp
 ·rw [decide_eq_false h, Bool.eq_false_iff]
  intro ha
  rw [List.all_eq_true] at ha
  have hP : ∀ z : F, (z.val : Int) < 65536 ^ 16 := fun z => Int.lt_trans (Int.ofNat_lt.2 z.isLt) (of_decide_eq_true (by kernel_rfl))
  have e := k3l 16 (x.val : Int) (y.val : Int) (Int.natCast_nonneg _) (hP x) (Int.natCast_nonneg _) (hP y) fun j hj => of_decide_eq_true (ha j (List.mem_range.2 hj))
  exact h (Fin.ext (Int.ofNat_inj.1 e))
attribute [local go_sem] j2t
end Dc
end Go.Proofs.YtbojijefenfbgaaGreatDoor
namespace Go.Proofs.YtbojijefenfbgaaGreatDoor
namespace Ed
end Ed
open Go.RowKit
namespace Dc
open Bt Ed
end Dc
end Go.Proofs.YtbojijefenfbgaaGreatDoor
