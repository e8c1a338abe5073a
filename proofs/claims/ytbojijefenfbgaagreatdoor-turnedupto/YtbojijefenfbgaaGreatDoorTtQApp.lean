/- A region that draws its order: its first m operations leave the worlds of a class and yield one value each; the next one may make new blocks (a slice written out, a conversion, ..), of its value and the world something is said that lasts; the others stand in a row behind them. An element appended to a slice of the call's own: the law in one form. Walk of the document's long. Walk of the document's summed. Walk of the document's Bytes. -/
import Derived.Laws.AppendOwn
import Derived.OwnWalk
import Derived.Below
import Derived.Test.YtbojijefenfbgaaGreatDoorTtDocN
namespace Go.Proofs.YtbojijefenfbgaaGreatDoor
open Go Go.RowKit
namespace Qt
theorem z7n (U V : Nat → Value) (l : List Oper) : ∀ k a, (∀ j, k ≤ j → j < k + l.length → U j = V j) → z1l U l k a = z1l V l k a := by
 induction l with
 | nil => intros; rfl
 | cons o l ih =>
  intro k a h
  unfold z1l
  rw [h k (Nat.le_refl _) (by simp)]
  exact ih _ _ fun j h1 h2 => h j (by omega) (by simp at h2 ⊢; omega)
theorem y6i (U : Nat → Value) (l1 l2 : List Oper) : ∀ k a, z1l U (l1 ++ l2) k a = z1l U l2 (k + l1.length) (z1l U l1 k a) := by
 induction l1 with
 | nil => intro k a; simp [z1l]
 | cons o l ih =>
  intro k a
  simp only [List.cons_append, z1l, ih, List.length_cons]
  rw [show k + 1 + l.length = k + (l.length + 1) by omega]
theorem x1y (b : Act) (d : Option Tmp) (v : Value) : (b.put d v).tmps.size = b.tmps.size := by cases d <;> simp [Act.put]
theorem y0u (U V : Nat → Value) (x : Operand) (l : List Oper) : ∀ k (a a' : Act), a.tmps.size = a'.tmps.size → a.eval x = a'.eval x → (∀ j o, l[j]? = some o → ∀ d, o.dst = some d → x = .tmp d → U (k + j) = V (k + j)) → (z1l U l k a).eval x = (z1l V l k a').eval x := by
 induction l with
 | nil => intro k a a' _ h _; exact h
 | cons o l ih =>
  intro k a a' hs he h
  unfold z1l
  refine ih _ _ _ (by rw [x1y, x1y]; exact hs) ?_ fun j o' hj d hd hx => by
   have := h (j + 1) o' (by simpa using hj) d hd hx
   rwa [show k + (j + 1) = k + 1 + j by omega] at this
  cases hd : o.dst with
  | none => exact he
  | some d =>
   cases x with
   | tmp t =>
    by_cases e : d = t
    ·subst e
     have hv := h 0 o rfl d hd rfl
     rw [Nat.add_zero] at hv
     simp only [Act.eval, Act.put, Array.getD_eq_getD_getElem?, Array.getElem?_setIfInBounds, hs, hv] at he ⊢
     split
     ·rfl
     ·exact he
    ·rw [Act.eval_put (fun d' hd' hx => e (by cases hd'; cases hx; rfl)), Act.eval_put (fun d' hd' hx => e (by cases hd'; cases hx; rfl))]
     exact he
   | _ => exact he
theorem y3x (U : Nat → Value) (x : Operand) (l : List Oper) : ∀ k (a : Act), (∀ o ∈ l, ∀ d, o.dst = some d → x ≠ .tmp d) → (z1l U l k a).eval x = a.eval x := by
 induction l with
 | nil => intros; rfl
 | cons o l ih =>
  intro k a h
  unfold z1l
  rw [ih _ _ fun o' ho' => h o' (List.mem_cons_of_mem _ ho'), Act.eval_put (fun d hd hx => h o (List.mem_cons_self ..) d hd hx)]
end Qt
open Go Go.RowKit
namespace Ap
end Ap
end Go.Proofs.YtbojijefenfbgaaGreatDoor
namespace Go.Proofs.YtbojijefenfbgaaGreatDoor
open Go.RowKit
namespace Dc
open Bt Ed Cw
end Dc
open Go.RowKit
namespace Dc
open Bt Ed Cw
end Dc
open Go.RowKit
namespace Dc
open Bt Ed Cw
end Dc
end Go.Proofs.YtbojijefenfbgaaGreatDoor
