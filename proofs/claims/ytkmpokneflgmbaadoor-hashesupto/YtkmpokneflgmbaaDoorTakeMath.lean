/- Plain mathematics of taking a text block by block. -/
import Derived.Test.YtkmpokneflgmbaaDoorStateWalks
namespace Go.Proofs.YtkmpokneflgmbaaDoor
namespace Hs
open Sha

theorem wl_congr {b c : Nat → BitVec 64} (h : ∀ j, j < 16 → b j = c j) (n : Nat) : wl b n = wl c n := by
  induction n with
  | zero => rfl
  | succ n ih =>
    simp only [wl, ih, nextW]
    by_cases hn : n < 16
    · rw [if_pos hn, if_pos hn, h n hn]
    · rw [if_neg hn, if_neg hn]
theorem W_congr {b c : Nat → BitVec 64} (h : ∀ j, j < 16 → b j = c j) (n : Nat) : W b n = W c n := by
  unfold W
  rw [wl_congr h n]
  unfold nextW
  by_cases hn : n < 16
  · rw [if_pos hn, if_pos hn, h n hn]
  · rw [if_neg hn, if_neg hn]
theorem compress_congr {b c : Nat → BitVec 64} (h : ∀ j, j < 16 → b j = c j) (s : St) : compress s b = compress s c := by
  have : ∀ n, rounds b s n = rounds c s n := fun n => by
    induction n with
    | zero => rfl
    | succ n ih => simp only [rounds, ih, W_congr h n]
  unfold compress
  rw [this]
theorem wordAt_append (l r : List UInt8) (p : Nat) (h : p + 8 ≤ l.length) : wordAt (l ++ r) p = wordAt l p := by
  unfold wordAt
  rw [List.drop_append_of_le_length (by omega), List.take_append_of_le_length (by simp; omega)]
theorem chain_append (l r : List UInt8) (n : Nat) (h : 128 * n ≤ l.length) : chain (l ++ r) n = chain l n := by
  induction n with
  | zero => rfl
  | succ n ih =>
    simp only [chain]
    rw [ih (by omega)]
    exact compress_congr (fun j hj => wordAt_append l r _ (by omega)) _
theorem wordAt_eight (l : List UInt8) (p : Nat) (h : p + 8 ≤ l.length) : wordAt l p = wordOf (eight (fun i => l.getD i 0) p) := by
  unfold wordAt
  congr 1
  apply List.ext_getElem
  · simp [eight]; omega
  · intro i h1 h2
    rw [eight_get, List.getElem_take, List.getElem_drop, List.getD_eq_getElem?_getD, List.getElem?_eq_getElem (by simp at h1; omega)]
    rfl

/-- How far a text has been taken. -/
def Tk (t : List UInt8) (s : St) (bs : Nat → UInt8) (m : Nat) : Prop := s = chain t (t.length / 128) ∧ m = t.length % 128 ∧ ∀ i, i < m → bs i = t.getD (128 * (t.length / 128) + i) 0
theorem Tk.lt {t : List UInt8} {s : St} {bs : Nat → UInt8} {m : Nat} (h : Tk t s bs m) : m < 128 := by have := h.2.1; omega
theorem Tk.start (bs : Nat → UInt8) : Tk [] Sha.start bs 0 := ⟨rfl, rfl, fun _ h => absurd h (by omega)⟩

def over (bs : Nat → UInt8) (m n : Nat) (r : List UInt8) (i : Nat) : UInt8 := if m ≤ i ∧ i < m + n then r.getD (i - m) 0 else bs i
theorem over_get {t : List UInt8} {s : St} {bs : Nat → UInt8} {m : Nat} (h : Tk t s bs m) (r : List UInt8) (n : Nat) (_hn : n ≤ r.length) (i : Nat) (hi : i < m + n) :
    over bs m n r i = (t ++ r.take n).getD (128 * (t.length / 128) + i) 0 := by
  have hm := h.2.1
  unfold over
  by_cases hlt : i < m
  · rw [if_neg (by omega), h.2.2 i hlt]
    simp only [List.getD_eq_getElem?_getD]
    rw [List.getElem?_append_left (by omega)]
  · rw [if_pos (by omega)]
    simp only [List.getD_eq_getElem?_getD]
    rw [List.getElem?_append_right (by omega), List.getElem?_take, if_pos (by omega), show 128 * (t.length / 128) + i - t.length = i - m by omega]
theorem Tk.more {t : List UInt8} {s : St} {bs : Nat → UInt8} {m : Nat} (h : Tk t s bs m) (r : List UInt8) (n : Nat) (hn : n ≤ r.length) (hfit : m + n < 128) : Tk (t ++ r.take n) s (over bs m n r) (m + n) := by
  have hm := h.2.1
  have hl : (t ++ r.take n).length = t.length + n := by simp; omega
  have hq : (t.length + n) / 128 = t.length / 128 := by omega
  refine ⟨?_, by rw [hl]; omega, fun i hi => ?_⟩
  · rw [hl, hq, chain_append _ _ _ (by omega)]; exact h.1
  · rw [hl, hq]; exact over_get h r n hn i hi
theorem Tk.full {t : List UInt8} {s : St} {bs : Nat → UInt8} {m : Nat} (h : Tk t s bs m) (r : List UInt8) (n : Nat) (hn : n ≤ r.length) (hfit : m + n = 128) : Tk (t ++ r.take n) (compress s (blkOf (over bs m n r))) (over bs m n r) 0 := by
  have hm := h.2.1
  have hl : (t ++ r.take n).length = t.length + n := by simp; omega
  have hq : (t.length + n) / 128 = t.length / 128 + 1 := by omega
  refine ⟨?_, by rw [hl]; omega, fun i hi => absurd hi (by omega)⟩
  rw [hl, hq]
  simp only [chain]
  rw [chain_append _ _ _ (by omega), ← h.1]
  refine compress_congr (fun j hj => ?_) _
  unfold blkOf blockAt
  rw [wordAt_eight _ _ (by rw [hl]; omega)]
  congr 1
  have e : ∀ i, i < 8 → over bs m n r (8 * j + i) = (t ++ r.take n).getD (128 * (t.length / 128) + 8 * j + i) 0 := fun i hi => by
    rw [over_get h r n hn _ (by omega), Nat.add_assoc]
  have e0 := e 0 (by omega)
  simp only [Nat.add_zero] at e0
  simp only [eight]
  rw [e0, e 1 (by omega), e 2 (by omega), e 3 (by omega), e 4 (by omega), e 5 (by omega), e 6 (by omega), e 7 (by omega)]
end Hs
end Go.Proofs.YtkmpokneflgmbaaDoor
