/- A region that draws its order, walked in the text's order: of each value of its head something is said that lasts (one value, or a block that was made); an operation that looks at a block that was made waits for what made it. Walks of the program's digits and of the document's High. Walks of the program's tickets and orders. Walks of the program's and the document's Ticket and Order. -/
import Derived.Test.YtbojijefenfbgaaGreatDoorTtDocS
set_option maxRecDepth 100000
namespace Go.Proofs.YtbojijefenfbgaaGreatDoor
open Go Go.RowKit
namespace Qt
def pu (v : Value) : Value → World → Prop := fun u _ => u = v
def rl (l : List (Value → World → Prop)) (j : Nat) : Value → World → Prop := l.getD j (fun _ _ => True)
def x5d (r : Value → World → Prop) : Prop := ∀ u w w', r u w → Below w.heap.size w w' → r u w'
theorem q3w (v : Value) : x5d (pu v) := fun _ _ _ h _ => h
theorem q4c {l : List (Value → World → Prop)} (h : ∀ r ∈ l, x5d r) (j : Nat) (u : Value) (w w' : World) (hr : rl l j u w) (hb : Below w.heap.size w w') : rl l j u w' := by
 unfold rl at *
 rw [List.getD_eq_getElem?_getD] at *
 revert hr
 cases e : l[j]? with
 | none => intro _; trivial
 | some r =>
  intro hr
  exact h r (List.mem_of_getElem? e) u w w' hr hb
def x3a (P : Program) (ops : Array Oper) (W : World) (R : Nat → Value → World → Prop) (K : Act → World → Prop) : List Oper → Nat → (Nat → World → Prop) → Act → Prop
 | [], _, F, a => ∀ w', Below W.heap.size W w' → (∀ j, F j w') → K a w'
 | o :: l, k, F, a =>
  (∃ v, R k = pu v ∧ (∀ w', Below W.heap.size W w' → (∀ j, Region.waitsFor .any ops k j = true → F j w') → z5g P w' (pu v) ((execOp a.eval o).run P w')) ∧ x3a P ops W R K l (k + 1) F (a.put o.dst v)) ∨
  ((∀ w', Below W.heap.size W w' → (∀ j, Region.waitsFor .any ops k j = true → F j w') → z5g P w' (R k) ((execOp a.eval o).run P w')) ∧ ∀ u, x3a P ops W R K l (k + 1) (fun j w' => F j w' ∧ (j = k → R k u w')) (a.put o.dst u))
section
variable {P : Program} {ops : Array Oper} {W : World} {R : Nat → Value → World → Prop} {K : Act → World → Prop}
theorem x7h (U : Nat → Value) (l : List Oper) : ∀ (k : Nat) (F : Nat → World → Prop) (a : Act), x3a P ops W R K l k F a → ∃ V : Nat → Value, (∀ j, V j = U j ∨ R j = pu (V j)) ∧
  (∀ i o, l[i]? = some o → ∀ w', Below W.heap.size W w' → (∀ j, Region.waitsFor .any ops (k + i) j = true → F j w' ∧ (k ≤ j → R j (V j) w')) → z5g P w' (R (k + i)) ((execOp (z1l V (l.take i) k a).eval o).run P w')) ∧
  (∀ w', Below W.heap.size W w' → (∀ j, F j w' ∧ (k ≤ j → j < k + l.length → R j (V j) w')) → K (z1l V l k a) w') := by
 induction l with
 | nil =>
  intro k F a h
  exact ⟨U, fun j => .inl rfl, fun i o hi => by simp at hi, fun w' hw hF => h w' hw fun j => (hF j).1⟩
 | cons o l ih =>
  intro k F a h
  rcases h with ⟨v, hR, h1, h2⟩ | ⟨h1, h2⟩
  ·obtain ⟨V, hV, hs, he⟩ := ih (k + 1) F _ h2
   have hc : ∀ (L : List Oper) b, z1l (fun j => if j = k then v else V j) L (k + 1) b = z1l V L (k + 1) b := fun L b => z7n _ _ _ _ _ fun j hj _ => if_neg (by omega)
   refine ⟨fun j => if j = k then v else V j, fun j => ?_, fun i o' hi w' hw hF => ?_, fun w' hw hF => ?_⟩
   ·by_cases e : j = k
    ·subst e; right; simp only [if_pos]; exact hR
    ·simp only [if_neg e]; exact hV j
   ·rcases i with _ | i
    ·obtain rfl : o = o' := by simpa using hi
     simp only [List.take_zero, z1l, Nat.add_zero]
     rw [hR]
     exact h1 w' hw fun j hj => (hF j hj).1
    ·simp only [List.take_succ_cons, z1l, if_pos, hc]
     have := hs i o' (by simpa using hi) w' hw fun j hj => by
      rw [show k + 1 + i = k + (i + 1) by omega] at hj
      have := hF j hj
      refine ⟨this.1, fun hkj => ?_⟩
      have h3 := this.2 (by omega)
      simp only [if_neg (show ¬ j = k by omega)] at h3
      exact h3
     rw [show k + 1 + i = k + (i + 1) by omega] at this
     exact this
   ·simp only [z1l, if_pos, hc]
    refine he w' hw fun j => ⟨(hF j).1, fun h3 h4 => ?_⟩
    have := (hF j).2 (by omega) (by simp; omega)
    simp only [if_neg (show ¬ j = k by omega)] at this
    exact this
  ·obtain ⟨V, hV, hs, he⟩ := ih (k + 1) _ _ (h2 (U k))
   have hc : ∀ (L : List Oper) b, z1l (fun j => if j = k then U k else V j) L (k + 1) b = z1l V L (k + 1) b := fun L b => z7n _ _ _ _ _ fun j hj _ => if_neg (by omega)
   refine ⟨fun j => if j = k then U k else V j, fun j => ?_, fun i o' hi w' hw hF => ?_, fun w' hw hF => ?_⟩
   ·by_cases e : j = k
    ·subst e; left; simp only [if_pos]
    ·simp only [if_neg e]; exact hV j
   ·rcases i with _ | i
    ·obtain rfl : o = o' := by simpa using hi
     simp only [List.take_zero, z1l, Nat.add_zero]
     exact h1 w' hw fun j hj => (hF j hj).1
    ·simp only [List.take_succ_cons, z1l, if_pos, hc]
     have := hs i o' (by simpa using hi) w' hw fun j hj => by
      rw [show k + 1 + i = k + (i + 1) by omega] at hj
      have := hF j hj
      refine ⟨⟨this.1, fun e => ?_⟩, fun hkj => ?_⟩
      ·subst e
       have h3 := this.2 (Nat.le_refl _)
       simp only [if_pos] at h3
       exact h3
      ·have h3 := this.2 (by omega)
       simp only [if_neg (show ¬ j = k by omega)] at h3
       exact h3
     rw [show k + 1 + i = k + (i + 1) by omega] at this
     exact this
   ·simp only [z1l, if_pos, hc]
    refine he w' hw fun j => ⟨⟨(hF j).1, fun e => ?_⟩, fun h3 h4 => ?_⟩
    ·subst e
     have := (hF j).2 (Nat.le_refl _) (by simp)
     simp only [if_pos] at this
     exact this
    ·have := (hF j).2 (by omega) (by simp; omega)
     simp only [if_neg (show ¬ j = k by omega)] at this
     exact this
theorem j0b {k : Nat} {F : Nat → World → Prop} {a : Act} (h : ∀ w', Below W.heap.size W w' → (∀ j, F j w') → K a w') : x3a P ops W R K [] k F a := h
theorem x8w {k : Nat} {F : Nat → World → Prop} {a : Act} {o : Oper} {l : List Oper} (h1 : ∀ w', Below W.heap.size W w' → (∀ j, Region.waitsFor .any ops k j = true → F j w') → z5g P w' (R k) ((execOp a.eval o).run P w'))
  (h2 : ∀ u, x3a P ops W R K l (k + 1) (fun j w' => F j w' ∧ (j = k → R k u w')) (a.put o.dst u)) : x3a P ops W R K (o :: l) k F a := .inr ⟨h1, h2⟩
theorem q0h {k : Nat} {F : Nat → World → Prop} {a : Act} {o : Oper} {l : List Oper} (v : Value) (hR : R k = pu v) (h1 : ∀ w', Below W.heap.size W w' → (∀ j, Region.waitsFor .any ops k j = true → F j w') → z5g P w' (pu v) ((execOp a.eval o).run P w'))
  (h2 : x3a P ops W R K l (k + 1) F (a.put o.dst v)) : x3a P ops W R K (o :: l) k F a := .inl ⟨v, hR, h1, h2⟩
theorem z4s {w' : World} {o : Oper} {a : Act} {v : Value} (h : (execOp a.eval o).run P w' = .ok (.value v) w') : z5g P w' (pu v) ((execOp a.eval o).run P w') := by
 rw [h]; exact ⟨rfl, Below.refl _ _⟩
theorem y7v {w' : World} {o : Oper} {a : Act} {v : Value} (f : FuncId) (args : Array Value) (h : (execOp a.eval o).run P w' = .ok (.enter f args) w') (hc : Calls P f args w' fun e w'' => e = .returned v ∧ Below w'.heap.size w' w'') : z5g P w' (pu v) ((execOp a.eval o).run P w') := by
 rw [h]; exact Calls.mono hc fun e w'' ⟨he, hb⟩ => ⟨v, he, rfl, hb⟩
end
end Qt
end Go.Proofs.YtbojijefenfbgaaGreatDoor
namespace Go.Proofs.YtbojijefenfbgaaGreatDoor
open Go.RowKit
namespace Tk
open Bt
def dF (n size k j : Nat) : Value := if size ≤ j + k then .int .u8 ((n / 256 ^ (size - 1 - j) % 256 : Nat) : Int) else .int .u8 0
theorem q7p (n size k : Nat) (hk : k < size) (j : Nat) (hj : j < size) : (if j = size - 1 - k then Value.int .u8 ((n / 256 ^ k % 256 : Nat) : Int) else dF n size k j) = dF n size (k + 1) j := by
 unfold dF
 by_cases e : j = size - 1 - k
 ·rw [if_pos e, if_pos (by omega), show size - 1 - j = k by omega]
 ·rw [if_neg e]
  by_cases h : size ≤ j + k
  ·rw [if_pos h, if_pos (by omega)]
  ·rw [if_neg h, if_neg (by omega)]
theorem q4k (n k : Nat) : ((n : Int) / 2 ^ (8 * k)) % 256 = ((n / 256 ^ k % 256 : Nat) : Int) := by
 rw [Int.natCast_emod, Int.natCast_ediv, Int.natCast_pow, Int.pow_mul]
 rfl
set_option maxHeartbeats 400000 in
theorem y0b (n size : Nat) (_hn : n < 4611686018427387904) (hs : size ≤ 8) (w : World) : Calls Tryz.prog 125 #[.int .i64 (n : Int), .int .i64 (size : Int)] w fun e w' => e = .returned (.string ⟨(hiB n size).toArray⟩) ∧ Below w.heap.size w w' := by
 obtain ⟨L, hL⟩ : ∃ L, L = hiB n size := ⟨_, rfl⟩
 have HL : Hid (L.length = size) := by
  rw [hL]
  exact z4g _ _
 have HLg : Hid (∀ j (h : j < L.length), (L[j]).toNat = n / 256 ^ (size - 1 - j) % 256) := by
  intro j h
  subst hL
  exact q8x _ _ _ _
 rw [← hL]
 clear hL
 go_enter Tryz.func125, Tryz.ntmps125
 go_wp2_with (at_make; refine Own.z4y _ rfl _ _ 145 rfl 5 (.int .u8 0) 1 Tryz.underlying145 y0w rfl .i64 .i64 _ _ size rfl rfl rfl rfl (by omega) (by omega) ?_)
 generalize hw0 : World.alloc _ _ = w0
 obtain ⟨g, hg⟩ : ∃ g, g = w.heap.size := ⟨_, rfl⟩
 have h0 := Dc.al1 hw0
 rw [← hg] at h0 ⊢
 have HR0 : Hid (w0.heap[g]? = some (.cells (Own.z0f size (dF n size 0)) 5 (0, 0))) := h0.1.trans (congrArg (fun r => some (Obj.cells r 5 (0, 0))) (Own.z0k fun j hj => (if_neg (by omega)).symm))
 have HB0 : Hid _ := h0.2
 have HG : Hid (w.heap.size ≤ g) := Nat.le_of_eq hg.symm
 clear hg hw0 h0
 go_loopw [11] (fun i wq => ∃ k : Nat, k ≤ size ∧ i = .int .i64 (k : Int) ∧ wq.heap[g]? = some (.cells (Own.z0f size (dF n size k)) 5 (0, 0)) ∧ Below g w wq) (fun i _ => size - (intOf i).toNat)
 case atStart => exact ⟨0, by omega, rfl, HR0.out, HB0.out⟩
 case round =>
  clear HR0 HB0
  rename World => wa
  obtain ⟨k, hk, rfl, hr, hb⟩ := hrel
  have HR : Hid _ := hr
  have HB : Hid _ := hb
  clear hr hb
  by_cases hks : k < size
  ·have hc := Own.z0o HR.out (size - 1 - k) (by omega)
   have hf := Own.z1o HR.out (size - 1 - k)
   have Hs : Hid _ := q7p n size k hks
   have Hb : Hid _ := q4k n k
   go_wp2_with fail
   refine ⟨⟨k + 1, by omega, by rw [Int.natCast_add]; rfl, ?_, ?_⟩, ?_⟩
   ·rw [Hb.out]
    exact (Own.z1p HR.out _ _).trans (congrArg (fun r => some (Obj.cells r 5 (0, 0))) (Own.z0k fun j hj => Hs.out j hj))
   ·exact Dc.x3g HB.out _ _ (Nat.le_refl _) _
   ·show size - ((k : Int) + 1).toNat < size - (k : Int).toNat
    omega
  ·obtain rfl : k = size := by omega
   have HC : Hid (∀ j (h : j < L.length), wa.cell? ⟨g, 0 + j, none⟩ = some (.int .u8 (L[j].toNat : Int))) := fun j hj => by
    have hj' : j < k := by have := HL.out; omega
    rw [Nat.zero_add, Own.z0o HR.out j hj', HLg.out j hj, dF, if_pos (by omega)]
   have hll := HL.out
   clear HLg
   go_wp2_with (refine Own.z2n _ rfl _ 145 9 5 rfl Tryz.underlying145 Tryz.underlying5 Tryz.underlying9 g 0 k L (by rw [hll]; rfl) HC.out ?_)
   go_ret
   exact ⟨rfl, HB.out.mono HG.out⟩
end Tk
open Go.RowKit
namespace Tk
open Bt Gw
theorem q2s (w : World) (b off : Nat) (v : Value) (h : w.cell? ⟨b, off, none⟩ = some v) : (loadVar 3 ⟨b, off, none⟩).run Tryz.prog w = .ok v w := by
 have h1 := run_underlying (P := Tryz.prog) Tryz.underlying3 w
 simp [loadVar, go_sem, h]
theorem k2e {W : World} {K : Act → Prop} {l : List Oper} {o : Oper} {a : Act} (hg : o.guard = none) (x : Operand) (ho : o.op = .load 3 x) (b off : Nat) (v : Value) (hx : a.eval x = .pointer (some ⟨b, off, none⟩)) (hb : b < W.heap.size) (hc : W.cell? ⟨b, off, none⟩ = some v)
  (h : Qt.Lex Tryz.prog W K l (a.put o.dst v)) : Qt.Lex Tryz.prog W K (o :: l) a := by
 refine Qt.z0b hg v (fun w' hw' => ?_) h
 have h1 := q2s w' b off v (by rw [hw'.cell (by exact hb)]; exact hc)
 unfold execOp
 simp only [ho, hx, Instr.loadAt, Instr.sureAddr, Sem.run_bind, Sem.run_pure, Result.andThen_ok, h1]
theorem k2d {W : World} {K : Act → Prop} {l : List Oper} {o : Oper} {a : Act} (hg : o.guard = none) (x y : Operand) (ho : o.op = .binOp .add 9 x y 9) (s t r : List UInt8) (hr : s ++ t = r) (hx : a.eval x = .string ⟨s.toArray⟩) (hy : a.eval y = .string ⟨t.toArray⟩) (hl : s.length + t.length ≤ 1000000000000)
  (h : Qt.Lex Tryz.prog W K l (a.put o.dst (.string ⟨r.toArray⟩))) : Qt.Lex Tryz.prog W K (o :: l) a := by
 refine Qt.z0b hg _ (fun w' _ => ?_) h
 have hc := y3l s t
 rw [hr] at hc
 clear h hr
 obtain ⟨dst, op, ty, pos, aft, gd⟩ := o
 simp only at ho
 subst ho
 unfold execOp
 simp only [hx, hy]
 go_simp
 omega
def tk (e s c : Int) : Array Value := #[.int .i64 e, .int .i64 s, .int .i64 c]
def z6n (e s c : Nat) : List UInt8 := [84] ++ hiB e 2 ++ hiB s 4 ++ hiB c 1
def z6g (e : Nat) : List UInt8 := [67] ++ hiB e 2
theorem x2j (l t : List UInt8) (hl : l.length = 32) (htl : t.length ≤ 900000000) (w : World) (ht : Hs.z0j w) : Calls Tryz.prog 124 #[.string ⟨l.toArray⟩, .string ⟨t.toArray⟩] w fun e w' => e = .returned (.string ⟨(t ++ z6l l t).toArray⟩) ∧ Below w.heap.size w w' := by
 have Hk : Hid (∀ w, Hs.z0j w → Calls Tryz.prog 54 #[.string ⟨l.toArray⟩, .string ⟨t.toArray⟩] w fun e w' => e = .returned (.string ⟨(z6l l t).toArray⟩) ∧ Below w.heap.size w w') := fun w ht => q6l l t (by omega) htl w ht
 have hsl := y9q l t
 obtain ⟨sb, hsb⟩ : ∃ k, k = z6l l t := ⟨_, rfl⟩
 rw [← hsb] at Hk hsl ⊢
 have hx := y3l t sb
 have Ht : Hid (Hs.z0j w) := ht
 have hs' : (sb.length : Int) = 64 := by omega
 clear hsb ht hl
 go_enter Tryz.func124, Tryz.ntmps124
 go_wp2_with fail
 refine (Hk.out _ Ht.out).mono ?_
 rintro _ w1 ⟨rfl, hb1⟩
 have HB1 : Hid (Below w.heap.size w w1) := hb1
 clear hb1
 go_wp2_with fail
 exact bodyPost_ret (v := .string ⟨(t ++ sb).toArray⟩) (by simp [results, Tryz.results124, go_sem]) rfl ⟨rfl, HB1.out⟩
theorem q4t (e s c : Nat) : (z6n e s c).length = 8 := by simp [z6n, z4g]
set_option maxHeartbeats 400000 in
theorem x8h (l : List UInt8) (hl : l.length = 32) (e s c : Nat) (he : e ≤ 65535) (hs : s ≤ 4294967295) (hc : c ≤ 255) (w : World) (ht : Hs.z0j w) : Calls Tryz.prog 59 #[.string ⟨l.toArray⟩, .agg (tk e s c)] w fun x w' => x = .returned (.string ⟨(z6n e s c ++ z6l l (z6n e s c)).toArray⟩) ∧ Below w.heap.size w w' := by
 have Hd1 : Hid (∀ w, Calls Tryz.prog 125 #[.int .i64 (e : Int), .int .i64 2] w fun e' w' => e' = .returned (.string ⟨(hiB e 2).toArray⟩) ∧ Below w.heap.size w w') := y0b e 2 (by omega) (by decide)
 have Hd2 : Hid (∀ w, Calls Tryz.prog 125 #[.int .i64 (s : Int), .int .i64 4] w fun e' w' => e' = .returned (.string ⟨(hiB s 4).toArray⟩) ∧ Below w.heap.size w w') := y0b s 4 (by omega) (by decide)
 have Hd3 : Hid (∀ w, Calls Tryz.prog 125 #[.int .i64 (c : Int), .int .i64 1] w fun e' w' => e' = .returned (.string ⟨(hiB c 1).toArray⟩) ∧ Below w.heap.size w w') := y0b c 1 (by omega) (by decide)
 have h1 := z4g e 2
 have h2 := z4g s 4
 have h3 := z4g c 1
 obtain ⟨d1, hd1⟩ : ∃ d, d = hiB e 2 := ⟨_, rfl⟩
 obtain ⟨d2, hd2⟩ : ∃ d, d = hiB s 4 := ⟨_, rfl⟩
 obtain ⟨d3, hd3⟩ : ∃ d, d = hiB c 1 := ⟨_, rfl⟩
 obtain ⟨r, hr⟩ : ∃ r, r = z6n e s c ++ z6l l (z6n e s c) := ⟨_, rfl⟩
 obtain ⟨t1, ht1⟩ : ∃ t, t = [84] ++ d1 := ⟨_, rfl⟩
 obtain ⟨t2, ht2⟩ : ∃ t, t = t1 ++ d2 := ⟨_, rfl⟩
 obtain ⟨t3, ht3⟩ : ∃ t, t = t2 ++ d3 := ⟨_, rfl⟩
 have e3 : z6n e s c = t3 := by rw [ht3, ht2, ht1, hd1, hd2, hd3]; rfl
 have Hsg : Hid (∀ w, Hs.z0j w → Calls Tryz.prog 124 #[.string ⟨l.toArray⟩, .string ⟨t3.toArray⟩] w fun e w' => e = .returned (.string ⟨r.toArray⟩) ∧ Below w.heap.size w w') := by
  intro w ht
  rw [hr, e3]
  exact x2j l t3 hl (by rw [← e3, q4t]; decide) w ht
 have hl1 : t1.length = 3 := by rw [ht1, hd1]; simp [z4g]
 have hl2 : t2.length = 7 := by rw [ht2, hd2]; simp [z4g, hl1]
 have Ht1 : Hid ([84] ++ d1 = t1) := ht1.symm
 have Ht2 : Hid (t1 ++ d2 = t2) := ht2.symm
 have Ht3 : Hid (t2 ++ d3 = t3) := ht3.symm
 clear ht1 ht2 ht3 e3
 rw [← hr]
 rw [← hd1] at Hd1 h1
 rw [← hd2] at Hd2 h2
 rw [← hd3] at Hd3 h3
 have Ht : Hid (Hs.z0j w) := ht
 clear hd1 hd2 hd3 hr ht hl he hs hc
 go_enter Tryz.func59, Tryz.ntmps59
 go_wp2_with fail
 generalize hw0 : World.alloc _ _ = w0
 have h0 := Dc.al1 hw0
 have HT0 : Hid (w0.heap[w.heap.size]? = some (.cells (tk e s c) 45 (0, 0))) := h0.1
 have HB0 : Hid _ := h0.2
 have Ht0 : Hid (Hs.z0j w0) := Ht.out.below h0.2 Ht.out.lt
 have Hlt : Hid (w.heap.size < w0.heap.size) := (aL HT0.out)
 clear hw0 h0
 refine Qt.z0q 14 (by kernel_rfl) (by kernel_rfl) ?_
 refine Qt.z0b rfl (.string ⟨l.toArray⟩) (fun _ _ => by kernel_rfl) ?_
 refine Qt.z0b rfl (.pointer (some ⟨w.heap.size, 0, none⟩)) (fun _ _ => by kernel_rfl) ?_
 refine k2e rfl _ rfl w.heap.size 0 (.int .i64 (e : Int)) rfl Hlt.out (cell_of_row _ _ _ _ _ _ HT0.out) ?_
 simp only [zD]
 refine Qt.z0e rfl 125 #[.int .i64 (e : Int), .int .i64 2] (.string ⟨d1.toArray⟩) (fun _ => by kernel_rfl) (fun w' _ => Hd1.out w') ?_
 simp only [zD]
 refine k2d rfl _ _ rfl [84] d1 t1 Ht1.out rfl rfl (by simp; omega) ?_
 simp only [zD]
 refine Qt.z0b rfl (.pointer (some ⟨w.heap.size, 1, none⟩)) (fun _ _ => by kernel_rfl) ?_
 refine k2e rfl _ rfl w.heap.size 1 (.int .i64 (s : Int)) rfl Hlt.out (cell_of_row _ _ _ _ _ _ HT0.out) ?_
 simp only [zD]
 refine Qt.z0e rfl 125 #[.int .i64 (s : Int), .int .i64 4] (.string ⟨d2.toArray⟩) (fun _ => by kernel_rfl) (fun w' _ => Hd2.out w') ?_
 simp only [zD]
 refine k2d rfl _ _ rfl t1 d2 t2 Ht2.out rfl rfl (by omega) ?_
 simp only [zD]
 refine Qt.z0b rfl (.pointer (some ⟨w.heap.size, 2, none⟩)) (fun _ _ => by kernel_rfl) ?_
 refine k2e rfl _ rfl w.heap.size 2 (.int .i64 (c : Int)) rfl Hlt.out (cell_of_row _ _ _ _ _ _ HT0.out) ?_
 simp only [zD]
 refine Qt.z0e rfl 125 #[.int .i64 (c : Int), .int .i64 1] (.string ⟨d3.toArray⟩) (fun _ => by kernel_rfl) (fun w' _ => Hd3.out w') ?_
 simp only [zD]
 refine k2d rfl _ _ rfl t2 d3 t3 Ht3.out rfl rfl (by omega) ?_
 simp only [zD]
 refine Qt.z0e rfl 124 #[.string ⟨l.toArray⟩, .string ⟨t3.toArray⟩] (.string ⟨r.toArray⟩) (fun _ => by kernel_rfl) (fun w' hw' => Hsg.out w' (Ht0.out.below hw' Ht0.out.lt)) ?_
 simp only [zD]
 refine Qt.z1a ?_
 intro w1 hb1
 have HB1 : Hid (Below w.heap.size w w1) := HB0.out.trans (hb1.mono HB0.out.size)
 clear hb1
 simp only [List.drop_succ_cons, List.drop_zero]
 go_wp2_with fail
 exact bodyPost_ret (v := .string ⟨r.toArray⟩) (by simp [results, Tryz.results59, go_sem]) rfl ⟨rfl, HB1.out⟩
end Tk
open Go.RowKit
namespace Tk
open Bt Gw
theorem k9r (e : Nat) : (z6g e).length = 3 := by simp [z6g, z4g]
set_option maxHeartbeats 400000 in
theorem q3k (l : List UInt8) (hl : l.length = 32) (e : Nat) (he : e ≤ 65535) (w : World) (ht : Hs.z0j w) : Calls Tryz.prog 63 #[.string ⟨l.toArray⟩, .int .i64 (e : Int)] w fun x w' => x = .returned (.string ⟨(z6g e ++ z6l l (z6g e)).toArray⟩) ∧ Below w.heap.size w w' := by
 have Hd1 : Hid (∀ w, Calls Tryz.prog 125 #[.int .i64 (e : Int), .int .i64 2] w fun e' w' => e' = .returned (.string ⟨(hiB e 2).toArray⟩) ∧ Below w.heap.size w w') := y0b e 2 (by omega) (by decide)
 have h1 := z4g e 2
 obtain ⟨d1, hd1⟩ : ∃ d, d = hiB e 2 := ⟨_, rfl⟩
 obtain ⟨t1, ht1⟩ : ∃ t, t = [67] ++ d1 := ⟨_, rfl⟩
 have e3 : z6g e = t1 := by rw [ht1, hd1]; rfl
 obtain ⟨r, hr⟩ : ∃ r, r = z6g e ++ z6l l (z6g e) := ⟨_, rfl⟩
 have Hsg : Hid (∀ w, Hs.z0j w → Calls Tryz.prog 124 #[.string ⟨l.toArray⟩, .string ⟨t1.toArray⟩] w fun e w' => e = .returned (.string ⟨r.toArray⟩) ∧ Below w.heap.size w w') := by
  intro w ht
  rw [hr, e3]
  exact x2j l t1 hl (by rw [← e3, k9r]; decide) w ht
 rw [← hr]
 rw [← hd1] at Hd1 h1
 have hx := y3l [67] d1
 rw [← ht1] at hx
 have hx : (⟨#[67]⟩ : ByteArray) ++ ⟨d1.toArray⟩ = ⟨t1.toArray⟩ := hx
 have h1' : (d1.length : Int) = 2 := by omega
 have Ht : Hid (Hs.z0j w) := ht
 clear hd1 hr ht hl he ht1 e3
 go_enter Tryz.func63, Tryz.ntmps63
 go_wp2_with fail
 refine (Hd1.out _).mono ?_
 rintro _ w1 ⟨rfl, hb1⟩
 have HB1 : Hid (Below w.heap.size w w1) := hb1
 have Ht1 : Hid (Hs.z0j w1) := Ht.out.below HB1.out Ht.out.lt
 clear hb1
 go_wp2_with fail
 refine (Hsg.out _ Ht1.out).mono ?_
 rintro _ w2 ⟨rfl, hb2⟩
 have HB2 : Hid (Below w.heap.size w w2) := HB1.out.trans (hb2.mono HB1.out.size)
 clear hb2
 go_wp2_with fail
 exact bodyPost_ret (v := .string ⟨r.toArray⟩) (by simp [results, Tryz.results63, go_sem]) rfl ⟨rfl, HB2.out⟩
noncomputable def k2o (l : List UInt8) (e s c : Int) : ByteArray × Int :=
 if l.length = 32 then if bet 0 e 65535 && bet 0 s 4294967295 && bet 0 c 255 then (⟨(z6n e.toNat s.toNat c.toNat ++ z6l l (z6n e.toNat s.toNat c.toNat)).toArray⟩, 0) else (⟨#[]⟩, 2) else (⟨#[]⟩, 1)
noncomputable def k2k (l : List UInt8) (e : Int) : ByteArray × Int :=
 if l.length = 32 then if bet 0 e 65535 then (⟨(z6g e.toNat ++ z6l l (z6g e.toNat)).toArray⟩, 0) else (⟨#[]⟩, 2) else (⟨#[]⟩, 1)
theorem y3o {n hi : Int} (h : bet 0 n hi = true) : n = (n.toNat : Int) ∧ n ≤ hi := by
 simp [bet] at h
 omega
set_option maxHeartbeats 400000 in
theorem q4y (l : List UInt8) (e s c : Int) (w : World) (ht : Hs.z0j w) : Calls Tryz.prog 18 #[.string ⟨l.toArray⟩, .agg (tk e s c)] w fun x w' => x = .returned (.tuple #[.string (k2o l e s c).1, .int .i64 (k2o l e s c).2]) ∧ Below w.heap.size w w' := by
 by_cases hl : l.length = 32
 ·have hli : (l.length : Int) = 32 := by omega
  have HA : Hid (k2o l e s c = if bet 0 e 65535 && bet 0 s 4294967295 && bet 0 c 255 then (⟨(z6n e.toNat s.toNat c.toNat ++ z6l l (z6n e.toNat s.toNat c.toNat)).toArray⟩, 0) else (⟨#[]⟩, 2)) := if_pos hl
  have H1 : Hid _ := y3w e
  have H2 : Hid _ := x2g s
  have H3 : Hid _ := q7o c
  have HT : Hid (bet 0 e 65535 = true → bet 0 s 4294967295 = true → bet 0 c 255 = true → ∀ w, Hs.z0j w → Calls Tryz.prog 59 #[.string ⟨l.toArray⟩, .agg (tk e s c)] w fun x w' => x = .returned (.string ⟨(z6n e.toNat s.toNat c.toNat ++ z6l l (z6n e.toNat s.toNat c.toNat)).toArray⟩) ∧ Below w.heap.size w w') := by
   intro h1 h2 h3 w ht
   obtain ⟨e1, g1⟩ := y3o h1
   obtain ⟨e2, g2⟩ := y3o h2
   obtain ⟨e3, g3⟩ := y3o h3
   have h := x8h l hl e.toNat s.toNat c.toNat (by omega) (by omega) (by omega) w ht
   rw [← e1, ← e2, ← e3] at h
   exact h
  rw [HA.out]
  obtain ⟨r, hr⟩ : ∃ r, r = (z6n e.toNat s.toNat c.toNat ++ z6l l (z6n e.toNat s.toNat c.toNat)).toArray := ⟨_, rfl⟩
  rw [← hr] at HT ⊢
  have Ht : Hid (Hs.z0j w) := ht
  clear hl hr HA ht
  generalize bet 0 e 65535 = b1 at *
  generalize bet 0 s 4294967295 = b2 at *
  generalize bet 0 c 255 = b3 at *
  have HB0 : Hid (Below w.heap.size w (w.alloc (.cells (tk e s c) 45))) := (Below.refl _ _).alloc (Nat.le_refl _) _
  have Ht0 : Hid (Hs.z0j (w.alloc (.cells (tk e s c) 45))) := Ht.out.below HB0.out Ht.out.lt
  unfold tk at *
  cases b1
  ·go_enter Tryz.func18, Tryz.ntmps18
   go_wp2_with (go_at_call 56; refine (H1.out _).mono ?_; rintro _ _ ⟨rfl, rfl⟩)
   exact bodyPost_ret (v := .tuple #[.string ⟨#[]⟩, .int .i64 2]) (by simp [results, Tryz.results18, go_sem]) rfl ⟨by simp, HB0.out⟩
  ·cases b2
   ·go_enter Tryz.func18, Tryz.ntmps18
    go_wp2_with (first | (go_at_call 56; refine (H1.out _).mono ?_; rintro _ _ ⟨rfl, rfl⟩) | (go_at_call 57; refine (H2.out _).mono ?_; rintro _ _ ⟨rfl, rfl⟩))
    exact bodyPost_ret (v := .tuple #[.string ⟨#[]⟩, .int .i64 2]) (by simp [results, Tryz.results18, go_sem]) rfl ⟨by simp, HB0.out⟩
   ·cases b3
    ·go_enter Tryz.func18, Tryz.ntmps18
     go_wp2_with (first | (go_at_call 56; refine (H1.out _).mono ?_; rintro _ _ ⟨rfl, rfl⟩) | (go_at_call 57; refine (H2.out _).mono ?_; rintro _ _ ⟨rfl, rfl⟩) | (go_at_call 58; refine (H3.out _).mono ?_; rintro _ _ ⟨rfl, rfl⟩))
     exact bodyPost_ret (v := .tuple #[.string ⟨#[]⟩, .int .i64 2]) (by simp [results, Tryz.results18, go_sem]) rfl ⟨by simp, HB0.out⟩
    ·have HT' : Hid _ := HT.out rfl rfl rfl
     clear HT
     go_enter Tryz.func18, Tryz.ntmps18
     go_wp2_with (first | (go_at_call 56; refine (H1.out _).mono ?_; rintro _ _ ⟨rfl, rfl⟩) | (go_at_call 57; refine (H2.out _).mono ?_; rintro _ _ ⟨rfl, rfl⟩) | (go_at_call 58; refine (H3.out _).mono ?_; rintro _ _ ⟨rfl, rfl⟩))
     refine (HT'.out _ Ht0.out).mono ?_
     rintro _ w1 ⟨rfl, hb1⟩
     have HB1 : Hid (Below w.heap.size w w1) := HB0.out.trans (hb1.mono HB0.out.size)
     clear hb1
     go_wp2_with fail
     exact bodyPost_ret (v := .tuple #[.string ⟨r⟩, .int .i64 0]) (by simp [results, Tryz.results18, go_sem]) rfl ⟨by simp, HB1.out⟩
 ·have hli : (l.length : Int) ≠ 32 := by omega
  have HA : Hid (k2o l e s c = (⟨#[]⟩, 1)) := if_neg hl
  rw [HA.out]
  clear hl HA ht
  have HB0 : Hid (Below w.heap.size w (w.alloc (.cells (tk e s c) 45))) := (Below.refl _ _).alloc (Nat.le_refl _) _
  go_enter Tryz.func18, Tryz.ntmps18
  go_wp2_with fail
  exact bodyPost_ret (v := .tuple #[.string ⟨#[]⟩, .int .i64 1]) (by simp [results, Tryz.results18, go_sem]) rfl ⟨by simp, HB0.out⟩
theorem y1c (l : List UInt8) (e : Int) (w : World) (ht : Hs.z0j w) : Calls Tryz.prog 20 #[.string ⟨l.toArray⟩, .int .i64 e] w fun x w' => x = .returned (.tuple #[.string (k2k l e).1, .int .i64 (k2k l e).2]) ∧ Below w.heap.size w w' := by
 by_cases hl : l.length = 32
 ·have hli : (l.length : Int) = 32 := by omega
  have HA : Hid (k2k l e = if bet 0 e 65535 then (⟨(z6g e.toNat ++ z6l l (z6g e.toNat)).toArray⟩, 0) else (⟨#[]⟩, 2)) := if_pos hl
  have H1 : Hid _ := y3w e
  have HT : Hid (bet 0 e 65535 = true → ∀ w, Hs.z0j w → Calls Tryz.prog 63 #[.string ⟨l.toArray⟩, .int .i64 e] w fun x w' => x = .returned (.string ⟨(z6g e.toNat ++ z6l l (z6g e.toNat)).toArray⟩) ∧ Below w.heap.size w w') := by
   intro h1 w ht
   obtain ⟨e1, g1⟩ := y3o h1
   have h := q3k l hl e.toNat (by omega) w ht
   rw [← e1] at h
   exact h
  rw [HA.out]
  obtain ⟨r, hr⟩ : ∃ r, r = (z6g e.toNat ++ z6l l (z6g e.toNat)).toArray := ⟨_, rfl⟩
  rw [← hr] at HT ⊢
  have Ht : Hid (Hs.z0j w) := ht
  clear hl hr HA ht
  generalize bet 0 e 65535 = b1 at *
  cases b1
  ·go_enter Tryz.func20, Tryz.ntmps20
   go_wp2_with (go_at_call 56; refine (H1.out _).mono ?_; rintro _ _ ⟨rfl, hww⟩; obtain rfl := hww.symm)
   exact bodyPost_ret (v := .tuple #[.string ⟨#[]⟩, .int .i64 2]) (by simp [results, Tryz.results20, go_sem]) rfl ⟨by simp, Below.refl _ _⟩
  ·have HT' : Hid _ := HT.out rfl
   clear HT
   go_enter Tryz.func20, Tryz.ntmps20
   go_wp2_with (go_at_call 56; refine (H1.out _).mono ?_; rintro _ _ ⟨rfl, hww⟩; obtain rfl := hww.symm)
   refine (HT'.out _ Ht.out).mono ?_
   rintro _ w1 ⟨rfl, hb1⟩
   have HB1 : Hid (Below w.heap.size w w1) := hb1
   clear hb1
   go_wp2_with fail
   exact bodyPost_ret (v := .tuple #[.string ⟨r⟩, .int .i64 0]) (by simp [results, Tryz.results20, go_sem]) rfl ⟨by simp, HB1.out⟩
 ·have hli : (l.length : Int) ≠ 32 := by omega
  have HA : Hid (k2k l e = (⟨#[]⟩, 1)) := if_neg hl
  rw [HA.out]
  clear hl HA ht
  go_enter Tryz.func20, Tryz.ntmps20
  go_wp2_with fail
  exact bodyPost_ret (v := .tuple #[.string ⟨#[]⟩, .int .i64 1]) (by simp [results, Tryz.results20, go_sem]) rfl ⟨by simp, Below.refl _ _⟩
end Tk
end Go.Proofs.YtbojijefenfbgaaGreatDoor
