/- A region that draws its order, walked in the text's order: of each value of its head something is said that lasts (one value, or a block that was made); an operation that looks at a block that was made waits for what made it. Walks of the program's digits and of the document's High. Walks of the program's tickets and orders. Walks of the program's and the document's Ticket and Order. -/
import Derived.Test.YtbojijefenfbgaaGreatDoorFfShort
import Derived.Test.YtbojijefenfbgaaGreatDoorFfQApp
import Derived.Test.YtbojijefenfbgaaGreatDoorFfDocS
namespace Go.Proofs.YtbojijefenfbgaaGreatDoor
open Go Go.RowKit
namespace Qt
section
variable {P : Program} {ops : Array Oper} {W : World} {R : Nat → Value → World → Prop} {K : Act → World → Prop}
end
end Qt
end Go.Proofs.YtbojijefenfbgaaGreatDoor
namespace Go.Proofs.YtbojijefenfbgaaGreatDoor
open Go.RowKit
namespace Tk
open Bt
def dF (n size k j : Nat) : Value := if size ≤ j + k then .int .u8 ((n / 256 ^ (size - 1 - j) % 256 : Nat) : Int) else .int .u8 0
theorem q6v (n size k : Nat) (hk : k < size) (j : Nat) (hj : j < size) : (if j = size - 1 - k then Value.int .u8 ((n / 256 ^ k % 256 : Nat) : Int) else dF n size k j) = dF n size (k + 1) j := by
 unfold dF
 by_cases e : j = size - 1 - k
 ·rw [if_pos e, if_pos (by omega), show size - 1 - j = k by omega]
 ·rw [if_neg e]
  by_cases h : size ≤ j + k
  ·rw [if_pos h, if_pos (by omega)]
  ·rw [if_neg h, if_neg (by omega)]
theorem q3r (n k : Nat) : ((n : Int) / 2 ^ (8 * k)) % 256 = ((n / 256 ^ k % 256 : Nat) : Int) := by
 rw [Int.natCast_emod, Int.natCast_ediv, Int.natCast_pow, Int.pow_mul]
 rfl
set_option maxRecDepth 100000 in
set_option maxHeartbeats 400000 in
theorem y3c (n size : Nat) (_hn : n < 4611686018427387904) (hs : size ≤ 8) (w : World) : Calls Tryz.prog 125 #[.int .i64 (n : Int), .int .i64 (size : Int)] w fun e w' => e = .returned (.string ⟨(hiB n size).toArray⟩) ∧ Below w.heap.size w w' := by
 obtain ⟨L, hL⟩ : ∃ L, L = hiB n size := ⟨_, rfl⟩
 have HL : Hid (L.length = size) := by
  rw [hL]
  exact z3r _ _
 have HLg : Hid (∀ j (h : j < L.length), (L[j]).toNat = n / 256 ^ (size - 1 - j) % 256) := by
  intro j h
  subst hL
  exact q7z _ _ _ _
 rw [← hL]
 clear hL
 go_enter Tryz.func125, Tryz.ntmps125
 go_wp2_with (at_make; refine Own.z4t _ rfl _ _ 145 rfl 5 (.int .u8 0) 1 Tryz.underlying145 y0m rfl .i64 .i64 _ _ size rfl rfl rfl rfl (by omega) (by omega) ?_)
 generalize hw0 : World.alloc _ _ = w0
 obtain ⟨g, hg⟩ : ∃ g, g = w.heap.size := ⟨_, rfl⟩
 have h0 := Dc.al1 hw0
 rw [← hg] at h0 ⊢
 have HR0 : Hid (w0.heap[g]? = some (.cells (Own.z0g size (dF n size 0)) 5 (0, 0))) := h0.1.trans (congrArg (fun r => some (Obj.cells r 5 (0, 0))) (Own.z0k fun j hj => (if_neg (by omega)).symm))
 have HB0 : Hid _ := h0.2
 have HG : Hid (w.heap.size ≤ g) := Nat.le_of_eq hg.symm
 clear hg hw0 h0
 go_loopw [11] (fun i wq => ∃ k : Nat, k ≤ size ∧ i = .int .i64 (k : Int) ∧ wq.heap[g]? = some (.cells (Own.z0g size (dF n size k)) 5 (0, 0)) ∧ Below g w wq) (fun i _ => size - (intOf i).toNat)
 case atStart => exact ⟨0, by omega, rfl, HR0.out, HB0.out⟩
 case round =>
  clear HR0 HB0
  rename World => wa
  obtain ⟨k, hk, rfl, hr, hb⟩ := hrel
  have HR : Hid _ := hr
  have HB : Hid _ := hb
  clear hr hb
  by_cases hks : k < size
  ·have hc := Own.z0p HR.out (size - 1 - k) (by omega)
   have hf := Own.z1j HR.out (size - 1 - k)
   have Hs : Hid _ := q6v n size k hks
   have Hb : Hid _ := q3r n k
   go_wp2_with fail
   refine ⟨⟨k + 1, by omega, by rw [Int.natCast_add]; rfl, ?_, ?_⟩, ?_⟩
   ·rw [Hb.out]
    exact (Own.z1m HR.out _ _).trans (congrArg (fun r => some (Obj.cells r 5 (0, 0))) (Own.z0k fun j hj => Hs.out j hj))
   ·exact Dc.x2h HB.out _ _ (Nat.le_refl _) _
   ·show size - ((k : Int) + 1).toNat < size - (k : Int).toNat
    omega
  ·obtain rfl : k = size := by omega
   have HC : Hid (∀ j (h : j < L.length), wa.cell? ⟨g, 0 + j, none⟩ = some (.int .u8 (L[j].toNat : Int))) := fun j hj => by
    have hj' : j < k := by have := HL.out; omega
    rw [Nat.zero_add, Own.z0p HR.out j hj', HLg.out j hj, dF, if_pos (by omega)]
   have hll := HL.out
   clear HLg
   go_wp2_with (refine Own.z2j _ rfl _ 145 9 5 rfl Tryz.underlying145 Tryz.underlying5 Tryz.underlying9 g 0 k L (by rw [hll]; rfl) HC.out ?_)
   go_ret
   exact ⟨rfl, HB.out.mono HG.out⟩
end Tk
end Go.Proofs.YtbojijefenfbgaaGreatDoor
namespace Go.Proofs.YtbojijefenfbgaaGreatDoor
open Go.RowKit
namespace Tk
open Bt Gw
theorem q2d (w : World) (b off : Nat) (v : Value) (h : w.cell? ⟨b, off, none⟩ = some v) : (loadVar 3 ⟨b, off, none⟩).run Tryz.prog w = .ok v w := by
 have h1 := run_underlying (P := Tryz.prog) Tryz.underlying3 w
 simp [loadVar, go_sem, h]
theorem k1e {W : World} {K : Act → Prop} {l : List Oper} {o : Oper} {a : Act} (hg : o.guard = none) (x : Operand) (ho : o.op = .load 3 x) (b off : Nat) (v : Value) (hx : a.eval x = .pointer (some ⟨b, off, none⟩)) (hb : b < W.heap.size) (hc : W.cell? ⟨b, off, none⟩ = some v)
  (h : Qt.Lex Tryz.prog W K l (a.put o.dst v)) : Qt.Lex Tryz.prog W K (o :: l) a := by
 refine Qt.z0b hg v (fun w' hw' => ?_) h
 have h1 := q2d w' b off v (by rw [hw'.cell (by exact hb)]; exact hc)
 unfold execOp
 simp only [ho, hx, Instr.loadAt, Instr.sureAddr, Sem.run_bind, Sem.run_pure, Result.andThen_ok, h1]
theorem k1d {W : World} {K : Act → Prop} {l : List Oper} {o : Oper} {a : Act} (hg : o.guard = none) (x y : Operand) (ho : o.op = .binOp .add 9 x y 9) (s t r : List UInt8) (hr : s ++ t = r) (hx : a.eval x = .string ⟨s.toArray⟩) (hy : a.eval y = .string ⟨t.toArray⟩) (hl : s.length + t.length ≤ 1000000000000)
  (h : Qt.Lex Tryz.prog W K l (a.put o.dst (.string ⟨r.toArray⟩))) : Qt.Lex Tryz.prog W K (o :: l) a := by
 refine Qt.z0b hg _ (fun w' _ => ?_) h
 have hc := y7k s t
 rw [hr] at hc
 clear h hr
 obtain ⟨dst, op, ty, pos, aft, gd⟩ := o
 simp only at ho
 subst ho
 unfold execOp
 simp only [hx, hy]
 go_simp
 omega
def tk (e s c : Int) : Array Value := #[.int .i64 e, .int .i64 s, .int .i64 c]
def z3s (e s c : Nat) : List UInt8 := [84] ++ hiB e 2 ++ hiB s 4 ++ hiB c 1
def k4q (e : Nat) : List UInt8 := [67] ++ hiB e 2
theorem q3t (l t : List UInt8) (hl : l.length = 32) (htl : t.length ≤ 900000000) (w : World) (ht : Hs.z0j w) : Calls Tryz.prog 124 #[.string ⟨l.toArray⟩, .string ⟨t.toArray⟩] w fun e w' => e = .returned (.string ⟨(t ++ z6s l t).toArray⟩) ∧ Below w.heap.size w w' := by
 have Hk : Hid (∀ w, Hs.z0j w → Calls Tryz.prog 54 #[.string ⟨l.toArray⟩, .string ⟨t.toArray⟩] w fun e w' => e = .returned (.string ⟨(z6s l t).toArray⟩) ∧ Below w.heap.size w w') := fun w ht => q5s l t (by omega) htl w ht
 have hsl := y8x l t
 obtain ⟨sb, hsb⟩ : ∃ k, k = z6s l t := ⟨_, rfl⟩
 rw [← hsb] at Hk hsl ⊢
 have hx := y7k t sb
 have Ht : Hid (Hs.z0j w) := ht
 have hs' : (sb.length : Int) = 64 := by omega
 clear hsb ht hl
 go_enter Tryz.func124, Tryz.ntmps124
 go_wp2_with fail
 refine (Hk.out _ Ht.out).mono ?_
 rintro _ w1 ⟨rfl, hb1⟩
 have HB1 : Hid (Below w.heap.size w w1) := hb1
 clear hb1
 go_wp2_with fail
 exact bodyPost_ret (v := .string ⟨(t ++ sb).toArray⟩) (by simp [results, Tryz.results124, go_sem]) rfl ⟨rfl, HB1.out⟩
theorem q4b (e s c : Nat) : (z3s e s c).length = 8 := by simp [z3s, z3r]
set_option maxRecDepth 100000 in
set_option maxHeartbeats 400000 in
theorem x7p (l : List UInt8) (hl : l.length = 32) (e s c : Nat) (he : e ≤ 65535) (hs : s ≤ 4294967295) (hc : c ≤ 255) (w : World) (ht : Hs.z0j w) : Calls Tryz.prog 59 #[.string ⟨l.toArray⟩, .agg (tk e s c)] w fun x w' => x = .returned (.string ⟨(z3s e s c ++ z6s l (z3s e s c)).toArray⟩) ∧ Below w.heap.size w w' := by
 have Hd1 : Hid (∀ w, Calls Tryz.prog 125 #[.int .i64 (e : Int), .int .i64 2] w fun e' w' => e' = .returned (.string ⟨(hiB e 2).toArray⟩) ∧ Below w.heap.size w w') := y3c e 2 (by omega) (by decide)
 have Hd2 : Hid (∀ w, Calls Tryz.prog 125 #[.int .i64 (s : Int), .int .i64 4] w fun e' w' => e' = .returned (.string ⟨(hiB s 4).toArray⟩) ∧ Below w.heap.size w w') := y3c s 4 (by omega) (by decide)
 have Hd3 : Hid (∀ w, Calls Tryz.prog 125 #[.int .i64 (c : Int), .int .i64 1] w fun e' w' => e' = .returned (.string ⟨(hiB c 1).toArray⟩) ∧ Below w.heap.size w w') := y3c c 1 (by omega) (by decide)
 have h1 := z3r e 2
 have h2 := z3r s 4
 have h3 := z3r c 1
 obtain ⟨d1, hd1⟩ : ∃ d, d = hiB e 2 := ⟨_, rfl⟩
 obtain ⟨d2, hd2⟩ : ∃ d, d = hiB s 4 := ⟨_, rfl⟩
 obtain ⟨d3, hd3⟩ : ∃ d, d = hiB c 1 := ⟨_, rfl⟩
 obtain ⟨r, hr⟩ : ∃ r, r = z3s e s c ++ z6s l (z3s e s c) := ⟨_, rfl⟩
 obtain ⟨t1, ht1⟩ : ∃ t, t = [84] ++ d1 := ⟨_, rfl⟩
 obtain ⟨t2, ht2⟩ : ∃ t, t = t1 ++ d2 := ⟨_, rfl⟩
 obtain ⟨t3, ht3⟩ : ∃ t, t = t2 ++ d3 := ⟨_, rfl⟩
 have e3 : z3s e s c = t3 := by rw [ht3, ht2, ht1, hd1, hd2, hd3]; rfl
 have Hsg : Hid (∀ w, Hs.z0j w → Calls Tryz.prog 124 #[.string ⟨l.toArray⟩, .string ⟨t3.toArray⟩] w fun e w' => e = .returned (.string ⟨r.toArray⟩) ∧ Below w.heap.size w w') := by
  intro w ht
  rw [hr, e3]
  exact q3t l t3 hl (by rw [← e3, q4b]; decide) w ht
 have hl1 : t1.length = 3 := by rw [ht1, hd1]; simp [z3r]
 have hl2 : t2.length = 7 := by rw [ht2, hd2]; simp [z3r, hl1]
 have Ht1 : Hid ([84] ++ d1 = t1) := ht1.symm
 have Ht2 : Hid (t1 ++ d2 = t2) := ht2.symm
 have Ht3 : Hid (t2 ++ d3 = t3) := ht3.symm
 clear ht1 ht2 ht3 e3
 rw [← hr]
 rw [← hd1] at Hd1 h1
 rw [← hd2] at Hd2 h2
 rw [← hd3] at Hd3 h3
 have Ht : Hid (Hs.z0j w) := ht
 clear hd1 hd2 hd3 hr ht hl he hs hc
 go_enter Tryz.func59, Tryz.ntmps59
 go_wp2_with fail
 generalize hw0 : World.alloc _ _ = w0
 have h0 := Dc.al1 hw0
 have HT0 : Hid (w0.heap[w.heap.size]? = some (.cells (tk e s c) 45 (0, 0))) := h0.1
 have HB0 : Hid _ := h0.2
 have Ht0 : Hid (Hs.z0j w0) := Ht.out.below h0.2 Ht.out.lt
 have Hlt : Hid (w.heap.size < w0.heap.size) := (Array.getElem?_eq_some_iff.1 HT0.out).1
 clear hw0 h0
 refine Qt.z0r 14 (by kernel_rfl) (by kernel_rfl) ?_
 refine Qt.z0b rfl (.string ⟨l.toArray⟩) (fun _ _ => by kernel_rfl) ?_
 refine Qt.z0b rfl (.pointer (some ⟨w.heap.size, 0, none⟩)) (fun _ _ => by kernel_rfl) ?_
 refine k1e rfl _ rfl w.heap.size 0 (.int .i64 (e : Int)) rfl Hlt.out (cell_of_row _ _ _ _ _ _ HT0.out) ?_
 simp only [zD]
 refine Qt.z0e rfl 125 #[.int .i64 (e : Int), .int .i64 2] (.string ⟨d1.toArray⟩) (fun _ => by kernel_rfl) (fun w' _ => Hd1.out w') ?_
 simp only [zD]
 refine k1d rfl _ _ rfl [84] d1 t1 Ht1.out rfl rfl (by simp; omega) ?_
 simp only [zD]
 refine Qt.z0b rfl (.pointer (some ⟨w.heap.size, 1, none⟩)) (fun _ _ => by kernel_rfl) ?_
 refine k1e rfl _ rfl w.heap.size 1 (.int .i64 (s : Int)) rfl Hlt.out (cell_of_row _ _ _ _ _ _ HT0.out) ?_
 simp only [zD]
 refine Qt.z0e rfl 125 #[.int .i64 (s : Int), .int .i64 4] (.string ⟨d2.toArray⟩) (fun _ => by kernel_rfl) (fun w' _ => Hd2.out w') ?_
 simp only [zD]
 refine k1d rfl _ _ rfl t1 d2 t2 Ht2.out rfl rfl (by omega) ?_
 simp only [zD]
 refine Qt.z0b rfl (.pointer (some ⟨w.heap.size, 2, none⟩)) (fun _ _ => by kernel_rfl) ?_
 refine k1e rfl _ rfl w.heap.size 2 (.int .i64 (c : Int)) rfl Hlt.out (cell_of_row _ _ _ _ _ _ HT0.out) ?_
 simp only [zD]
 refine Qt.z0e rfl 125 #[.int .i64 (c : Int), .int .i64 1] (.string ⟨d3.toArray⟩) (fun _ => by kernel_rfl) (fun w' _ => Hd3.out w') ?_
 simp only [zD]
 refine k1d rfl _ _ rfl t2 d3 t3 Ht3.out rfl rfl (by omega) ?_
 simp only [zD]
 refine Qt.z0e rfl 124 #[.string ⟨l.toArray⟩, .string ⟨t3.toArray⟩] (.string ⟨r.toArray⟩) (fun _ => by kernel_rfl) (fun w' hw' => Hsg.out w' (Ht0.out.below hw' Ht0.out.lt)) ?_
 simp only [zD]
 refine Qt.z0z ?_
 intro w1 hb1
 have HB1 : Hid (Below w.heap.size w w1) := HB0.out.trans (hb1.mono HB0.out.size)
 clear hb1
 simp only [List.drop_succ_cons, List.drop_zero]
 go_wp2_with fail
 exact bodyPost_ret (v := .string ⟨r.toArray⟩) (by simp [results, Tryz.results59, go_sem]) rfl ⟨rfl, HB1.out⟩
end Tk
end Go.Proofs.YtbojijefenfbgaaGreatDoor
namespace Go.Proofs.YtbojijefenfbgaaGreatDoor
open Go.RowKit
namespace Tk
open Bt Gw
noncomputable def k1o (l : List UInt8) (e s c : Int) : ByteArray × Int :=
 if l.length = 32 then if bet 0 e 65535 && bet 0 s 4294967295 && bet 0 c 255 then (⟨(z3s e.toNat s.toNat c.toNat ++ z6s l (z3s e.toNat s.toNat c.toNat)).toArray⟩, 0) else (⟨#[]⟩, 2) else (⟨#[]⟩, 1)
theorem y7l {n hi : Int} (h : bet 0 n hi = true) : n = (n.toNat : Int) ∧ n ≤ hi := by
 simp [bet] at h
 omega
set_option maxRecDepth 100000 in
set_option maxHeartbeats 400000 in
theorem q4h (l : List UInt8) (e s c : Int) (w : World) (ht : Hs.z0j w) : Calls Tryz.prog 18 #[.string ⟨l.toArray⟩, .agg (tk e s c)] w fun x w' => x = .returned (.tuple #[.string (k1o l e s c).1, .int .i64 (k1o l e s c).2]) ∧ Below w.heap.size w w' := by
 by_cases hl : l.length = 32
 ·have hli : (l.length : Int) = 32 := by omega
  have HA : Hid (k1o l e s c = if bet 0 e 65535 && bet 0 s 4294967295 && bet 0 c 255 then (⟨(z3s e.toNat s.toNat c.toNat ++ z6s l (z3s e.toNat s.toNat c.toNat)).toArray⟩, 0) else (⟨#[]⟩, 2)) := if_pos hl
  have H1 : Hid _ := y7x e
  have H2 : Hid _ := x1l s
  have H3 : Hid _ := q6t c
  have HT : Hid (bet 0 e 65535 = true → bet 0 s 4294967295 = true → bet 0 c 255 = true → ∀ w, Hs.z0j w → Calls Tryz.prog 59 #[.string ⟨l.toArray⟩, .agg (tk e s c)] w fun x w' => x = .returned (.string ⟨(z3s e.toNat s.toNat c.toNat ++ z6s l (z3s e.toNat s.toNat c.toNat)).toArray⟩) ∧ Below w.heap.size w w') := by
   intro h1 h2 h3 w ht
   obtain ⟨e1, g1⟩ := y7l h1
   obtain ⟨e2, g2⟩ := y7l h2
   obtain ⟨e3, g3⟩ := y7l h3
   have h := x7p l hl e.toNat s.toNat c.toNat (by omega) (by omega) (by omega) w ht
   rw [← e1, ← e2, ← e3] at h
   exact h
  rw [HA.out]
  obtain ⟨r, hr⟩ : ∃ r, r = (z3s e.toNat s.toNat c.toNat ++ z6s l (z3s e.toNat s.toNat c.toNat)).toArray := ⟨_, rfl⟩
  rw [← hr] at HT ⊢
  have Ht : Hid (Hs.z0j w) := ht
  clear hl hr HA ht
  generalize bet 0 e 65535 = b1 at *
  generalize bet 0 s 4294967295 = b2 at *
  generalize bet 0 c 255 = b3 at *
  have HB0 : Hid (Below w.heap.size w (w.alloc (.cells (tk e s c) 45))) := (Below.refl _ _).alloc (Nat.le_refl _) _
  have Ht0 : Hid (Hs.z0j (w.alloc (.cells (tk e s c) 45))) := Ht.out.below HB0.out Ht.out.lt
  unfold tk at *
  cases b1
  ·go_enter Tryz.func18, Tryz.ntmps18
   go_wp2_with (go_at_call 56; refine (H1.out _).mono ?_; rintro _ _ ⟨rfl, rfl⟩)
   exact bodyPost_ret (v := .tuple #[.string ⟨#[]⟩, .int .i64 2]) (by simp [results, Tryz.results18, go_sem]) rfl ⟨by simp, HB0.out⟩
  ·cases b2
   ·go_enter Tryz.func18, Tryz.ntmps18
    go_wp2_with (first | (go_at_call 56; refine (H1.out _).mono ?_; rintro _ _ ⟨rfl, rfl⟩) | (go_at_call 57; refine (H2.out _).mono ?_; rintro _ _ ⟨rfl, rfl⟩))
    exact bodyPost_ret (v := .tuple #[.string ⟨#[]⟩, .int .i64 2]) (by simp [results, Tryz.results18, go_sem]) rfl ⟨by simp, HB0.out⟩
   ·cases b3
    ·go_enter Tryz.func18, Tryz.ntmps18
     go_wp2_with (first | (go_at_call 56; refine (H1.out _).mono ?_; rintro _ _ ⟨rfl, rfl⟩) | (go_at_call 57; refine (H2.out _).mono ?_; rintro _ _ ⟨rfl, rfl⟩) | (go_at_call 58; refine (H3.out _).mono ?_; rintro _ _ ⟨rfl, rfl⟩))
     exact bodyPost_ret (v := .tuple #[.string ⟨#[]⟩, .int .i64 2]) (by simp [results, Tryz.results18, go_sem]) rfl ⟨by simp, HB0.out⟩
    ·have HT' : Hid _ := HT.out rfl rfl rfl
     clear HT
     go_enter Tryz.func18, Tryz.ntmps18
     go_wp2_with (first | (go_at_call 56; refine (H1.out _).mono ?_; rintro _ _ ⟨rfl, rfl⟩) | (go_at_call 57; refine (H2.out _).mono ?_; rintro _ _ ⟨rfl, rfl⟩) | (go_at_call 58; refine (H3.out _).mono ?_; rintro _ _ ⟨rfl, rfl⟩))
     refine (HT'.out _ Ht0.out).mono ?_
     rintro _ w1 ⟨rfl, hb1⟩
     have HB1 : Hid (Below w.heap.size w w1) := HB0.out.trans (hb1.mono HB0.out.size)
     clear hb1
     go_wp2_with fail
     exact bodyPost_ret (v := .tuple #[.string ⟨r⟩, .int .i64 0]) (by simp [results, Tryz.results18, go_sem]) rfl ⟨by simp, HB1.out⟩
 ·have hli : (l.length : Int) ≠ 32 := by omega
  have HA : Hid (k1o l e s c = (⟨#[]⟩, 1)) := if_neg hl
  rw [HA.out]
  clear hl HA ht
  have HB0 : Hid (Below w.heap.size w (w.alloc (.cells (tk e s c) 45))) := (Below.refl _ _).alloc (Nat.le_refl _) _
  go_enter Tryz.func18, Tryz.ntmps18
  go_wp2_with fail
  exact bodyPost_ret (v := .tuple #[.string ⟨#[]⟩, .int .i64 1]) (by simp [results, Tryz.results18, go_sem]) rfl ⟨by simp, HB0.out⟩
end Tk
end Go.Proofs.YtbojijefenfbgaaGreatDoor
