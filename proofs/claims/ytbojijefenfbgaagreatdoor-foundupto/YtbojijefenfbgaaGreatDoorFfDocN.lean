/- Walks of the document's low, parts, order. What Right asks, in points. The base's order; a signature is right, and with another s it is not. Multiples of a point reckoned by the kernel; the base's order. Walks of the package postern: Key, Sign, Right. Walk of the document's rest. -/
import Derived.Test.YtbojijefenfbgaaGreatDoorFfDocJ
import Derived.Test.YtbojijefenfbgaaGreatDoorFfHashWalks
import Derived.Test.YtbojijefenfbgaaGreatDoorFfSignD
import Derived.Test.YtbojijefenfbgaaGreatDoorFfWideE
namespace Go.Proofs.YtbojijefenfbgaaGreatDoor
open Go.RowKit
namespace Dc
open Bt Ed Cw
theorem y3x (W : World) (s : ByteArray) (k : Nat) (h : k < s.size) (i : Int) (hi : i = (k : Int)) : Sem.run Tryz.prog (Instr.index 9 (.string s) (.int .i64 i)) W = .ok (.int .u8 ((s[k]).toNat : Int)) W := by
 subst hi
 have h1 : (0 : Int) ≤ (k : Int) ∧ (k : Int) < (s.size : Int) := by omega
 simp [Instr.index, asIntOf, run_underlying Tryz.underlying9, h]
end Dc
end Go.Proofs.YtbojijefenfbgaaGreatDoor
namespace Go.Proofs.YtbojijefenfbgaaGreatDoor
open Go.RowKit
namespace Gw
open Fw Bt Ww Sw Cw Ed
theorem x0q (q : Q) : (x3d q).num = q.num % 57896044618658097711785492504343953926634992332820282019728792003956564819968 := by
 unfold x3d Q.num
 simp only
 rw [x6s]
 have h0 := q.a0.isLt
 have h1 := q.a1.isLt
 have h2 := q.a2.isLt
 have h3 := q.a3.isLt
 omega
theorem x1v (q : Q) : decide (un (q.a3 >>> (63 : Nat)) = 1) = decide (q.num / 57896044618658097711785492504343953926634992332820282019728792003956564819968 = 1) := by
 have e : (q.a3 >>> (63 : Nat)).toNat = q.num / 57896044618658097711785492504343953926634992332820282019728792003956564819968 := by
  rw [BitVec.toNat_ushiftRight, Nat.shiftRight_eq_div_pow]
  unfold Q.num
  have h0 := q.a0.isLt
  have h1 := q.a1.isLt
  have h2 := q.a2.isLt
  have h3 := q.a3.isLt
  omega
 unfold un
 rw [e]
 by_cases h : q.num / 57896044618658097711785492504343953926634992332820282019728792003956564819968 = 1
 ·rw [h]; rfl
 ·rw [decide_eq_false h]
  exact decide_eq_false (by omega)
theorem y7w (p : Pt) : enc p.1 p.2 % 57896044618658097711785492504343953926634992332820282019728792003956564819968 = p.2.val ∧ enc p.1 p.2 / 57896044618658097711785492504343953926634992332820282019728792003956564819968 = if z5q p.1 then 1 else 0 := by
 have h : p.2.val < 57896044618658097711785492504343953926634992332820282019728792003956564819949 := p.2.isLt
 unfold enc
 split <;> omega
theorem y7v (p : Pt) : le (y3e p) = enc p.1 p.2 := q5e 32 _ (Nat.lt_of_lt_of_le (k2n _ _) (by decide))
theorem z9r {p q : Pt} (hp : OnP p) (hq : OnP q) (h : y3e p = y3e q) : p = q := by
 have e : enc p.1 p.2 = enc q.1 q.2 := by rw [← y7v, ← y7v, h]
 have h1 := y7w p
 have h2 := y7w q
 rw [e] at h1
 have hy : p.2 = q.2 := Fin.ext (h1.1.symm.trans h2.1)
 have ho : z5q p.1 = z5q q.1 := by
  have := h1.2.symm.trans h2.2
  cases hp1 : z5q p.1 <;> cases hq1 : z5q q.1 <;> rw [hp1, hq1] at this <;> simp_all
 obtain ⟨x1, y1⟩ := p
 obtain ⟨x2, y2⟩ := q
 have hy' : y1 = y2 := hy
 subst hy'
 rw [x7i hp hq ho]
theorem k3y (R A t : List UInt8) : kN R A t < LL := z8n _
noncomputable def k1k (f : F × Bool) (odd : Bool) : E × Bool := if f.2 = false then (e0, false) else if (z1n f.1 odd).2 = false then (e0, false) else (aff (z1n f.1 odd).1 f.1, true)
theorem x5g {f : F × Bool} {odd : Bool} (h : (k1k f odd).2 = true) : f.2 = true ∧ (z1n f.1 odd).2 = true ∧ (k1k f odd).1 = aff (z1n f.1 odd).1 f.1 := by
 unfold k1k at *
 by_cases h1 : f.2 = false
 ·rw [if_pos h1] at h; cases h
 ·rw [if_neg h1] at h ⊢
  by_cases h2 : (z1n f.1 odd).2 = false
  ·rw [if_pos h2] at h; cases h
  ·rw [if_neg h2]
   exact ⟨by simpa using h1, by simpa using h2, rfl⟩
theorem x2k {y : F} {odd : Bool} (h : (k1k (y, true) odd).2 = false) : (z1n y odd).2 = false := by
 unfold k1k at h
 rw [if_neg (by simp)] at h
 by_cases h2 : (z1n y odd).2 = false
 ·exact h2
 ·rw [if_neg h2] at h; cases h
theorem x5f (q : Q) : q6w q = k1k (z6w (x3d q)) (decide (un (q.a3 >>> (63 : Nat)) = 1)) := rfl
theorem x5v {q : Q} (h : (z6w q).2 = true) : (z6w q).1.val = q.num := by
 unfold z6w at h ⊢
 by_cases h2 : q.num < Ed.P
 ·rw [dif_pos h2]
 ·rw [dif_neg h2] at h; cases h
theorem k2o {x y : F} {N : Nat} (hy : y.val = N % 57896044618658097711785492504343953926634992332820282019728792003956564819968) (ho : z5q x = decide (N / 57896044618658097711785492504343953926634992332820282019728792003956564819968 = 1)) (hN : N < 115792089237316195423570985008687907853269984665640564039457584007913129639936) : enc x y = N := by
 unfold enc
 rw [hy, ho]
 by_cases h : N / 57896044618658097711785492504343953926634992332820282019728792003956564819968 = 1
 ·rw [decide_eq_true h, if_pos rfl]; omega
 ·rw [decide_eq_false h, if_neg (by simp)]; omega
theorem q0p {l : List UInt8} (hl : l.length = 32) {x y : F} (D : E) (h4 : OnP (x, y)) (hD : D = aff x y) (hy : y.val = (bq l).num % 57896044618658097711785492504343953926634992332820282019728792003956564819968) (h5 : z5q x = decide ((bq l).num / 57896044618658097711785492504343953926634992332820282019728792003956564819968 = 1)) : ∃ p : Pt, OnP p ∧ D = aff p.1 p.2 ∧ y3e p = l := by
 refine ⟨(x, y), h4, hD, ?_⟩
 have hn := z8s l (by omega)
 have e := k2o hy h5 (z5n _)
 show leB (enc x y) 32 = l
 rw [e, hn]
 have := k3z l
 rwa [hl] at this
theorem y9x {l : List UInt8} (h : (z9h l).2 = true) : ∃ p : Pt, OnP p ∧ (z9h l).1 = aff p.1 p.2 ∧ y3e p = l := by
 unfold z9h at h ⊢
 by_cases hl : l.length = 32
 ·rw [if_pos hl] at h ⊢
  rw [x5f, x1v] at h ⊢
  obtain ⟨h1, h2, h3⟩ := x5g h
  obtain ⟨h4, h5⟩ := y4u h2
  exact q0p hl _ h4 h3 ((x5v h1).trans (x0q (bq l))) h5
 ·rw [if_neg hl] at h; cases h
theorem y5a {l : List UInt8} (h : (z9h l).2 = false) (p : Pt) (hp : OnP p) : y3e p ≠ l := by
 intro he
 have hl : l.length = 32 := by rw [← he]; exact z3w p
 have hN : (bq l).num = enc p.1 p.2 := by rw [z8s l (by omega), ← he, y7v]
 unfold z9h at h
 rw [if_pos hl, x5f, x1v] at h
 have hm := y7w p
 have hlow := x0q (bq l)
 rw [hN, hm.1] at hlow
 have hf : z6w (x3d (bq l)) = (p.2, true) := by
  unfold z6w
  rw [dif_pos (by rw [hlow]; exact p.2.isLt)]
  exact Prod.ext (Fin.ext hlow) rfl
 rw [hN, hf, hm.2] at h
 have ho : decide ((if z5q p.1 = true then 1 else 0) = 1) = z5q p.1 := by cases z5q p.1 <;> rfl
 rw [ho] at h
 exact y2r (x2k h) p.1 hp rfl
theorem x1t {p : Pt} (hp : OnP p) (s k : Q) : k6t s k (aff p.1 p.2) = y3e (z1x (z1t bP s.num) (z1t (neg p) k.num)) := by
 have h := x0b (T := TT s k (aff p.1 p.2)) (p := fun j => if j = 0 then bP else neg p) (fun j => by
  show OnP (if j = 0 then bP else neg p)
  split
  ·exact z6v
  ·exact z7w hp) (fun j => by
  show Rep (TU s k (aff bX bY) (q4v (aff p.1 p.2)) j).2 (if j = 0 then bP else neg p)
  unfold TU
  by_cases hj : j = 0
  ·rw [if_pos hj, if_pos hj]; exact z5u bX bY
  ·rw [if_neg hj, if_neg hj]; exact q0u (z5u p.1 p.2)) 2
 have h2 : pS (fun j => if j = 0 then bP else neg p) (fun j => (TT s k (aff p.1 p.2) j).1.num) 2 = z1x (z1t bP s.num) (z1t (neg p) k.num) := by
  show z1x (z1x zero (z1t bP s.num)) (z1t (neg p) k.num) = _
  rw [z6n]
 rw [h2] at h
 exact y6o h
theorem y0v (k t g : List UInt8) : z0q k t g = true ↔ g.length = 64 ∧ le (g.drop 32) < LL ∧ ∃ p : Pt, OnP p ∧ y3e p = k ∧ y3e (z1x (z1t bP (le (g.drop 32))) (z1t (neg p) (kN (g.take 32) k t))) = g.take 32 := by
 unfold z0q
 constructor
 ·intro h
  by_cases h1 : k.length = 32 ∧ g.length = 64
  ·rw [if_pos h1] at h
   by_cases h2 : le (g.drop 32) < LL
   ·rw [if_pos h2] at h
    by_cases h3 : (z9h k).2 = true
    ·rw [if_pos h3] at h
     obtain ⟨p, hp, hd, he⟩ := y9x h3
     have h4 := of_decide_eq_true h
     rw [hd, x1t hp, z8s _ (by simp; omega), z3c (y4r (k3y _ _ _))] at h4
     exact ⟨h1.2, h2, p, hp, he, h4⟩
    ·rw [if_neg h3] at h; cases h
   ·rw [if_neg h2] at h; cases h
  ·rw [if_neg h1] at h; cases h
 ·rintro ⟨hg, hs, p, hp, he, hr⟩
  have hk : k.length = 32 := by rw [← he]; exact z3w p
  rw [if_pos ⟨hk, hg⟩, if_pos hs]
  have h3 : (z9h k).2 = true := by
   cases h : (z9h k).2 with
   | true => rfl
   | false => exact absurd he (y5a h p hp)
  rw [if_pos h3]
  obtain ⟨p', hp', hd, he'⟩ := y9x h3
  have hpp : p' = p := z9r hp' hp (he'.trans he.symm)
  subst hpp
  refine decide_eq_true ?_
  rw [hd, x1t hp, z8s _ (by simp; omega), z3c (y4r (k3y _ _ _))]
  exact hr
end Gw
end Go.Proofs.YtbojijefenfbgaaGreatDoor
namespace Go.Proofs.YtbojijefenfbgaaGreatDoor
open Go.RowKit
namespace Ed
theorem x5y (n : Nat) [NeZero n] (a b c d : Fin n) : (-a) * (-b) * c * d = a * b * c * d := by grind
theorem q1i (n : Nat) [NeZero n] (c a b x y u : Fin n) : c * (-a * y + x * -b) * u = -(c * (a * y + x * b) * u) := by grind
theorem q1j (n : Nat) [NeZero n] (c a b x y u : Fin n) : c * (x * y + -a * -b) * u = c * (x * y + a * b) * u := by grind
theorem q2i (p q : Pt) : neg (z1x p q) = z1x (neg p) (neg q) := by
 have hm : mm (neg p) (neg q) = mm p q := x5y P p.1 q.1 p.2 q.2
 have hx : (z1x (neg p) (neg q)).1 = (neg (z1x p q)).1 := by
  unfold z1x
  rw [hm]
  exact q1i P cC p.1 q.1 p.2 q.2 _
 have hy : (z1x (neg p) (neg q)).2 = (neg (z1x p q)).2 := by
  unfold z1x
  rw [hm]
  exact q1j P cC p.1 q.1 p.2 q.2 _
 exact (Prod.ext hx hy).symm
theorem neg_zero : neg zero = zero := by decide
theorem y3l (p : Pt) (n : Nat) : z1t (neg p) n = neg (z1t p n) := by
 induction n with
 | zero => exact neg_zero.symm
 | succ n ih =>
  show z1x (z1t (neg p) n) (neg p) = neg (z1x (z1t p n) p)
  rw [ih, q2i]
theorem y5z (n : Nat) : z1t zero n = zero := by
 induction n with
 | zero => rfl
 | succ n ih =>
  show z1x (z1t zero n) zero = zero
  rw [ih]; exact z2v zero
theorem cancel {a b c : Pt} (ha : OnP a) (hb : OnP b) (hc : OnP c) (h : z1x a c = z1x b c) : a = b := by
 have h1 : z1x (z1x a c) (neg c) = z1x (z1x b c) (neg c) := by rw [h]
 rw [z1y ha hc (z7w hc), z1y hb hc (z7w hc), x1b hc, z2v, z2v] at h1
 exact h1
section
variable {b : Pt} {L : Nat}
theorem y3n (hb : OnP b) (h0 : z1t b L = zero) (n : Nat) : z1t b (n % L) = z1t b n := by
 have e : z1t b n = z1t b (L * (n / L) + n % L) := by rw [Nat.div_add_mod]
 rw [e, z6p hb, ← z7v hb, h0, y5z, z6n]
theorem q2s (hL : Nt.z0h L) (hb : OnP b) (h0 : z1t b L = zero) (hne : b ≠ zero) {d : Nat} (hd : z1t b d = zero) : L ∣ d := by
 by_cases h : L ∣ d
 ·exact h
 ·have h1 := Nt.z8g hL d h
  have h2 : z1t b (d ^ (L - 1)) = zero := by
   have hL2 := hL.1
   rw [show L - 1 = (L - 2) + 1 by omega, Nat.pow_succ, Nat.mul_comm, ← z7v hb, hd, y5z]
  rw [← y3n hb h0, h1, q2h] at h2
  exact absurd h2 hne
theorem q9d (hL : Nt.z0h L) (hb : OnP b) (h0 : z1t b L = zero) (hne : b ≠ zero) {i j : Nat} (hi : i < L) (hj : j < L) (h : z1t b i = z1t b j) : i = j := by
 have key : ∀ i j, i ≤ j → j < L → z1t b i = z1t b j → i = j := by
  intro i j hij hj h
  have e : z1t b j = z1x (z1t b (j - i)) (z1t b i) := by rw [← z6p hb, Nat.sub_add_cancel hij]
  have h1 : z1x zero (z1t b i) = z1x (z1t b (j - i)) (z1t b i) := by rw [z6n, ← e, h]
  have h2 := cancel y9o (z1g hb _) (z1g hb _) h1
  have h3 := q2s hL hb h0 hne h2.symm
  rcases Nat.eq_zero_or_pos (j - i) with h4 | h4
  ·omega
  ·have := Nat.le_of_dvd h4 h3
   omega
 rcases Nat.le_total i j with hij | hij
 ·exact key i j hij hj h
 ·exact (key j i hij hi h.symm).symm
end
end Ed
namespace Gw
open Fw Bt Ww Sw Cw Ed
theorem k7k : bP ≠ zero := by decide
theorem y5v (l : List UInt8) : z7h l = y3e (z1t bP (sec l)) := rfl
theorem x1n (l t : List UInt8) : (z6s l t).take 32 = rB l t := by
 unfold z6s
 rw [List.take_append_of_le_length (by rw [show (rB l t).length = 32 from z3w _]; exact Nat.le_refl _), List.take_of_length_le (by rw [show (rB l t).length = 32 from z3w _]; exact Nat.le_refl _)]
theorem q3s (l t : List UInt8) : (z6s l t).drop 32 = leB (sN l t) 32 := by
 unfold z6s
 exact List.drop_left' (z3w _)
theorem y8x (l t : List UInt8) : (z6s l t).length = 64 := by
 unfold z6s
 rw [List.length_append, z6o, show (rB l t).length = 32 from z3w _]
theorem k5i (l t : List UInt8) : sN l t < LL := z8n _
theorem q5r (l t : List UInt8) : le ((z6s l t).drop 32) = sN l t := by
 rw [q3s]
 exact q5e 32 _ (Nat.lt_of_lt_of_le (y4r (k5i l t)) (by decide))
theorem x8l {b : Pt} (hb : OnP b) {L : Nat} (h0 : z1t b L = zero) (r k a : Nat) : z1x (z1t b ((r + k * a) % L)) (z1t (neg (z1t b a)) k) = z1t b r := by
 rw [y3n hb h0, z6p hb, y3l, z7v hb, Nat.mul_comm k a, z1y (z1g hb _) (z1g hb _) (z7w (z1g hb _)), x1b (z1g hb _), z2v]
theorem y0w (h0 : z1t bP LL = zero) (l t : List UInt8) : z0q (z7h l) t (z6s l t) = true := by
 rw [y0v]
 refine ⟨y8x l t, by rw [q5r]; exact k5i l t, z1t bP (sec l), z1g z6v _, (y5v l).symm, ?_⟩
 rw [q5r, x1n]
 have h := x8l z6v h0 (rN l t) (kN (rB l t) (z7h l) t) (sec l)
 have e : sN l t = (rN l t + kN (rB l t) (z7h l) t * sec l) % LL := rfl
 rw [e, h]
 rfl
end Gw
end Go.Proofs.YtbojijefenfbgaaGreatDoor
namespace Go.Proofs.YtbojijefenfbgaaGreatDoor
open Go.RowKit
namespace Ed
def force (n : Nat) (k : Nat → Bool) : Bool := Nat.rec (k 0) (fun m _ => k (m + 1)) n
theorem force_eq (n : Nat) (k : Nat → Bool) : force n k = k n := by cases n <;> rfl
def frc (v : F) (k : F → Bool) : Bool := force v.val fun n => k (Fin.ofNat P n)
theorem x0e (v : F) (k : F → Bool) : frc v k = k v := by
 unfold frc
 rw [force_eq]
 congr 1
 exact Fin.ext (Nat.mod_eq_of_lt v.isLt)
def k6p (e : E) (k : E → Bool) : Bool := frc e.x fun x => frc e.y fun y => frc e.z fun z => frc e.t fun t => k ⟨x, y, z, t⟩
theorem x5u (e : E) (k : E → Bool) : k6p e k = k e := by
 unfold k6p
 rw [x0e, x0e, x0e, x0e]
def runB (b : E) (n : Nat) : Nat → E → (E → Bool) → Bool
 | 0, acc, k => k acc
 | i + 1, acc, k => k6p (z7q acc) fun a => cond (Nat.beq (n / 2 ^ i % 2) 1) (k6p (y7t a b) fun a => runB b n i a k) (runB b n i a k)
theorem q3l {b : E} {p : Pt} (hp : OnP p) (hb : Rep b p) (n : Nat) (k : E → Bool) (i : Nat) : ∀ acc, Rep acc (z1t p (n / 2 ^ i)) → runB b n i acc k = true → ∃ e, Rep e (z1t p n) ∧ k e = true := by
 induction i with
 | zero =>
  intro acc h hr
  rw [Nat.pow_zero, Nat.div_one] at h
  exact ⟨acc, h, hr⟩
 | succ i ih =>
  intro acc h hr
  unfold runB at hr
  rw [x5u] at hr
  have hd := z7r (z1g hp _) h
  rw [← z6p hp] at hd
  have e2 : n / 2 ^ (i + 1) = n / 2 ^ i / 2 := by rw [Nat.pow_succ, Nat.div_div_eq_div_mul]
  rw [e2] at hd
  cases hc : Nat.beq (n / 2 ^ i % 2) 1 with
  | true =>
   rw [hc, cond_true, x5u] at hr
   have h1 : n / 2 ^ i % 2 = 1 := Nat.eq_of_beq_eq_true hc
   have ha := y3d (z1g hp _) hp hd hb
   have e3 : z1x (z1t p (n / 2 ^ i / 2 + n / 2 ^ i / 2)) p = z1t p (n / 2 ^ i / 2 + n / 2 ^ i / 2 + 1) := rfl
   rw [e3, show n / 2 ^ i / 2 + n / 2 ^ i / 2 + 1 = n / 2 ^ i by omega] at ha
   exact ih _ ha hr
  | false =>
   rw [hc, cond_false] at hr
   have h1 : n / 2 ^ i % 2 ≠ 1 := Nat.ne_of_beq_eq_false hc
   rw [show n / 2 ^ i / 2 + n / 2 ^ i / 2 = n / 2 ^ i by omega] at hd
   exact ih _ hd hr
def isB (x y : F) (e : E) : Bool := Nat.beq e.x.val (x * e.z).val && Nat.beq e.y.val (y * e.z).val
theorem z7t (n : Nat) [NeZero n] (a b : Fin n) : a * b = b * a := by grind
theorem q1q {x y : F} {e : E} {q : Pt} (h : isB x y e = true) (hr : Rep e q) : q = (x, y) := by
 unfold isB at h
 rw [Bool.and_eq_true] at h
 have h1 : e.x = x * e.z := Fin.ext (Nat.eq_of_beq_eq_true h.1)
 have h2 : e.y = y * e.z := Fin.ext (Nat.eq_of_beq_eq_true h.2)
 have c1 : e.z * q.1 = e.z * x := by rw [z7t P e.z q.1, z7t P e.z x, ← hr.x, h1]
 have c2 : e.z * q.2 = e.z * y := by rw [z7t P e.z q.2, z7t P e.z y, ← hr.y, h2]
 exact Prod.ext (z3d hr.z c1) (z3d hr.z c2)
theorem x0s {b : E} {p : Pt} (hp : OnP p) (hb : Rep b p) (n i : Nat) (hn : n < 2 ^ i) (x y : F) (h : runB b n i z7e (isB x y) = true) : z1t p n = (x, y) := by
 have h0 : Rep z7e (z1t p (n / 2 ^ i)) := by
  rw [Nat.div_eq_of_lt hn]
  exact y0h
 obtain ⟨e, hr, hk⟩ := q3l hp hb n _ i _ h0 h
 exact q1q hk hr
end Ed
namespace Gw
open Fw Bt Ww Sw Cw Ed
theorem z4c : z1t bP LL = zero := x0s z6v (z5u bX bY) LL 253 (by decide) 0 1 (by kernel_rfl)
end Gw
end Go.Proofs.YtbojijefenfbgaaGreatDoor
namespace Go.Proofs.YtbojijefenfbgaaGreatDoor
open Go.RowKit
namespace Gw
open Fw Bt Ww Sw Cw Ed
set_option maxHeartbeats 400000 in
theorem x7s (l : List UInt8) (hl : l.length = 32) (w : World) (ht : Hs.z0j w) : Calls Tryz.prog 34 #[.string ⟨l.toArray⟩] w fun e w' => e = .returned (.tuple #[.string ⟨(z7h l).toArray⟩, .int .i64 0]) ∧ Below w.heap.size w w' := by
 have Hk : Hid (∀ w, Hs.z0j w → Calls Tryz.prog 83 #[.string ⟨l.toArray⟩] w fun e w' => e = .returned (.string ⟨(z7h l).toArray⟩) ∧ Below w.heap.size w w') := fun w ht => k8d l (by omega) w ht
 obtain ⟨kb, hkb⟩ : ∃ k, k = z7h l := ⟨_, rfl⟩
 rw [← hkb] at Hk ⊢
 clear hkb
 have Ht : Hid (Hs.z0j w) := ht
 have hli : (l.length : Int) = 32 := by omega
 clear ht
 go_enter Tryz.func34, Tryz.ntmps34
 go_wp2_with fail
 refine (Hk.out w Ht.out).mono ?_
 rintro e w1 ⟨rfl, hb1⟩
 have HB : Hid (Below w.heap.size w w1) := hb1
 clear hb1
 go_wp2_with fail
 exact bodyPost_ret (v := .tuple #[.string ⟨kb.toArray⟩, .int .i64 0]) (by simp [results, Tryz.results34, go_sem]) rfl ⟨rfl, HB.out⟩
set_option maxHeartbeats 400000 in
theorem q9w (l t : List UInt8) (hl : l.length = 32) (htl : t.length ≤ 900000000) (w : World) (ht : Hs.z0j w) : Calls Tryz.prog 14 #[.string ⟨l.toArray⟩, .string ⟨t.toArray⟩] w fun e w' => e = .returned (.tuple #[.string ⟨(z6s l t).toArray⟩, .int .i64 0]) ∧ Below w.heap.size w w' := by
 have Hk : Hid (∀ w, Hs.z0j w → Calls Tryz.prog 54 #[.string ⟨l.toArray⟩, .string ⟨t.toArray⟩] w fun e w' => e = .returned (.string ⟨(z6s l t).toArray⟩) ∧ Below w.heap.size w w') := fun w ht => q5s l t (by omega) htl w ht
 obtain ⟨kb, hkb⟩ : ∃ k, k = z6s l t := ⟨_, rfl⟩
 rw [← hkb] at Hk ⊢
 clear hkb
 have Ht : Hid (Hs.z0j w) := ht
 have hli : (l.length : Int) = 32 := by omega
 clear ht
 go_enter Tryz.func14, Tryz.ntmps14
 go_wp2_with fail
 refine (Hk.out w Ht.out).mono ?_
 rintro e w1 ⟨rfl, hb1⟩
 have HB : Hid (Below w.heap.size w w1) := hb1
 clear hb1
 go_wp2_with fail
 exact bodyPost_ret (v := .tuple #[.string ⟨kb.toArray⟩, .int .i64 0]) (by simp [results, Tryz.results14, go_sem]) rfl ⟨rfl, HB.out⟩
set_option maxHeartbeats 400000 in
theorem x1c (k t g : List UInt8) (htl : t.length ≤ 900000000) (w : World) (ht : Hs.z0j w) : Calls Tryz.prog 11 #[.string ⟨k.toArray⟩, .string ⟨t.toArray⟩, .string ⟨g.toArray⟩] w fun e w' => e = .returned (.bool (z0q k t g)) ∧ Below w.heap.size w w' := by
 have Hk : Hid (∀ w, Hs.z0j w → Calls Tryz.prog 52 #[.string ⟨k.toArray⟩, .string ⟨t.toArray⟩, .string ⟨g.toArray⟩] w fun e w' => e = .returned (.bool (z0q k t g)) ∧ Below w.heap.size w w') := fun w ht => x8c k t g htl w ht
 obtain ⟨kb, hkb⟩ : ∃ b, b = z0q k t g := ⟨_, rfl⟩
 rw [← hkb] at Hk ⊢
 clear hkb
 have Ht : Hid (Hs.z0j w) := ht
 clear ht
 go_enter Tryz.func11, Tryz.ntmps11
 go_wp2_with fail
 refine (Hk.out w Ht.out).mono ?_
 rintro e w1 ⟨rfl, hb1⟩
 have HB : Hid (Below w.heap.size w w1) := hb1
 clear hb1
 go_wp2_with fail
 exact bodyPost_ret (v := .bool kb) (by simp [results, Tryz.results11, go_sem]) rfl ⟨rfl, HB.out⟩
end Gw
end Go.Proofs.YtbojijefenfbgaaGreatDoor
namespace Go.Proofs.YtbojijefenfbgaaGreatDoor
open Go.RowKit
namespace Dc
open Bt Ed Cw
open Sw (LL)
end Dc
end Go.Proofs.YtbojijefenfbgaaGreatDoor
