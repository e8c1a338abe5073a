/- Walks of the document's low, parts, order. What Right asks, in points. The base's order; a signature is right, and with another s it is not. Multiples of a point reckoned by the kernel; the base's order. Walks of the package postern: Key, Sign, Right. Walk of the document's rest. -/
import Derived.Test.YtbojijefenfbgaaGreatDoorTtDocJ
namespace Go.Proofs.YtbojijefenfbgaaGreatDoor
open Go.RowKit
namespace Dc
open Bt Ed Cw
theorem y4s (W : World) (s : ByteArray) (k : Nat) (h : k < s.size) (i : Int) (hi : i = (k : Int)) : Sem.run Tryz.prog (Instr.index 9 (.string s) (.int .i64 i)) W = .ok (.int .u8 ((s[k]).toNat : Int)) W := by
 subst hi
 have h1 : (0 : Int) ≤ (k : Int) ∧ (k : Int) < (s.size : Int) := by omega
 simp [Instr.index, asIntOf, run_underlying Tryz.underlying9, h]
end Dc
open Go.RowKit
namespace Gw
open Fw Bt Ww Sw Cw Ed
theorem x1k (q : Q) : (x4a q).num = q.num % 57896044618658097711785492504343953926634992332820282019728792003956564819968 := by
 unfold x4a Q.num
 simp only
 rw [x7j]
 have h0 := q.a0.isLt
 have h1 := q.a1.isLt
 have h2 := q.a2.isLt
 have h3 := q.a3.isLt
 omega
theorem x2s (q : Q) : decide (un (q.a3 >>> (63 : Nat)) = 1) = decide (q.num / 57896044618658097711785492504343953926634992332820282019728792003956564819968 = 1) := by
 have e : (q.a3 >>> (63 : Nat)).toNat = q.num / 57896044618658097711785492504343953926634992332820282019728792003956564819968 := by
  rw [BitVec.toNat_ushiftRight, Nat.shiftRight_eq_div_pow]
  unfold Q.num
  have h0 := q.a0.isLt
  have h1 := q.a1.isLt
  have h2 := q.a2.isLt
  have h3 := q.a3.isLt
  omega
 unfold un
 rw [e]
 by_cases h : q.num / 57896044618658097711785492504343953926634992332820282019728792003956564819968 = 1
 ·rw [h]; rfl
 ·rw [decide_eq_false h]
  exact decide_eq_false (by omega)
theorem y8p (p : Pt) : enc p.1 p.2 % 57896044618658097711785492504343953926634992332820282019728792003956564819968 = p.2.val ∧ enc p.1 p.2 / 57896044618658097711785492504343953926634992332820282019728792003956564819968 = if z5t p.1 then 1 else 0 := by
 have h : p.2.val < 57896044618658097711785492504343953926634992332820282019728792003956564819949 := p.2.isLt
 unfold enc
 split <;> omega
theorem y8o (p : Pt) : le (y3v p) = enc p.1 p.2 := q5w 32 _ (Nat.lt_of_lt_of_le (k3p _ _) (by decide))
theorem y0c {p q : Pt} (hp : OnP p) (hq : OnP q) (h : y3v p = y3v q) : p = q := by
 have e : enc p.1 p.2 = enc q.1 q.2 := by rw [← y8o, ← y8o, h]
 have h1 := y8p p
 have h2 := y8p q
 rw [e] at h1
 have hy : p.2 = q.2 := Fin.ext (h1.1.symm.trans h2.1)
 have ho : z5t p.1 = z5t q.1 := by
  have := h1.2.symm.trans h2.2
  cases hp1 : z5t p.1 <;> cases hq1 : z5t q.1 <;> rw [hp1, hq1] at this <;> simp_all
 obtain ⟨x1, y1⟩ := p
 obtain ⟨x2, y2⟩ := q
 have hy' : y1 = y2 := hy
 subst hy'
 rw [x8a hp hq ho]
theorem k5a (R A t : List UInt8) : kN R A t < LL := z8v _
noncomputable def k2i (f : F × Bool) (odd : Bool) : E × Bool := if f.2 = false then (e0, false) else if (z1q f.1 odd).2 = false then (e0, false) else (aff (z1q f.1 odd).1 f.1, true)
theorem x6d {f : F × Bool} {odd : Bool} (h : (k2i f odd).2 = true) : f.2 = true ∧ (z1q f.1 odd).2 = true ∧ (k2i f odd).1 = aff (z1q f.1 odd).1 f.1 := by
 unfold k2i at *
 by_cases h1 : f.2 = false
 ·rw [if_pos h1] at h; cases h
 ·rw [if_neg h1] at h ⊢
  by_cases h2 : (z1q f.1 odd).2 = false
  ·rw [if_pos h2] at h; cases h
  ·rw [if_neg h2]
   exact ⟨by simpa using h1, by simpa using h2, rfl⟩
theorem x3i {y : F} {odd : Bool} (h : (k2i (y, true) odd).2 = false) : (z1q y odd).2 = false := by
 unfold k2i at h
 rw [if_neg (by simp)] at h
 by_cases h2 : (z1q y odd).2 = false
 ·exact h2
 ·rw [if_neg h2] at h; cases h
theorem x6c (q : Q) : q7q q = k2i (z7c (x4a q)) (decide (un (q.a3 >>> (63 : Nat)) = 1)) := rfl
theorem x6p {q : Q} (h : (z7c q).2 = true) : (z7c q).1.val = q.num := by
 unfold z7c at h ⊢
 by_cases h2 : q.num < Ed.P
 ·rw [dif_pos h2]
 ·rw [dif_neg h2] at h; cases h
theorem k3q {x y : F} {N : Nat} (hy : y.val = N % 57896044618658097711785492504343953926634992332820282019728792003956564819968) (ho : z5t x = decide (N / 57896044618658097711785492504343953926634992332820282019728792003956564819968 = 1)) (hN : N < 115792089237316195423570985008687907853269984665640564039457584007913129639936) : enc x y = N := by
 unfold enc
 rw [hy, ho]
 by_cases h : N / 57896044618658097711785492504343953926634992332820282019728792003956564819968 = 1
 ·rw [decide_eq_true h, if_pos rfl]; omega
 ·rw [decide_eq_false h, if_neg (by simp)]; omega
theorem q1j {l : List UInt8} (hl : l.length = 32) {x y : F} (D : E) (h4 : OnP (x, y)) (hD : D = aff x y) (hy : y.val = (bq l).num % 57896044618658097711785492504343953926634992332820282019728792003956564819968) (h5 : z5t x = decide ((bq l).num / 57896044618658097711785492504343953926634992332820282019728792003956564819968 = 1)) : ∃ p : Pt, OnP p ∧ D = aff p.1 p.2 ∧ y3v p = l := by
 refine ⟨(x, y), h4, hD, ?_⟩
 have hn := z9d l (by omega)
 have e := k3q hy h5 (z5r _)
 show leB (enc x y) 32 = l
 rw [e, hn]
 have := k5b l
 rwa [hl] at this
theorem x0q {l : List UInt8} (h : (z9s l).2 = true) : ∃ p : Pt, OnP p ∧ (z9s l).1 = aff p.1 p.2 ∧ y3v p = l := by
 unfold z9s at h ⊢
 by_cases hl : l.length = 32
 ·rw [if_pos hl] at h ⊢
  rw [x6c, x2s] at h ⊢
  obtain ⟨h1, h2, h3⟩ := x6d h
  obtain ⟨h4, h5⟩ := y5p h2
  exact q1j hl _ h4 h3 ((x6p h1).trans (x1k (bq l))) h5
 ·rw [if_neg hl] at h; cases h
theorem y5v {l : List UInt8} (h : (z9s l).2 = false) (p : Pt) (hp : OnP p) : y3v p ≠ l := by
 intro he
 have hl : l.length = 32 := by rw [← he]; exact z3f p
 have hN : (bq l).num = enc p.1 p.2 := by rw [z9d l (by omega), ← he, y8o]
 unfold z9s at h
 rw [if_pos hl, x6c, x2s] at h
 have hm := y8p p
 have hlow := x1k (bq l)
 rw [hN, hm.1] at hlow
 have hf : z7c (x4a (bq l)) = (p.2, true) := by
  unfold z7c
  rw [dif_pos (by rw [hlow]; exact p.2.isLt)]
  exact Prod.ext (Fin.ext hlow) rfl
 rw [hN, hf, hm.2] at h
 have ho : decide ((if z5t p.1 = true then 1 else 0) = 1) = z5t p.1 := by cases z5t p.1 <;> rfl
 rw [ho] at h
 exact y3f (x3i h) p.1 hp rfl
theorem x2p {p : Pt} (hp : OnP p) (s k : Q) : k7w s k (aff p.1 p.2) = y3v (z2a (z1x bP s.num) (z1x (neg p) k.num)) := by
 have h := x0u (T := TT s k (aff p.1 p.2)) (p := fun j => if j = 0 then bP else neg p) (fun j => by
  show OnP (if j = 0 then bP else neg p)
  split
  ·exact z7b
  ·exact z8d hp) (fun j => by
  show Rep (TU s k (aff bX bY) (q5m (aff p.1 p.2)) j).2 (if j = 0 then bP else neg p)
  unfold TU
  by_cases hj : j = 0
  ·rw [if_pos hj, if_pos hj]; exact z5y bX bY
  ·rw [if_neg hj, if_neg hj]; exact q1o (z5y p.1 p.2)) 2
 have h2 : pS (fun j => if j = 0 then bP else neg p) (fun j => (TT s k (aff p.1 p.2) j).1.num) 2 = z2a (z1x bP s.num) (z1x (neg p) k.num) := by
  show z2a (z2a zero (z1x bP s.num)) (z1x (neg p) k.num) = _
  rw [z6t]
 rw [h2] at h
 exact y7k h
theorem y1j (k t g : List UInt8) : z0n k t g = true ↔ g.length = 64 ∧ le (g.drop 32) < LL ∧ ∃ p : Pt, OnP p ∧ y3v p = k ∧ y3v (z2a (z1x bP (le (g.drop 32))) (z1x (neg p) (kN (g.take 32) k t))) = g.take 32 := by
 unfold z0n
 constructor
 ·intro h
  by_cases h1 : k.length = 32 ∧ g.length = 64
  ·rw [if_pos h1] at h
   by_cases h2 : le (g.drop 32) < LL
   ·rw [if_pos h2] at h
    by_cases h3 : (z9s k).2 = true
    ·rw [if_pos h3] at h
     obtain ⟨p, hp, hd, he⟩ := x0q h3
     have h4 := of_decide_eq_true h
     rw [hd, x2p hp, z9d _ (by simp; omega), z3c (y5m (k5a _ _ _))] at h4
     exact ⟨h1.2, h2, p, hp, he, h4⟩
    ·rw [if_neg h3] at h; cases h
   ·rw [if_neg h2] at h; cases h
  ·rw [if_neg h1] at h; cases h
 ·rintro ⟨hg, hs, p, hp, he, hr⟩
  have hk : k.length = 32 := by rw [← he]; exact z3f p
  rw [if_pos ⟨hk, hg⟩, if_pos hs]
  have h3 : (z9s k).2 = true := by
   cases h : (z9s k).2 with
   | true => rfl
   | false => exact absurd he (y5v h p hp)
  rw [if_pos h3]
  obtain ⟨p', hp', hd, he'⟩ := x0q h3
  have hpp : p' = p := y0c hp' hp (he'.trans he.symm)
  subst hpp
  refine decide_eq_true ?_
  rw [hd, x2p hp, z9d _ (by simp; omega), z3c (y5m (k5a _ _ _))]
  exact hr
end Gw
open Go.RowKit
namespace Ed
theorem x6r (n : Nat) [NeZero n] (a b c d : Fin n) : (-a) * (-b) * c * d = a * b * c * d := by grind
theorem q2c (n : Nat) [NeZero n] (c a b x y u : Fin n) : c * (-a * y + x * -b) * u = -(c * (a * y + x * b) * u) := by grind
theorem q2d (n : Nat) [NeZero n] (c a b x y u : Fin n) : c * (x * y + -a * -b) * u = c * (x * y + a * b) * u := by grind
theorem q2y (p q : Pt) : neg (z2a p q) = z2a (neg p) (neg q) := by
 have hm : mm (neg p) (neg q) = mm p q := x6r P p.1 q.1 p.2 q.2
 have hx : (z2a (neg p) (neg q)).1 = (neg (z2a p q)).1 := by
  unfold z2a
  rw [hm]
  exact q2c P cC p.1 q.1 p.2 q.2 _
 have hy : (z2a (neg p) (neg q)).2 = (neg (z2a p q)).2 := by
  unfold z2a
  rw [hm]
  exact q2d P cC p.1 q.1 p.2 q.2 _
 exact (Prod.ext hx hy).symm
theorem neg_zero : neg zero = zero := by decide
theorem y4f (p : Pt) (n : Nat) : z1x (neg p) n = neg (z1x p n) := by
 induction n with
 | zero => exact neg_zero.symm
 | succ n ih =>
  show z2a (z1x (neg p) n) (neg p) = neg (z2a (z1x p n) p)
  rw [ih, q2y]
theorem y6s (n : Nat) : z1x zero n = zero := by
 induction n with
 | zero => rfl
 | succ n ih =>
  show z2a (z1x zero n) zero = zero
  rw [ih]; exact z2w zero
theorem cancel {a b c : Pt} (ha : OnP a) (hb : OnP b) (hc : OnP c) (h : z2a a c = z2a b c) : a = b := by
 have h1 : z2a (z2a a c) (neg c) = z2a (z2a b c) (neg c) := by rw [h]
 rw [z2b ha hc (z8d hc), z2b hb hc (z8d hc), x1u hc, z2w, z2w] at h1
 exact h1
section
variable {b : Pt} {L : Nat}
theorem y4h (hb : OnP b) (h0 : z1x b L = zero) (n : Nat) : z1x b (n % L) = z1x b n := by
 have e : z1x b n = z1x b (L * (n / L) + n % L) := by rw [Nat.div_add_mod]
 rw [e, z6x hb, ← z8c hb, h0, y6s, z6t]
theorem q3h (hL : Nt.z0i L) (hb : OnP b) (h0 : z1x b L = zero) (hne : b ≠ zero) {d : Nat} (hd : z1x b d = zero) : L ∣ d := by
 by_cases h : L ∣ d
 ·exact h
 ·have h1 := Nt.z8n hL d h
  have h2 : z1x b (d ^ (L - 1)) = zero := by
   have hL2 := hL.1
   rw [show L - 1 = (L - 2) + 1 by omega, Nat.pow_succ, Nat.mul_comm, ← z8c hb, hd, y6s]
  rw [← y4h hb h0, h1, q2x] at h2
  exact absurd h2 hne
theorem k0b (hL : Nt.z0i L) (hb : OnP b) (h0 : z1x b L = zero) (hne : b ≠ zero) {i j : Nat} (hi : i < L) (hj : j < L) (h : z1x b i = z1x b j) : i = j := by
 have key : ∀ i j, i ≤ j → j < L → z1x b i = z1x b j → i = j := by
  intro i j hij hj h
  have e : z1x b j = z2a (z1x b (j - i)) (z1x b i) := by rw [← z6x hb, Nat.sub_add_cancel hij]
  have h1 : z2a zero (z1x b i) = z2a (z1x b (j - i)) (z1x b i) := by rw [z6t, ← e, h]
  have h2 := cancel x0g (z1i hb _) (z1i hb _) h1
  have h3 := q3h hL hb h0 hne h2.symm
  rcases Nat.eq_zero_or_pos (j - i) with h4 | h4
  ·omega
  ·have := Nat.le_of_dvd h4 h3
   omega
 rcases Nat.le_total i j with hij | hij
 ·exact key i j hij hj h
 ·exact (key j i hij hi h.symm).symm
end
end Ed
namespace Gw
open Fw Bt Ww Sw Cw Ed
theorem k8n : bP ≠ zero := by decide
theorem y2u (l : List UInt8) : z6v l = y3v (z1x bP (sec l)) := rfl
theorem x2i (l t : List UInt8) : (z6l l t).take 32 = rB l t := by
 unfold z6l
 rw [List.take_append_of_le_length (by rw [show (rB l t).length = 32 from z3f _]; exact Nat.le_refl _), List.take_of_length_le (by rw [show (rB l t).length = 32 from z3f _]; exact Nat.le_refl _)]
theorem q4l (l t : List UInt8) : (z6l l t).drop 32 = leB (sN l t) 32 := by
 unfold z6l
 exact List.drop_left' (z3f _)
theorem y9q (l t : List UInt8) : (z6l l t).length = 64 := by
 unfold z6l
 rw [List.length_append, z6w, show (rB l t).length = 32 from z3f _]
theorem k6j (l t : List UInt8) : sN l t < LL := z8v _
theorem q6k (l t : List UInt8) : le ((z6l l t).drop 32) = sN l t := by
 rw [q4l]
 exact q5w 32 _ (Nat.lt_of_lt_of_le (y5m (k6j l t)) (by decide))
theorem x9d {b : Pt} (hb : OnP b) {L : Nat} (h0 : z1x b L = zero) (r k a : Nat) : z2a (z1x b ((r + k * a) % L)) (z1x (neg (z1x b a)) k) = z1x b r := by
 rw [y4h hb h0, z6x hb, y4f, z8c hb, Nat.mul_comm k a, z2b (z1i hb _) (z1i hb _) (z8d (z1i hb _)), x1u (z1i hb _), z2w]
theorem y1k (h0 : z1x bP LL = zero) (l t : List UInt8) : z0n (z6v l) t (z6l l t) = true := by
 rw [y1j]
 refine ⟨y9q l t, by rw [q6k]; exact k6j l t, z1x bP (sec l), z1i z7b _, (y2u l).symm, ?_⟩
 rw [q6k, x2i]
 have h := x9d z7b h0 (rN l t) (kN (rB l t) (z6v l) t) (sec l)
 have e : sN l t = (rN l t + kN (rB l t) (z6v l) t * sec l) % LL := rfl
 rw [e, h]
 rfl
end Gw
open Go.RowKit
namespace Ed
def force (n : Nat) (k : Nat → Bool) : Bool := Nat.rec (k 0) (fun m _ => k (m + 1)) n
theorem force_eq (n : Nat) (k : Nat → Bool) : force n k = k n := by cases n <;> rfl
def frc (v : F) (k : F → Bool) : Bool := force v.val fun n => k (Fin.ofNat P n)
theorem x0x (v : F) (k : F → Bool) : frc v k = k v := by
 unfold frc
 rw [force_eq]
 congr 1
 exact Fin.ext (Nat.mod_eq_of_lt v.isLt)
def k7r (e : E) (k : E → Bool) : Bool := frc e.x fun x => frc e.y fun y => frc e.z fun z => frc e.t fun t => k ⟨x, y, z, t⟩
theorem x6o (e : E) (k : E → Bool) : k7r e k = k e := by
 unfold k7r
 rw [x0x, x0x, x0x, x0x]
def runB (b : E) (n : Nat) : Nat → E → (E → Bool) → Bool
 | 0, acc, k => k acc
 | i + 1, acc, k => k7r (z7x acc) fun a => cond (Nat.beq (n / 2 ^ i % 2) 1) (k7r (y8m a b) fun a => runB b n i a k) (runB b n i a k)
theorem q4e {b : E} {p : Pt} (hp : OnP p) (hb : Rep b p) (n : Nat) (k : E → Bool) (i : Nat) : ∀ acc, Rep acc (z1x p (n / 2 ^ i)) → runB b n i acc k = true → ∃ e, Rep e (z1x p n) ∧ k e = true := by
 induction i with
 | zero =>
  intro acc h hr
  rw [Nat.pow_zero, Nat.div_one] at h
  exact ⟨acc, h, hr⟩
 | succ i ih =>
  intro acc h hr
  unfold runB at hr
  rw [x6o] at hr
  have hd := z7y (z1i hp _) h
  rw [← z6x hp] at hd
  have e2 : n / 2 ^ (i + 1) = n / 2 ^ i / 2 := by rw [Nat.pow_succ, Nat.div_div_eq_div_mul]
  rw [e2] at hd
  cases hc : Nat.beq (n / 2 ^ i % 2) 1 with
  | true =>
   rw [hc, cond_true, x6o] at hr
   have h1 : n / 2 ^ i % 2 = 1 := Nat.eq_of_beq_eq_true hc
   have ha := y3u (z1i hp _) hp hd hb
   have e3 : z2a (z1x p (n / 2 ^ i / 2 + n / 2 ^ i / 2)) p = z1x p (n / 2 ^ i / 2 + n / 2 ^ i / 2 + 1) := rfl
   rw [e3, show n / 2 ^ i / 2 + n / 2 ^ i / 2 + 1 = n / 2 ^ i by omega] at ha
   exact ih _ ha hr
  | false =>
   rw [hc, cond_false] at hr
   have h1 : n / 2 ^ i % 2 ≠ 1 := Nat.ne_of_beq_eq_false hc
   rw [show n / 2 ^ i / 2 + n / 2 ^ i / 2 = n / 2 ^ i by omega] at hd
   exact ih _ hd hr
def isB (x y : F) (e : E) : Bool := Nat.beq e.x.val (x * e.z).val && Nat.beq e.y.val (y * e.z).val
theorem z8a (n : Nat) [NeZero n] (a b : Fin n) : a * b = b * a := by grind
theorem q2j {x y : F} {e : E} {q : Pt} (h : isB x y e = true) (hr : Rep e q) : q = (x, y) := by
 unfold isB at h
 rw [Bool.and_eq_true] at h
 have h1 : e.x = x * e.z := Fin.ext (Nat.eq_of_beq_eq_true h.1)
 have h2 : e.y = y * e.z := Fin.ext (Nat.eq_of_beq_eq_true h.2)
 have c1 : e.z * q.1 = e.z * x := by rw [z8a P e.z q.1, z8a P e.z x, ← hr.x, h1]
 have c2 : e.z * q.2 = e.z * y := by rw [z8a P e.z q.2, z8a P e.z y, ← hr.y, h2]
 exact Prod.ext (z3d hr.z c1) (z3d hr.z c2)
theorem x1m {b : E} {p : Pt} (hp : OnP p) (hb : Rep b p) (n i : Nat) (hn : n < 2 ^ i) (x y : F) (h : runB b n i z7m (isB x y) = true) : z1x p n = (x, y) := by
 have h0 : Rep z7m (z1x p (n / 2 ^ i)) := by
  rw [Nat.div_eq_of_lt hn]
  exact y0r
 obtain ⟨e, hr, hk⟩ := q4e hp hb n _ i _ h0 h
 exact q2j hk hr
end Ed
namespace Gw
open Fw Bt Ww Sw Cw Ed
theorem z4b : z1x bP LL = zero := x1m z7b (z5y bX bY) LL 253 (by decide) 0 1 (by kernel_rfl)
end Gw
open Go.RowKit
namespace Gw
open Fw Bt Ww Sw Cw Ed
set_option maxHeartbeats 400000 in
theorem x1v (l : List UInt8) (hl : l.length = 32) (w : World) (ht : Hs.z0j w) : Calls Tryz.prog 34 #[.string ⟨l.toArray⟩] w fun e w' => e = .returned (.tuple #[.string ⟨(z6v l).toArray⟩, .int .i64 0]) ∧ Below w.heap.size w w' := by
 have Hk : Hid (∀ w, Hs.z0j w → Calls Tryz.prog 83 #[.string ⟨l.toArray⟩] w fun e w' => e = .returned (.string ⟨(z6v l).toArray⟩) ∧ Below w.heap.size w w') := fun w ht => k9i l (by omega) w ht
 obtain ⟨kb, hkb⟩ : ∃ k, k = z6v l := ⟨_, rfl⟩
 rw [← hkb] at Hk ⊢
 clear hkb
 have Ht : Hid (Hs.z0j w) := ht
 have hli : (l.length : Int) = 32 := by omega
 clear ht
 go_enter Tryz.func34, Tryz.ntmps34
 go_wp2_with fail
 refine (Hk.out w Ht.out).mono ?_
 rintro e w1 ⟨rfl, hb1⟩
 have HB : Hid (Below w.heap.size w w1) := hb1
 clear hb1
 go_wp2_with fail
 exact bodyPost_ret (v := .tuple #[.string ⟨kb.toArray⟩, .int .i64 0]) (by simp [results, Tryz.results34, go_sem]) rfl ⟨rfl, HB.out⟩
set_option maxHeartbeats 400000 in
theorem k0u (l t : List UInt8) (hl : l.length = 32) (htl : t.length ≤ 900000000) (w : World) (ht : Hs.z0j w) : Calls Tryz.prog 14 #[.string ⟨l.toArray⟩, .string ⟨t.toArray⟩] w fun e w' => e = .returned (.tuple #[.string ⟨(z6l l t).toArray⟩, .int .i64 0]) ∧ Below w.heap.size w w' := by
 have Hk : Hid (∀ w, Hs.z0j w → Calls Tryz.prog 54 #[.string ⟨l.toArray⟩, .string ⟨t.toArray⟩] w fun e w' => e = .returned (.string ⟨(z6l l t).toArray⟩) ∧ Below w.heap.size w w') := fun w ht => q6l l t (by omega) htl w ht
 obtain ⟨kb, hkb⟩ : ∃ k, k = z6l l t := ⟨_, rfl⟩
 rw [← hkb] at Hk ⊢
 clear hkb
 have Ht : Hid (Hs.z0j w) := ht
 have hli : (l.length : Int) = 32 := by omega
 clear ht
 go_enter Tryz.func14, Tryz.ntmps14
 go_wp2_with fail
 refine (Hk.out w Ht.out).mono ?_
 rintro e w1 ⟨rfl, hb1⟩
 have HB : Hid (Below w.heap.size w w1) := hb1
 clear hb1
 go_wp2_with fail
 exact bodyPost_ret (v := .tuple #[.string ⟨kb.toArray⟩, .int .i64 0]) (by simp [results, Tryz.results14, go_sem]) rfl ⟨rfl, HB.out⟩
set_option maxHeartbeats 400000 in
theorem x1w (k t g : List UInt8) (htl : t.length ≤ 900000000) (w : World) (ht : Hs.z0j w) : Calls Tryz.prog 11 #[.string ⟨k.toArray⟩, .string ⟨t.toArray⟩, .string ⟨g.toArray⟩] w fun e w' => e = .returned (.bool (z0n k t g)) ∧ Below w.heap.size w w' := by
 have Hk : Hid (∀ w, Hs.z0j w → Calls Tryz.prog 52 #[.string ⟨k.toArray⟩, .string ⟨t.toArray⟩, .string ⟨g.toArray⟩] w fun e w' => e = .returned (.bool (z0n k t g)) ∧ Below w.heap.size w w') := fun w ht => x8t k t g htl w ht
 obtain ⟨kb, hkb⟩ : ∃ b, b = z0n k t g := ⟨_, rfl⟩
 rw [← hkb] at Hk ⊢
 clear hkb
 have Ht : Hid (Hs.z0j w) := ht
 clear ht
 go_enter Tryz.func11, Tryz.ntmps11
 go_wp2_with fail
 refine (Hk.out w Ht.out).mono ?_
 rintro e w1 ⟨rfl, hb1⟩
 have HB : Hid (Below w.heap.size w w1) := hb1
 clear hb1
 go_wp2_with fail
 exact bodyPost_ret (v := .bool kb) (by simp [results, Tryz.results11, go_sem]) rfl ⟨rfl, HB.out⟩
end Gw
open Go.RowKit
namespace Dc
open Bt Ed Cw
open Sw (LL)
end Dc
end Go.Proofs.YtbojijefenfbgaaGreatDoor
