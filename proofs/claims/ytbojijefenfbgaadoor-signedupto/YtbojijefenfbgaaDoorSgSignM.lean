/- What Right asks, in points. -/
/- The base's order; a signature is right, and with another s it is not. -/
/- Multiples of a point reckoned by the kernel; the base's order. -/
import Derived.Test.YtbojijefenfbgaaDoorSgQRel
namespace Go.Proofs.YtbojijefenfbgaaDoor
open Go.RowKit
namespace Gw
open Fw Bt Ww Sw Cw Ed
theorem lowQ_num (q : Q) : (lowQ q).num = q.num % 57896044618658097711785492504343953926634992332820282019728792003956564819968 := by
  unfold lowQ Q.num
  simp only
  rw [low_val]
  have h0 := q.a0.isLt
  have h1 := q.a1.isLt
  have h2 := q.a2.isLt
  have h3 := q.a3.isLt
  omega
theorem topQ_odd (q : Q) : decide (un (q.a3 >>> (63 : Nat)) = 1) = decide (q.num / 57896044618658097711785492504343953926634992332820282019728792003956564819968 = 1) := by
  have e : (q.a3 >>> (63 : Nat)).toNat = q.num / 57896044618658097711785492504343953926634992332820282019728792003956564819968 := by
    rw [BitVec.toNat_ushiftRight, Nat.shiftRight_eq_div_pow]
    unfold Q.num
    have h0 := q.a0.isLt
    have h1 := q.a1.isLt
    have h2 := q.a2.isLt
    have h3 := q.a3.isLt
    omega
  unfold un
  rw [e]
  by_cases h : q.num / 57896044618658097711785492504343953926634992332820282019728792003956564819968 = 1
  · rw [h]; rfl
  · rw [decide_eq_false h]
    exact decide_eq_false (by omega)
theorem enc_mod (p : Pt) : enc p.1 p.2 % 57896044618658097711785492504343953926634992332820282019728792003956564819968 = p.2.val ∧ enc p.1 p.2 / 57896044618658097711785492504343953926634992332820282019728792003956564819968 = if oddF p.1 then 1 else 0 := by
  have h : p.2.val < 57896044618658097711785492504343953926634992332820282019728792003956564819949 := p.2.isLt
  unfold enc
  split <;> omega
theorem encP_le (p : Pt) : le (encP p) = enc p.1 p.2 := le_leB 32 _ (Nat.lt_of_lt_of_le (enc_lt _ _) (by decide))
theorem encP_inj {p q : Pt} (hp : OnP p) (hq : OnP q) (h : encP p = encP q) : p = q := by
  have e : enc p.1 p.2 = enc q.1 q.2 := by rw [← encP_le, ← encP_le, h]
  have h1 := enc_mod p
  have h2 := enc_mod q
  rw [e] at h1
  have hy : p.2 = q.2 := Fin.ext (h1.1.symm.trans h2.1)
  have ho : oddF p.1 = oddF q.1 := by
    have := h1.2.symm.trans h2.2
    cases hp1 : oddF p.1 <;> cases hq1 : oddF q.1 <;> rw [hp1, hq1] at this <;> simp_all
  obtain ⟨x1, y1⟩ := p
  obtain ⟨x2, y2⟩ := q
  have hy' : y1 = y2 := hy
  subst hy'
  rw [on_unique hp hq ho]
theorem kN_lt (R A t : List UInt8) : kN R A t < LL := modL_lt _
noncomputable def decH (f : F × Bool) (odd : Bool) : E × Bool := if f.2 = false then (e0, false) else if (acrossF f.1 odd).2 = false then (e0, false) else (aff (acrossF f.1 odd).1 f.1, true)
theorem decH_true {f : F × Bool} {odd : Bool} (h : (decH f odd).2 = true) : f.2 = true ∧ (acrossF f.1 odd).2 = true ∧ (decH f odd).1 = aff (acrossF f.1 odd).1 f.1 := by
  unfold decH at *
  by_cases h1 : f.2 = false
  · rw [if_pos h1] at h; cases h
  · rw [if_neg h1] at h ⊢
    by_cases h2 : (acrossF f.1 odd).2 = false
    · rw [if_pos h2] at h; cases h
    · rw [if_neg h2]
      exact ⟨by simpa using h1, by simpa using h2, rfl⟩
theorem decH_false {y : F} {odd : Bool} (h : (decH (y, true) odd).2 = false) : (acrossF y odd).2 = false := by
  unfold decH at h
  rw [if_neg (by simp)] at h
  by_cases h2 : (acrossF y odd).2 = false
  · exact h2
  · rw [if_neg h2] at h; cases h
theorem decG_eq (q : Q) : decG q = decH (fromN (lowQ q)) (decide (un (q.a3 >>> (63 : Nat)) = 1)) := rfl
theorem fromN_val {q : Q} (h : (fromN q).2 = true) : (fromN q).1.val = q.num := by
  unfold fromN at h ⊢
  by_cases h2 : q.num < Ed.P
  · rw [dif_pos h2]
  · rw [dif_neg h2] at h; cases h
theorem enc_of {x y : F} {N : Nat} (hy : y.val = N % 57896044618658097711785492504343953926634992332820282019728792003956564819968) (ho : oddF x = decide (N / 57896044618658097711785492504343953926634992332820282019728792003956564819968 = 1)) (hN : N < 115792089237316195423570985008687907853269984665640564039457584007913129639936) : enc x y = N := by
  unfold enc
  rw [hy, ho]
  by_cases h : N / 57896044618658097711785492504343953926634992332820282019728792003956564819968 = 1
  · rw [decide_eq_true h, if_pos rfl]; omega
  · rw [decide_eq_false h, if_neg (by simp)]; omega
theorem dec_wrap {l : List UInt8} (hl : l.length = 32) {x y : F} (D : E) (h4 : OnP (x, y)) (hD : D = aff x y) (hy : y.val = (bq l).num % 57896044618658097711785492504343953926634992332820282019728792003956564819968) (h5 : oddF x = decide ((bq l).num / 57896044618658097711785492504343953926634992332820282019728792003956564819968 = 1)) : ∃ p : Pt, OnP p ∧ D = aff p.1 p.2 ∧ encP p = l := by
  refine ⟨(x, y), h4, hD, ?_⟩
  have hn := bq_num l (by omega)
  have e := enc_of hy h5 (num_lt _)
  show leB (enc x y) 32 = l
  rw [e, hn]
  have := leB_le l
  rwa [hl] at this
theorem dec_true {l : List UInt8} (h : (decF l).2 = true) : ∃ p : Pt, OnP p ∧ (decF l).1 = aff p.1 p.2 ∧ encP p = l := by
  unfold decF at h ⊢
  by_cases hl : l.length = 32
  · rw [if_pos hl] at h ⊢
    rw [decG_eq, topQ_odd] at h ⊢
    obtain ⟨h1, h2, h3⟩ := decH_true h
    obtain ⟨h4, h5⟩ := acrossF_true h2
    exact dec_wrap hl _ h4 h3 ((fromN_val h1).trans (lowQ_num (bq l))) h5
  · rw [if_neg hl] at h; cases h
theorem dec_false {l : List UInt8} (h : (decF l).2 = false) (p : Pt) (hp : OnP p) : encP p ≠ l := by
  intro he
  have hl : l.length = 32 := by rw [← he]; exact encP_len p
  have hN : (bq l).num = enc p.1 p.2 := by rw [bq_num l (by omega), ← he, encP_le]
  unfold decF at h
  rw [if_pos hl, decG_eq, topQ_odd] at h
  have hm := enc_mod p
  have hlow := lowQ_num (bq l)
  rw [hN, hm.1] at hlow
  have hf : fromN (lowQ (bq l)) = (p.2, true) := by
    unfold fromN
    rw [dif_pos (by rw [hlow]; exact p.2.isLt)]
    exact Prod.ext (Fin.ext hlow) rfl
  rw [hN, hf, hm.2] at h
  have ho : decide ((if oddF p.1 = true then 1 else 0) = 1) = oddF p.1 := by cases oddF p.1 <;> rfl
  rw [ho] at h
  exact acrossF_false (decH_false h) p.1 hp rfl
theorem sum_math {p : Pt} (hp : OnP p) (s k : Q) : sumY s k (aff p.1 p.2) = encP (padd (mulP bP s.num) (mulP (neg p) k.num)) := by
  have h := esum_all (T := TT s k (aff p.1 p.2)) (p := fun j => if j = 0 then bP else neg p) (fun j => by
    show OnP (if j = 0 then bP else neg p)
    split
    · exact bP_on
    · exact neg_on hp) (fun j => by
    show Rep (TU s k (aff bX bY) (eneg (aff p.1 p.2)) j).2 (if j = 0 then bP else neg p)
    unfold TU
    by_cases hj : j = 0
    · rw [if_pos hj, if_pos hj]; exact aff_rep bX bY
    · rw [if_neg hj, if_neg hj]; exact eneg_rep (aff_rep p.1 p.2)) 2
  have h2 : pS (fun j => if j = 0 then bP else neg p) (fun j => (TT s k (aff p.1 p.2) j).1.num) 2 = padd (mulP bP s.num) (mulP (neg p) k.num) := by
    show padd (padd zero (mulP bP s.num)) (mulP (neg p) k.num) = _
    rw [zero_padd]
  rw [h2] at h
  exact rep_bytes h
theorem right_iff (k t g : List UInt8) : rightE k t g = true ↔ g.length = 64 ∧ le (g.drop 32) < LL ∧ ∃ p : Pt, OnP p ∧ encP p = k ∧ encP (padd (mulP bP (le (g.drop 32))) (mulP (neg p) (kN (g.take 32) k t))) = g.take 32 := by
  unfold rightE
  constructor
  · intro h
    by_cases h1 : k.length = 32 ∧ g.length = 64
    · rw [if_pos h1] at h
      by_cases h2 : le (g.drop 32) < LL
      · rw [if_pos h2] at h
        by_cases h3 : (decF k).2 = true
        · rw [if_pos h3] at h
          obtain ⟨p, hp, hd, he⟩ := dec_true h3
          have h4 := of_decide_eq_true h
          rw [hd, sum_math hp, bq_num _ (by simp; omega), nq_num (LL_lt (kN_lt _ _ _))] at h4
          exact ⟨h1.2, h2, p, hp, he, h4⟩
        · rw [if_neg h3] at h; cases h
      · rw [if_neg h2] at h; cases h
    · rw [if_neg h1] at h; cases h
  · rintro ⟨hg, hs, p, hp, he, hr⟩
    have hk : k.length = 32 := by rw [← he]; exact encP_len p
    rw [if_pos ⟨hk, hg⟩, if_pos hs]
    have h3 : (decF k).2 = true := by
      cases h : (decF k).2 with
      | true => rfl
      | false => exact absurd he (dec_false h p hp)
    rw [if_pos h3]
    obtain ⟨p', hp', hd, he'⟩ := dec_true h3
    have hpp : p' = p := encP_inj hp' hp (he'.trans he.symm)
    subst hpp
    refine decide_eq_true ?_
    rw [hd, sum_math hp, bq_num _ (by simp; omega), nq_num (LL_lt (kN_lt _ _ _))]
    exact hr
end Gw
end Go.Proofs.YtbojijefenfbgaaDoor
namespace Go.Proofs.YtbojijefenfbgaaDoor
open Go.RowKit
namespace Ed
theorem gen_mmneg (n : Nat) [NeZero n] (a b c d : Fin n) : (-a) * (-b) * c * d = a * b * c * d := by grind
theorem gen_ne1' (n : Nat) [NeZero n] (c a b x y u : Fin n) : c * (-a * y + x * -b) * u = -(c * (a * y + x * b) * u) := by grind
theorem gen_ne2' (n : Nat) [NeZero n] (c a b x y u : Fin n) : c * (x * y + -a * -b) * u = c * (x * y + a * b) * u := by grind
theorem neg_padd (p q : Pt) : neg (padd p q) = padd (neg p) (neg q) := by
  have hm : mm (neg p) (neg q) = mm p q := gen_mmneg P p.1 q.1 p.2 q.2
  have hx : (padd (neg p) (neg q)).1 = (neg (padd p q)).1 := by
    unfold padd
    rw [hm]
    exact gen_ne1' P cC p.1 q.1 p.2 q.2 _
  have hy : (padd (neg p) (neg q)).2 = (neg (padd p q)).2 := by
    unfold padd
    rw [hm]
    exact gen_ne2' P cC p.1 q.1 p.2 q.2 _
  exact (Prod.ext hx hy).symm
theorem neg_zero : neg zero = zero := by decide
theorem mulP_neg (p : Pt) (n : Nat) : mulP (neg p) n = neg (mulP p n) := by
  induction n with
  | zero => exact neg_zero.symm
  | succ n ih =>
    show padd (mulP (neg p) n) (neg p) = neg (padd (mulP p n) p)
    rw [ih, neg_padd]
theorem mulP_zero (n : Nat) : mulP zero n = zero := by
  induction n with
  | zero => rfl
  | succ n ih =>
    show padd (mulP zero n) zero = zero
    rw [ih]; exact padd_zero zero
theorem cancel {a b c : Pt} (ha : OnP a) (hb : OnP b) (hc : OnP c) (h : padd a c = padd b c) : a = b := by
  have h1 : padd (padd a c) (neg c) = padd (padd b c) (neg c) := by rw [h]
  rw [padd_assoc ha hc (neg_on hc), padd_assoc hb hc (neg_on hc), padd_neg hc, padd_zero, padd_zero] at h1
  exact h1
section
variable {b : Pt} {L : Nat}
theorem ord_mod (hb : OnP b) (h0 : mulP b L = zero) (n : Nat) : mulP b (n % L) = mulP b n := by
  have e : mulP b n = mulP b (L * (n / L) + n % L) := by rw [Nat.div_add_mod]
  rw [e, mulP_add hb, ← mulP_mul hb, h0, mulP_zero, zero_padd]
theorem ord_zero (hL : Nt.IsPrime L) (hb : OnP b) (h0 : mulP b L = zero) (hne : b ≠ zero) {d : Nat} (hd : mulP b d = zero) : L ∣ d := by
  by_cases h : L ∣ d
  · exact h
  · have h1 := Nt.fermat_one hL d h
    have h2 : mulP b (d ^ (L - 1)) = zero := by
      have hL2 := hL.1
      rw [show L - 1 = (L - 2) + 1 by omega, Nat.pow_succ, Nat.mul_comm, ← mulP_mul hb, hd, mulP_zero]
    rw [← ord_mod hb h0, h1, mulP_one] at h2
    exact absurd h2 hne
theorem ord_inj (hL : Nt.IsPrime L) (hb : OnP b) (h0 : mulP b L = zero) (hne : b ≠ zero) {i j : Nat} (hi : i < L) (hj : j < L) (h : mulP b i = mulP b j) : i = j := by
  have key : ∀ i j, i ≤ j → j < L → mulP b i = mulP b j → i = j := by
    intro i j hij hj h
    have e : mulP b j = padd (mulP b (j - i)) (mulP b i) := by rw [← mulP_add hb, Nat.sub_add_cancel hij]
    have h1 : padd zero (mulP b i) = padd (mulP b (j - i)) (mulP b i) := by rw [zero_padd, ← e, h]
    have h2 := cancel zero_on (mulP_on hb _) (mulP_on hb _) h1
    have h3 := ord_zero hL hb h0 hne h2.symm
    rcases Nat.eq_zero_or_pos (j - i) with h4 | h4
    · omega
    · have := Nat.le_of_dvd h4 h3
      omega
  rcases Nat.le_total i j with hij | hij
  · exact key i j hij hj h
  · exact (key j i hij hi h.symm).symm
end
end Ed
namespace Gw
open Fw Bt Ww Sw Cw Ed
theorem bP_ne : bP ≠ zero := by decide
theorem key_eq (l : List UInt8) : keyB l = encP (mulP bP (sec l)) := rfl
theorem sig_take (l t : List UInt8) : (sigB l t).take 32 = rB l t := by
  unfold sigB
  rw [List.take_append_of_le_length (by rw [show (rB l t).length = 32 from encP_len _]; exact Nat.le_refl _), List.take_of_length_le (by rw [show (rB l t).length = 32 from encP_len _]; exact Nat.le_refl _)]
theorem sig_drop (l t : List UInt8) : (sigB l t).drop 32 = leB (sN l t) 32 := by
  unfold sigB
  exact List.drop_left' (encP_len _)
theorem sig_len (l t : List UInt8) : (sigB l t).length = 64 := by
  unfold sigB
  rw [List.length_append, leB_length, show (rB l t).length = 32 from encP_len _]
theorem sN_lt (l t : List UInt8) : sN l t < LL := modL_lt _
theorem sig_le (l t : List UInt8) : le ((sigB l t).drop 32) = sN l t := by
  rw [sig_drop]
  exact le_leB 32 _ (Nat.lt_of_lt_of_le (LL_lt (sN_lt l t)) (by decide))
theorem sign_math {b : Pt} (hb : OnP b) {L : Nat} (h0 : mulP b L = zero) (r k a : Nat) : padd (mulP b ((r + k * a) % L)) (mulP (neg (mulP b a)) k) = mulP b r := by
  rw [ord_mod hb h0, mulP_add hb, mulP_neg, mulP_mul hb, Nat.mul_comm k a, padd_assoc (mulP_on hb _) (mulP_on hb _) (neg_on (mulP_on hb _)), padd_neg (mulP_on hb _), padd_zero]
/-- What was signed is right. -/
theorem right_sig (h0 : mulP bP LL = zero) (l t : List UInt8) : rightE (keyB l) t (sigB l t) = true := by
  rw [right_iff]
  refine ⟨sig_len l t, by rw [sig_le]; exact sN_lt l t, mulP bP (sec l), mulP_on bP_on _, (key_eq l).symm, ?_⟩
  rw [sig_le, sig_take]
  have h := sign_math bP_on h0 (rN l t) (kN (rB l t) (keyB l) t) (sec l)
  have e : sN l t = (rN l t + kN (rB l t) (keyB l) t * sec l) % LL := rfl
  rw [e, h]
  rfl
/-- With another s it is not. -/
theorem right_other (hL : Nt.IsPrime LL) (h0 : mulP bP LL = zero) {k t g g' : List UInt8} (h : rightE k t g = true) (ht : g'.take 32 = g.take 32) (hs : le (g'.drop 32) ≠ le (g.drop 32)) : rightE k t g' = false := by
  cases h' : rightE k t g' with
  | false => rfl
  | true =>
    obtain ⟨_, h1, p, hp, he, hr⟩ := (right_iff k t g).1 h
    obtain ⟨_, h1', p', hp', he', hr'⟩ := (right_iff k t g').1 h'
    obtain rfl : p' = p := encP_inj hp' hp (he'.trans he.symm)
    rw [ht] at hr'
    have hn := mulP_on (neg_on hp) (kN (g.take 32) k t)
    have h2 := encP_inj (padd_on (mulP_on bP_on _) hn) (padd_on (mulP_on bP_on _) hn) (hr'.trans hr.symm)
    have h3 := cancel (mulP_on bP_on _) (mulP_on bP_on _) hn h2
    exact absurd (ord_inj hL bP_on h0 bP_ne h1' h1 h3) hs
end Gw
end Go.Proofs.YtbojijefenfbgaaDoor
namespace Go.Proofs.YtbojijefenfbgaaDoor
open Go.RowKit
namespace Ed
/-- k of n, with n reckoned first. -/
def force (n : Nat) (k : Nat → Bool) : Bool := Nat.rec (k 0) (fun m _ => k (m + 1)) n
theorem force_eq (n : Nat) (k : Nat → Bool) : force n k = k n := by cases n <;> rfl
def frc (v : F) (k : F → Bool) : Bool := force v.val fun n => k (Fin.ofNat P n)
theorem frc_eq (v : F) (k : F → Bool) : frc v k = k v := by
  unfold frc
  rw [force_eq]
  congr 1
  exact Fin.ext (Nat.mod_eq_of_lt v.isLt)
def frcE (e : E) (k : E → Bool) : Bool := frc e.x fun x => frc e.y fun y => frc e.z fun z => frc e.t fun t => k ⟨x, y, z, t⟩
theorem frcE_eq (e : E) (k : E → Bool) : frcE e k = k e := by
  unfold frcE
  rw [frc_eq, frc_eq, frc_eq, frc_eq]
/-- The bits of n from the i-th down, behind acc. -/
def runB (b : E) (n : Nat) : Nat → E → (E → Bool) → Bool
  | 0, acc, k => k acc
  | i + 1, acc, k => frcE (edbl acc) fun a => cond (Nat.beq (n / 2 ^ i % 2) 1) (frcE (eadd a b) fun a => runB b n i a k) (runB b n i a k)
theorem runB_rep {b : E} {p : Pt} (hp : OnP p) (hb : Rep b p) (n : Nat) (k : E → Bool) (i : Nat) : ∀ acc, Rep acc (mulP p (n / 2 ^ i)) → runB b n i acc k = true → ∃ e, Rep e (mulP p n) ∧ k e = true := by
  induction i with
  | zero =>
    intro acc h hr
    rw [Nat.pow_zero, Nat.div_one] at h
    exact ⟨acc, h, hr⟩
  | succ i ih =>
    intro acc h hr
    unfold runB at hr
    rw [frcE_eq] at hr
    have hd := edbl_rep (mulP_on hp _) h
    rw [← mulP_add hp] at hd
    have e2 : n / 2 ^ (i + 1) = n / 2 ^ i / 2 := by rw [Nat.pow_succ, Nat.div_div_eq_div_mul]
    rw [e2] at hd
    cases hc : Nat.beq (n / 2 ^ i % 2) 1 with
    | true =>
      rw [hc, cond_true, frcE_eq] at hr
      have h1 : n / 2 ^ i % 2 = 1 := Nat.eq_of_beq_eq_true hc
      have ha := eadd_rep (mulP_on hp _) hp hd hb
      have e3 : padd (mulP p (n / 2 ^ i / 2 + n / 2 ^ i / 2)) p = mulP p (n / 2 ^ i / 2 + n / 2 ^ i / 2 + 1) := rfl
      rw [e3, show n / 2 ^ i / 2 + n / 2 ^ i / 2 + 1 = n / 2 ^ i by omega] at ha
      exact ih _ ha hr
    | false =>
      rw [hc, cond_false] at hr
      have h1 : n / 2 ^ i % 2 ≠ 1 := Nat.ne_of_beq_eq_false hc
      rw [show n / 2 ^ i / 2 + n / 2 ^ i / 2 = n / 2 ^ i by omega] at hd
      exact ih _ hd hr
/-- n times p is the point (x, y), as the kernel reckons. -/
def isB (x y : F) (e : E) : Bool := Nat.beq e.x.val (x * e.z).val && Nat.beq e.y.val (y * e.z).val
theorem gen_commu (n : Nat) [NeZero n] (a b : Fin n) : a * b = b * a := by grind
theorem isB_spec {x y : F} {e : E} {q : Pt} (h : isB x y e = true) (hr : Rep e q) : q = (x, y) := by
  unfold isB at h
  rw [Bool.and_eq_true] at h
  have h1 : e.x = x * e.z := Fin.ext (Nat.eq_of_beq_eq_true h.1)
  have h2 : e.y = y * e.z := Fin.ext (Nat.eq_of_beq_eq_true h.2)
  have c1 : e.z * q.1 = e.z * x := by rw [gen_commu P e.z q.1, gen_commu P e.z x, ← hr.x, h1]
  have c2 : e.z * q.2 = e.z * y := by rw [gen_commu P e.z q.2, gen_commu P e.z y, ← hr.y, h2]
  exact Prod.ext (mul_cancel hr.z c1) (mul_cancel hr.z c2)
theorem mul_is {b : E} {p : Pt} (hp : OnP p) (hb : Rep b p) (n i : Nat) (hn : n < 2 ^ i) (x y : F) (h : runB b n i ezero (isB x y) = true) : mulP p n = (x, y) := by
  have h0 : Rep ezero (mulP p (n / 2 ^ i)) := by
    rw [Nat.div_eq_of_lt hn]
    exact ezero_rep
  obtain ⟨e, hr, hk⟩ := runB_rep hp hb n _ i _ h0 h
  exact isB_spec hk hr
end Ed
namespace Gw
open Fw Bt Ww Sw Cw Ed
theorem base_order : mulP bP LL = zero := mul_is bP_on (aff_rep bX bY) LL 253 (by decide) 0 1 (by kernel_rfl)
end Gw
end Go.Proofs.YtbojijefenfbgaaDoor
